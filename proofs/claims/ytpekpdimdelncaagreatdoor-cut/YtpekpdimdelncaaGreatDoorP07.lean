/- Out of: M1, L2, L3. -/
import Derived.Test.YtpekpdimdelncaaGreatDoorProg
import Derived.Test.YtpekpdimdelncaaGreatDoorP06
import Derived.Maps.OwnSet
import Derived.StringKeys
import Derived.RowKit
import Derived.Test.YtpekpdimdelncaaGreatDoorP05
set_option linter.unusedVariables false
namespace Go.Proofs.YtpekpdimdelncaaGreatDoor
section
open Go.RowKit Go.ChangeMaps Go.MapKept
open Go.Maps (Keyed string_keyed)
def str (l:List UInt8):Value:=.string ⟨l.toArray⟩
theorem str_inj {a b:List UInt8} (h:str a=str b):a=b:=by
 unfold str at h
 injection h with h
 injection h with h
 have:=congrArg Array.toList h
 simpa using this
theorem str_bytes (s:ByteArray):str s.data.toList=.string s:=by
 unfold str
 simp
theorem law:Keyed Tryz.prog 9:=string_keyed Tryz.underlying9
theorem key_str (l:List UInt8) (h:l.length≤maxLen):keyOf Tryz.prog 9 (str l)=some (.string l):=by
 have:=WideMaps.keyOf_string_mk (P:=Tryz.prog) (k:=9) Tryz.underlying9 (s:=⟨l.toArray⟩) (by show l.toArray.size≤_; simpa using h)
 simpa [str] using this
def MapAt (w:World) (b:Nat) (l:List (List UInt8×Value)):Prop :=
 ∃ es clock,w.heap[b]? = some (.map es clock)∧es.size≤maxLen∧Stamped es clock∧es.toList.map (fun x=>(x.key,x.val))=l.map (fun p=>(str p.1,p.2))∧∀ p∈l,p.1.length≤maxLen
theorem MapAt.lt {w:World} {b:Nat} {l:List (List UInt8×Value)} (h:MapAt w b l):b < w.heap.size:=by
 obtain ⟨es,clock,hb,_⟩:=h
 exact (Array.getElem?_eq_some_iff.1 hb).1
theorem MapAt.same {w w':World} {b:Nat} {l:List (List UInt8×Value)} (h:MapAt w b l) (hb:w'.heap[b]? = w.heap[b]?):MapAt w' b l:=by
 obtain ⟨es,clock,h1,h2⟩:=h
 exact ⟨es,clock,hb.trans h1,h2⟩
theorem MapAt.isMap {w:World} {b:Nat} {l:List (List UInt8×Value)} (h:MapAt w b l):∃ es clock,w.heap[b]? = some (.map es clock):=by
 obtain ⟨es,clock,h1,_⟩:=h
 exact ⟨es,clock,h1⟩
theorem mapAt_new (w:World):MapAt (w.alloc (.map #[] 0)) w.heap.size [] :=
 ⟨#[],0,(MapKept.heap_alloc w _).1,by simp,stamped_empty 0,rfl,fun p hp=>by simp at hp⟩
theorem nodup_of_map {α β:Type} (f:α→β):∀ {l:List α},(l.map f).Nodup→l.Nodup
 |[],_=>by simp
 |a :: l,h=>by
  simp only [List.map_cons,List.nodup_cons] at h ⊢
  exact ⟨fun ha=>h.1 (List.mem_map.2 ⟨a,ha,rfl⟩),nodup_of_map f h.2⟩
theorem MapAt.nodup {w:World} {b:Nat} {l:List (List UInt8×Value)} (h:MapAt w b l):(l.map (·.1)).Nodup:=by
 obtain ⟨es,clock,h1,h2,h3,h4,h5⟩:=h
 have hk:=h3.2.2
 have e1:es.toList.map (·.key)=(l.map (·.1)).map str:=by
  have:=congrArg (List.map Prod.fst) h4
  simpa [List.map_map,Function.comp_def] using this
 rw [e1] at hk
 exact nodup_of_map _ hk
theorem entries {es:Array MapEntry} {l:List (List UInt8×Value)} (h4:es.toList.map (fun x=>(x.key,x.val))=l.map (fun p=>(str p.1,p.2))) (j:Nat):(es.toList[j]?).map (fun x=>(x.key,x.val))=(l[j]?).map (fun p=>(str p.1,p.2)):=by
 have:=congrArg (fun z=>z[j]?) h4
 simpa using this
theorem look_at {α:Type}:∀ {l:List (List UInt8×α)} {j:Nat} {k:List UInt8} {a:α},(l.map (·.1)).Nodup→l[j]? = some (k,a)→Lard.look l k=some a
 |[],j,k,a,_,h=>by simp at h
 |p :: l,0,k,a,_,h=>by
  simp at h
  rw [h,Lard.look_cons,if_pos rfl]
 |p :: l,j + 1,k,a,hn,h=>by
  simp at h
  simp only [List.map_cons,List.nodup_cons] at hn
  rw [Lard.look_cons,if_neg (fun e=>hn.1 ?_)]
  ·exact look_at hn.2 h
  ·rw [e]
   exact List.mem_map.2 ⟨(k,a),List.mem_of_getElem? h,rfl⟩
theorem map_find {w:World} {b:Nat} {l:List (List UInt8×Value)} {k:List UInt8} {es:Array MapEntry} {clock:Nat} (hk:k.length≤maxLen) (h3:Stamped es clock) (h4:es.toList.map (fun x=>(x.key,x.val))=l.map (fun p=>(str p.1,p.2))) (h5:∀ p∈l,p.1.length≤maxLen) :
  ((Instr.findKey 9 (str k) es.toList).run Tryz.prog w=.ok none w∧Lard.look l k=none∧∀ x∈es.toList,x.key≠str k) ∨
  ∃ j v e0,(Instr.findKey 9 (str k) es.toList).run Tryz.prog w=.ok (some (j,v)) w∧Lard.look l k=some v∧l[j]? = some (k,v)∧es.toList[j]? = some e0∧e0.key=str k∧e0.val=v:=by
 have hnd:(l.map (·.1)).Nodup:=by
  have hk:=h3.2.2
  have e1:es.toList.map (·.key)=(l.map (·.1)).map str:=by
   have:=congrArg (List.map Prod.fst) h4
   simpa [List.map_map,Function.comp_def] using this
  rw [e1] at hk
  exact nodup_of_map _ hk
 have hkeys:∀ x∈es.toList,∃ p∈l,x.key=str p.1∧x.val=p.2:=by
  intro x hx
  obtain ⟨j,hj⟩:=List.getElem?_of_mem hx
  have:=entries h4 j
  rw [hj] at this
  cases hl:l[j]? with
  |none=>rw [hl] at this; simp at this
  |some p =>
   rw [hl] at this
   simp at this
   exact ⟨p,List.mem_of_getElem? hl,this.1,this.2⟩
 rcases law.find w (key_str k hk) es.toList (fun x hx=>by
  obtain ⟨p,hp,h1,_⟩:=hkeys x hx
  exact ⟨_,by rw [h1]; exact key_str p.1 (h5 p hp)⟩) with ⟨h1,h2⟩ | ⟨j,e0,h1,h2,h3'⟩
 ·refine .inl ⟨h1,Lard.look_none.2 (fun p hp e=>?_),h2⟩
  obtain ⟨j,hj⟩:=List.getElem?_of_mem hp
  have:=entries h4 j
  rw [hj] at this
  cases hl:es.toList[j]? with
  |none=>rw [hl] at this; simp at this
  |some x =>
   rw [hl] at this
   simp at this
   exact h2 x (List.mem_of_getElem? hl) (by rw [this.1,e])
 ·have:=entries h4 j
  rw [h2] at this
  cases hl:l[j]? with
  |none=>rw [hl] at this; simp at this
  |some p =>
   rw [hl] at this
   simp at this
   have hp:p=(k,e0.val):=by
    have:p.1=k:=str_inj (this.1.symm.trans h3')
    exact Prod.ext this (by rename_i h6; exact h6.2.symm)
   exact .inr ⟨j,e0.val,e0,h1,look_at hnd (hl.trans (by rw [hp])),hl.trans (by rw [hp]),h2,h3',rfl⟩
section
variable {t e:TypeId}
theorem MapAt.look {w:World} {b:Nat} {l:List (List UInt8×Value)} {k:List UInt8} (h:MapAt w b l) (ht:Tryz.prog.underlying t=some (.map 9 e)) (hk:k.length≤maxLen) {z:Value} (hz:(zeroValue e).run Tryz.prog w=.ok z w) :
  (Instr.lookup t (.map (some b)) (str k) true).run Tryz.prog w=.ok (match Lard.look l k with | some v=>.tuple #[v,.bool true] | none=>.tuple #[z,.bool false]) w:=by
 obtain ⟨es,clock,h1,h2,h3,h4,h5⟩:=h
 rcases map_find (w:=w) (b:=b) hk h3 h4 h5 with ⟨g1,g2,_⟩ | ⟨j,v,e0,g1,g2,_⟩
 ·rw [g2]
  simp [Instr.lookup,run_underlying ht,MapKept.run_getObj_map h1,law.check w _ (key_str k hk),g1,hz,Result.andThen]
 ·rw [g2]
  simp [Instr.lookup,run_underlying ht,MapKept.run_getObj_map h1,law.check w _ (key_str k hk),g1,Result.andThen]
theorem MapAt.look1 {w:World} {b:Nat} {l:List (List UInt8×Value)} {k:List UInt8} (h:MapAt w b l) (ht:Tryz.prog.underlying t=some (.map 9 e)) (hk:k.length≤maxLen) {z:Value} (hz:(zeroValue e).run Tryz.prog w=.ok z w) :
  (Instr.lookup t (.map (some b)) (str k) false).run Tryz.prog w=.ok ((Lard.look l k).getD z) w:=by
 obtain ⟨es,clock,h1,h2,h3,h4,h5⟩:=h
 rcases map_find (w:=w) (b:=b) hk h3 h4 h5 with ⟨g1,g2,_⟩ | ⟨j,v,e0,g1,g2,_⟩
 ·rw [g2]
  simp [Instr.lookup,run_underlying ht,MapKept.run_getObj_map h1,law.check w _ (key_str k hk),g1,hz,Result.andThen]
 ·rw [g2]
  simp [Instr.lookup,run_underlying ht,MapKept.run_getObj_map h1,law.check w _ (key_str k hk),g1,Result.andThen]
theorem grown_block {w:World} {b:Nat} (o:Obj):w.grownBy (setBlock w b o) (some b) :=
 ⟨rfl,rfl,rfl,by simp [setBlock],fun k _ hk=>by
  have:k≠b:=fun e=>hk (by rw [e])
  simp [setBlock,this.symm]⟩
theorem block_set {w:World} {b:Nat} {o o':Obj} (h:w.heap[b]? = some o'):(setBlock w b o).heap[b]? = some o:=by
 have:=(Array.getElem?_eq_some_iff.1 h).1
 simp [setBlock,this]
theorem put_new {α:Type} {l:List (List UInt8×α)} {k:List UInt8} {v:α} (h:Lard.look l k=none):Lard.put l k v=l++[(k,v)]:=by
 unfold Lard.put
 rw [h]
 rfl
theorem put_at {α:Type}:∀ {l:List (List UInt8×α)} {j:Nat} {k:List UInt8} {u v:α},(l.map (·.1)).Nodup→l[j]? = some (k,u)→Lard.put l k v=l.set j (k,v):=by
 intro l j k u v hn hj
 have hl:=look_at hn hj
 unfold Lard.put
 rw [hl,if_pos (show (some u).isSome=true from rfl)]
 clear hl
 induction l generalizing j with
 |nil=>simp at hj
 |cons p l ih =>
  simp only [List.map_cons,List.nodup_cons] at hn
  cases j with
  |zero =>
   simp at hj
   subst hj
   simp only [List.map_cons,List.set_cons_zero,beq_self_eq_true,if_true,List.cons.injEq,true_and]
   rw [List.map_congr_left (g:=id) (fun q hq=>?_),List.map_id]
   rw [if_neg]
   ·rfl
   ·intro e
    exact hn.1 (List.mem_map.2 ⟨q,hq,by simpa using e⟩)
  |succ j =>
   simp at hj
   have hne:¬ p.1=k:=fun e=>hn.1 (List.mem_map.2 ⟨(k,u),List.mem_of_getElem? hj,e.symm⟩)
   simp only [List.map_cons,List.set_cons_succ]
   rw [if_neg (by simpa using hne),ih hn.2 hj]
theorem put_keys {α:Type} {l:List (List UInt8×α)} {k:List UInt8} {v:α} {p:List UInt8×α} (h:p∈Lard.put l k v):p∈l∨p=(k,v):=by
 unfold Lard.put at h
 split at h
 ·obtain ⟨q,hq,rfl⟩:=List.mem_map.1 h
  split
  ·exact .inr rfl
  ·exact .inl hq
 ·simpa using h
theorem MapAt.put {w:World} {b:Nat} {l:List (List UInt8×Value)} {k:List UInt8} (h:MapAt w b l) (ht:Tryz.prog.underlying t=some (.map 9 e)) (hk:k.length≤maxLen) (hroom:l.length < maxLen) (v:Value) :
  ∃ w',(Instr.mapUpdate t (.map (some b)) (str k) v).run Tryz.prog w=.ok () w'∧MapAt w' b (Lard.put l k v)∧w.grownBy w' (some b)∧w'.heap.size=w.heap.size:=by
 have hnd:=h.nodup
 obtain ⟨es,clock,h1,h2,h3,h4,h5⟩:=h
 have hlen:es.size=l.length:=by have:=congrArg List.length h4; simpa using this
 have hall:∀ p∈Lard.put l k v,p.1.length≤maxLen:=fun p hp=>by
  rcases put_keys hp with hp | rfl
  ·exact h5 p hp
  ·exact hk
 rcases map_find (w:=w) (b:=b) hk h3 h4 h5 with ⟨g1,g2,g3⟩ | ⟨j,u,e0,g1,g2,g3,g4,g5,g6⟩
 ·refine ⟨setBlock w b (.map (es.push ⟨str k,v,clock⟩) (clock + 1)),?_,⟨es.push ⟨str k,v,clock⟩,clock + 1,block_set h1,by simp; omega,stamped_push h3 g3,?_,hall⟩,grown_block _,by simp [setBlock]⟩
  ·simp [Instr.mapUpdate,run_underlying ht,MapKept.run_getObj_map h1,law.check w false (key_str k hk),g1,MapKept.run_setObj_map _ h1,Result.andThen,setBlock]
  ·rw [put_new g2,Array.toList_push,List.map_append,List.map_append,h4]
   rfl
 ·have hj:es[j]? = some e0:=by simpa using g4
  have hlist:(es.modify j (fun e'=>{ e' with key:=str k,val:=v })).toList=es.toList.set j { e0 with key:=str k,val:=v }:=by rw [Array.toList_modify,modify_eq_set _ _ _ _ g4]
  refine ⟨setBlock w b (.map (es.modify j (fun e'=>{ e' with key:=str k,val:=v })) clock),?_,⟨es.modify j (fun e'=>{ e' with key:=str k,val:=v }),clock,block_set h1,by simpa using h2,stamped_modify h3 _ _ (fun _ _=>rfl) (fun e' _ he'=>?_),?_,hall⟩,grown_block _,by simp [setBlock]⟩
  ·simp [Instr.mapUpdate,run_underlying ht,MapKept.run_getObj_map h1,law.check w false (key_str k hk),g1,hj,g5,law.stays w (key_str k hk),MapKept.run_setObj_map _ h1,Result.andThen,setBlock]
  ·rw [hj] at he'; cases he'; exact g5.symm
  ·rw [put_at hnd g3,hlist,List.map_set,List.map_set,h4]
theorem del_at {α:Type}:∀ {l:List (List UInt8×α)} {j:Nat} {k:List UInt8} {u:α},(l.map (·.1)).Nodup→l[j]? = some (k,u)→Lard.del l k=l.eraseIdx j:=by
 intro l j k u hn hj
 unfold Lard.del
 induction l generalizing j with
 |nil=>simp at hj
 |cons p l ih =>
  simp only [List.map_cons,List.nodup_cons] at hn
  cases j with
  |zero =>
   simp at hj
   subst hj
   rw [List.filter_cons,if_neg (by simp),List.eraseIdx_cons_zero,List.filter_eq_self]
   intro q hq
   have:¬ q.1=k:=fun e=>hn.1 (List.mem_map.2 ⟨q,hq,e⟩)
   simp [this]
  |succ j =>
   simp at hj
   have hne:¬ p.1=k:=fun e=>hn.1 (List.mem_map.2 ⟨(k,u),List.mem_of_getElem? hj,e.symm⟩)
   rw [List.filter_cons,if_pos (by simpa using hne),List.eraseIdx_cons_succ,ih hn.2 hj]
theorem del_none {α:Type} {l:List (List UInt8×α)} {k:List UInt8} (h:Lard.look l k=none):Lard.del l k=l:=by
 unfold Lard.del
 rw [List.filter_eq_self]
 intro q hq
 have:=Lard.look_none.1 h q hq
 simp [this]
theorem MapAt.del {w:World} {b:Nat} {l:List (List UInt8×Value)} {k:List UInt8} {ty:TypeId} (h:MapAt w b l) (ht:Tryz.prog.underlying t=some (.map 9 e)) (hk:k.length≤maxLen) :
  ∃ w',(Builtin.delete_ #[t,9] ty #[.map (some b),str k]).run Tryz.prog w=.ok (.tuple #[]) w'∧MapAt w' b (Lard.del l k)∧w.grownBy w' (some b)∧w'.heap.size=w.heap.size:=by
 have hnd:=h.nodup
 obtain ⟨es,clock,h1,h2,h3,h4,h5⟩:=h
 rcases map_find (w:=w) (b:=b) hk h3 h4 h5 with ⟨g1,g2,g3⟩ | ⟨j,u,e0,g1,g2,g3,g4,g5,g6⟩
 ·refine ⟨setBlock w b (.map es clock),?_,⟨es,clock,block_set h1,h2,h3,by rw [del_none g2]; exact h4,by rw [del_none g2]; exact h5⟩,grown_block _,by simp [setBlock]⟩
  simp [Builtin.delete_,run_underlying ht,MapKept.run_getObj_map h1,law.check w _ (key_str k hk),g1,MapKept.run_setObj_map _ h1,Result.andThen,setBlock]
 ·have hjl:j < es.toList.length:=(List.getElem?_eq_some_iff.1 g4).1
  have hjs:j < es.size:=by simpa using hjl
  have hsub:(es.eraseIdxIfInBounds j).toList=es.toList.eraseIdx j:=by
   unfold Array.eraseIdxIfInBounds
   rw [dif_pos hjs]
   simp
  refine ⟨setBlock w b (.map (es.eraseIdxIfInBounds j) clock),?_,⟨es.eraseIdxIfInBounds j,clock,block_set h1,Nat.le_trans (MapFrom.size_erase es j) h2,stamped_erase h3 j,?_,?_⟩,grown_block _,by simp [setBlock]⟩
  ·simp [Builtin.delete_,run_underlying ht,MapKept.run_getObj_map h1,law.check w _ (key_str k hk),g1,MapKept.run_setObj_map _ h1,Result.andThen,setBlock]
  ·rw [hsub,del_at hnd g3,map_eraseIdx,map_eraseIdx,h4]
  ·intro p hp
   exact h5 p ((List.filter_sublist).subset hp)
theorem MapAt.clear {w:World} {b:Nat} {l:List (List UInt8×Value)} {ty:TypeId} (h:MapAt w b l) (ht:Tryz.prog.underlying t=some (.map 9 e)) :
  ∃ w',(Builtin.clear_ #[t] ty #[.map (some b)]).run Tryz.prog w=.ok (.tuple #[]) w'∧MapAt w' b []∧w.grownBy w' (some b)∧w'.heap.size=w.heap.size:=by
 obtain ⟨es,clock,h1,h2,h3,h4,h5⟩:=h
 refine ⟨setBlock w b (.map #[] clock),?_,⟨#[],clock,block_set h1,by simp,stamped_empty clock,rfl,fun p hp=>by simp at hp⟩,grown_block _,by simp [setBlock]⟩
 simp [Builtin.clear_,run_underlying ht,MapKept.run_getObj_map h1,MapKept.run_setObj_map _ h1,Result.andThen,setBlock]
theorem MapAt.len {w:World} {b:Nat} {l:List (List UInt8×Value)} {ty:TypeId} (h:MapAt w b l) (ht:Tryz.prog.underlying t=some (.map 9 e)) :
  (Builtin.len_ #[t] ty #[.map (some b)]).run Tryz.prog w=.ok (.int .i64 (l.length:Int)) w:=by
 obtain ⟨es,clock,h1,h2,h3,h4,h5⟩:=h
 have hlen:es.size=l.length:=by have:=congrArg List.length h4; simpa using this
 simp [Builtin.len_,run_underlying ht,MapKept.run_getObj_map h1,Result.andThen,hlen,goInt]
end
end
section
set_option maxRecDepth 100000
set_option maxHeartbeats 1000000
open Go.RowKit
def Deb (w:World):Prop:=w.cell? ⟨7,15,none⟩=some (.int .u8 4)
theorem b1:bits .and .i64 16 15=0:=by decide
theorem b2:IntKind.u64.wrap (bits .and .u64 16 (IntKind.u64.wrap (-16)) * 285870213051353865) / 288230376151711744=15:=by decide
attribute [local go_sem] b1 b2
theorem pow2_16 (w:World):Calls Tryz.prog 267 #[.int .i64 16] w fun e w'=>e=.returned (.bool true)∧w'=w:=by
 go_enter Tryz.func267,Tryz.ntmps267
 go_wp2
 go_ret
 exact ⟨rfl,rfl⟩
theorem tz_16 (w:World) (h:Deb w):Calls Tryz.prog 299 #[.int .u64 16] w fun e w'=>e=.returned (.int .i64 4)∧w'=w:=by
 unfold Deb at h
 go_enter Tryz.func299,Tryz.ntmps299
 go_wp2
 go_ret
 exact ⟨rfl,rfl⟩
theorem tzs_16 (w:World) (h:Deb w):Calls Tryz.prog 268 #[.int .u64 16] w fun e w'=>e=.returned (.int .i64 4)∧w'=w:=by
 go_enter Tryz.func268,Tryz.ntmps268
 go_wp2_with (go_at_call 299; refine (tz_16 _ h).mono ?_; rintro e w' ⟨rfl,rfl⟩)
 go_ret
 exact ⟨rfl,rfl⟩
theorem and15 (u:Nat) (hu:u < 18446744073709551616):bits .and .u64 (u:Int) 15=((u % 16:Nat):Int):=by
 have h:bits .and .u64 (u:Int) 15=IntKind.u64.wrap (((BitVec.ofInt 64 (u:Int)) &&& (BitVec.ofInt 64 15)).toNat:Int):=rfl
 rw [h,BitVec.toNat_and]
 have e:(BitVec.ofInt 64 (u:Int)).toNat=u:=by
  rw [BitVec.toNat_ofInt]
  have:((u:Int) % ((2 ^ 64:Nat):Int))=u:=by
   show (u:Int) % 18446744073709551616=u
   omega
  rw [this]
  rfl
 rw [e]
 have e2:(BitVec.ofInt 64 15).toNat=2 ^ 4 - 1:=rfl
 rw [e2,Nat.and_two_pow_sub_one_eq_mod]
 have:IntKind.u64.wrap (((u % 2 ^ 4:Nat)):Int)=((u % 16:Nat):Int) % 18446744073709551616:=by
  simp [IntKind.wrap,IntKind.bits,IntKind.signed]
 rw [this]
 omega
def hexLow (u:Nat):Nat→List UInt8
 |0=>[]
 |k + 1=>Lard.hexDig (u / 16 ^ k % 16) :: hexLow u k
theorem hexLow_length (u:Nat):∀ k,(hexLow u k).length=k
 |0=>rfl
 |k + 1=>by rw [hexLow,List.length_cons,hexLow_length u k]
theorem zc341:Tryz.zeroCells341.size=65:=by kernel_rfl
def digs:ByteArray:=⟨#[48,49,50,51,52,53,54,55,56,57,97,98,99,100,101,102,103,104,105,106,107,108,109,110,111,112,113,114,115,116,117,118,119,120,121,122]⟩
theorem digs_all:∀ d:Fin 16,(digs[d.val]'(by have:=d.isLt; show d.val < 36; omega))=Lard.hexDig d.val:=by decide
theorem digs_at {d:Nat} (h:d < 16) (h':d < digs.size):digs[d]'h'=Lard.hexDig d:=digs_all ⟨d,h⟩
def Digs (w wr:World) (u k:Nat):Prop :=
 ∃ arr,wr.heap[w.heap.size]? = some (.cells arr 341 (0,0))∧arr.size=65∧Below w.heap.size w wr∧∀ j,j < k→arr[65 - k + j]? = ((hexLow u k)[j]?).map fun c=>.int .u8 (c.toNat:Int)
theorem Digs.start (w:World) (u:Nat):Digs w (w.alloc (.cells Tryz.zeroCells341 341)) u 0 :=
 ⟨_,heap_alloc_new w _,zc341,(Below.refl _ w).alloc (Nat.le_refl _) _,fun j hj=>by omega⟩
theorem Digs.step {w wr:World} {u k:Nat} (h:Digs w wr u k) (hk:k < 65):Digs w (wr.setCell ⟨w.heap.size,65 - (k + 1),none⟩ (.int .u8 ((Lard.hexDig (u / 16 ^ k % 16)).toNat:Int))) u (k + 1):=by
 obtain ⟨arr,h1,h2,h3,h4⟩:=h
 refine ⟨arr.setIfInBounds (65 - (k + 1)) (.int .u8 ((Lard.hexDig (u / 16 ^ k % 16)).toNat:Int)),?_,by simpa using h2,h3.setCell (Nat.le_refl _) _,fun j hj=>?_⟩
 ·simp [World.setCell,Array.getElem?_modify,h1]
 ·rw [Array.getElem?_setIfInBounds]
  cases j with
  |zero =>
   rw [if_pos (by omega),if_pos (by omega),hexLow]
   rfl
  |succ j =>
   rw [if_neg (by omega),hexLow]
   have:=h4 j (by omega)
   rw [show 65 - (k + 1) + (j + 1)=65 - k + j by omega,this]
   simp
theorem Digs.cell {w wr:World} {u k j:Nat} (h:Digs w wr u k) (hk:k≤65) (hj:j < (hexLow u k).length):wr.cell? ⟨w.heap.size,65 - k + j,none⟩=some (.int .u8 ((hexLow u k)[j].toNat:Int)):=by
 obtain ⟨arr,h1,h2,h3,h4⟩:=h
 rw [hexLow_length] at hj
 have:=h4 j hj
 rw [List.getElem?_eq_getElem (by rw [hexLow_length]; exact hj)] at this
 simp [World.cell?,h1,this]
theorem Digs.can {w wr:World} {u k i:Nat} (h:Digs w wr u k) (hi:i < 65):(∃ v,wr.cell? ⟨w.heap.size,i,none⟩=some v)∧wr.frozen? ⟨w.heap.size,i,none⟩=false:=by
 obtain ⟨arr,h1,h2,h3,h4⟩:=h
 refine ⟨⟨arr[i]'(by omega),?_⟩,?_⟩
 ·simp [World.cell?,h1,Array.getElem?_eq_getElem (show i < arr.size by omega)]
 ·simp [World.frozen?,h1]
theorem addr_add (B o j:Nat):(⟨B,o,none⟩:Addr).add j=⟨B,o + j,none⟩:=by
 cases j with
 |zero=>simp [Addr.add]
 |succ j=>simp [Addr.add]
theorem un341:Tryz.prog.underlying 341=some (.array (Tryz.prog.arrayLen 341) (Tryz.prog.elem 341)):=by kernel_rfl
theorem len341:Tryz.prog.arrayLen 341=65:=by kernel_rfl
theorem size341 (w:World):(sizeOf (Tryz.prog.elem 341)).run Tryz.prog w=.ok 1 w:=by kernel_rfl
theorem slice341 (B k:Nat) (hk:k≤7) (W:World):(Instr.sliceAt 341 (.pointer (some ⟨B,0,none⟩)) (some (.int .i64 (65 - (k:Int) - 1))) none none).run Tryz.prog W=.ok (.slice (some ⟨B,65 - k - 1,none⟩) (k + 1) (k + 1)) W:=by
 rw [run_sliceAt_array_l W 341 ⟨B,0,none⟩ un341 .i64 _ (by omega) (by rw [len341]; omega),size341,len341]
 have h1:(65 - (k:Int) - 1).toNat=65 - k - 1:=by omega
 have h2:¬ 65=65 - k - 1:=by omega
 have h3:65 - (65 - k - 1)=k + 1:=by omega
 simp [Result.andThen,slicedAt,h1,h2,h3,Addr.add]
 omega
theorem formatBits_16 (u:Nat) (w:World) (hu:u < 4294967296) (h:Deb w) (h8:8≤w.heap.size):Calls Tryz.prog 223 #[.slice none 0 0,.int .u64 (u:Int),.int .i64 16,.bool false,.bool false] w fun e w'=>(∃ k,k≤7∧u < 16 ^ (k + 1)∧e=.returned (.tuple #[.slice none 0 0,.string ⟨(hexLow u (k + 1)).toArray⟩]))∧Below w.heap.size w w':=by
 have hD:Deb (w.alloc (.cells Tryz.zeroCells341 341)):=by
  unfold Deb at h ⊢
  rw [←h]
  exact World.cell?_of_block (Below.heap_alloc w _ _ (by show 7 < _; omega))
 have hS:=Digs.start w u
 go_enter Tryz.func223,Tryz.ntmps223
 go_wp2_with (first | (go_at_call 267; refine (pow2_16 _).mono ?_; rintro e w' ⟨rfl,rfl⟩) | (go_at_call 268; refine (tzs_16 _ hD).mono ?_; rintro e w' ⟨rfl,rfl⟩))
 clear h hD
 go_loopw [1,13] (fun x i wr=>∃ k:Nat,k≤7∧i=.int .i64 (65 - (k:Int))∧x=.int .u64 ((u / 16 ^ k:Nat):Int)∧Digs w wr u k) (fun x _ _=>(intOf x).toNat)
 case atStart=>exact ⟨0,by omega,by go_num,by simp,hS⟩
 case round =>
  obtain ⟨k,hk,rfl,rfl,hd⟩:=hrel
  have hx:u / 16 ^ k < 4294967296:=Nat.lt_of_le_of_lt (Nat.div_le_self _ _) hu
  have ha:=and15 (u / 16 ^ k) (by omega)
  have hnx:u / 16 ^ (k + 1)=u / 16 ^ k / 16:=by rw [Nat.pow_succ,Nat.div_div_eq_div_mul]
  have hst:Digs w (wr.setCell ⟨w.heap.size,65 - k - 1,none⟩ (.int .u8 ((Lard.hexDig (u / 16 ^ k % 16)).toNat:Int))) u (k + 1):=hd.step (by omega)
  obtain ⟨⟨v0,hc⟩,hf⟩:=hd.can (i:=65 - k - 1) (by omega)
  have hlast:u / 16 ^ k < 16→u < 16 ^ (k + 1):=fun h=>by
   rw [Nat.pow_succ,Nat.mul_comm]
   exact (Nat.div_lt_iff_lt_mul (Nat.pow_pos (by omega))).1 h
  have hmod:u / 16 ^ k % 16 < 16:=Nat.mod_lt _ (by omega)
  have HST:=hide hst
  have HNX:=hide hnx
  have HL:=hide hlast
  clear hst hnx hlast hd hS
  by_cases hge:16≤u / 16 ^ k
  ·have hk6:k≤6:=by
    rcases Nat.lt_or_ge k 7 with h | h
    ·omega
    ·obtain rfl:k=7:=by omega
     have:u / 16 ^ 7 < 16:=by
      show u / 268435456 < 16
      omega
     omega
   generalize hxe:u / 16 ^ k=x at *
   have HX:=hide hxe
   clear hxe
   go_wp2
   refine ⟨⟨k + 1,by omega,by go_num,?_,?_⟩,?_⟩
   ·rw [HNX.out]; rfl
   ·have:=HST.out
    rw [←digs_at hmod (by show x % 16 < 36; omega)] at this
    exact this
   ·simp [intOf]; omega
  ·generalize hxe:u / 16 ^ k=x at *
   have hxm:x % 16=x:=Nat.mod_eq_of_lt (by omega)
   have hx36:x < 36:=by omega
   have hw:=HST.out
   rw [hxm,←digs_at (by omega) (show x < digs.size by show x < 36; omega)] at hw
   have hcv:=run_convert_bytes_back (P:=Tryz.prog) (wr.setCell ⟨w.heap.size,65 - k - 1,none⟩ (.int .u8 ((digs[x]'(show x < digs.size by show x < 36; omega)).toNat:Int))) 106 9 5 ⟨w.heap.size,65 - k - 1,none⟩ (k + 1) (hexLow u (k + 1)) Tryz.underlying106 Tryz.underlying5 Tryz.underlying9 (fun j hj=>by have:=hw.cell (by omega) hj; rw [show 65 - (k + 1) + j=65 - k - 1 + j by omega] at this; rw [addr_add]; exact this)
   rw [hexLow_length] at hcv
   have hsl:=slice341 w.heap.size k hk
   have HF:=hide (show (∃ k,k≤7∧u < 16 ^ (k + 1)∧Ending.returned (.tuple #[.slice none 0 0,.string ⟨(hexLow u (k + 1)).toArray⟩])=.returned (.tuple #[.slice none 0 0,.string ⟨(hexLow u (k + 1)).toArray⟩]))∧Below w.heap.size w (wr.setCell ⟨w.heap.size,65 - k - 1,none⟩ (.int .u8 ((digs[x]'(show x < digs.size by show x < 36; omega)).toNat:Int))) from ⟨⟨k,hk,HL.out (by omega),rfl⟩,by obtain ⟨_,_,_,hB,_⟩:=hw; exact hB⟩)
   unfold digs at hcv HF
   have HU:=hide (HL.out (by omega))
   clear hw HST HL HNX hxe hxm ha
   go_wp2
   go_ret2
   exact ⟨⟨k,hk,HU.out,rfl⟩,HF.out.2⟩
theorem formatUint_in (u:Nat) (w:World) (hu:u < 4294967296) (h:Deb w) (h8:8≤w.heap.size):Calls Tryz.prog 187 #[.int .u64 (u:Int),.int .i64 16] w fun e w'=>(∃ k,k≤7∧u < 16 ^ (k + 1)∧e=.returned (.string ⟨(hexLow u (k + 1)).toArray⟩))∧Below w.heap.size w w':=by
 go_enter Tryz.func187,Tryz.ntmps187
 go_wp2_with (go_at_call 223; refine (formatBits_16 u _ hu h h8).mono ?_; rintro e w' ⟨⟨k,hk,hk',rfl⟩,hB⟩)
 go_ret
 exact ⟨⟨k,hk,hk',rfl⟩,hB⟩
theorem formatUint_16 (u:Nat) (w:World) (hu:u < 4294967296) (h:Deb w) (h8:8≤w.heap.size):Calls Tryz.prog 137 #[.int .u64 (u:Int),.int .i64 16] w fun e w'=>(∃ k,k≤7∧u < 16 ^ (k + 1)∧e=.returned (.string ⟨(hexLow u (k + 1)).toArray⟩))∧Below w.heap.size w w':=by
 go_enter Tryz.func137,Tryz.ntmps137
 go_wp2_with (go_at_call 187; refine (formatUint_in u _ hu h h8).mono ?_; rintro e w' ⟨⟨k,hk,hk',rfl⟩,hB⟩)
 go_ret
 exact ⟨⟨k,hk,hk',rfl⟩,hB⟩
theorem hexDig0:Lard.hexDig 0=48:=by decide
theorem hexLow_pad (u k:Nat) (h:u < 16 ^ k):∀ n,hexLow u (n + k)=List.replicate n 48++hexLow u k
 |0=>by simp
 |n + 1=>by
  have h1:u / 16 ^ (n + k)=0:=Nat.div_eq_of_lt (Nat.lt_of_lt_of_le h (Nat.pow_le_pow_right (by omega) (by omega)))
  rw [show n + 1 + k=(n + k) + 1 by omega,hexLow,hexLow_pad u k h n,h1,List.replicate_succ,hexDig0]
  rfl
theorem hexLow_8 (u:Nat):hexLow u 8=Lard.hex8 u:=by
 simp [hexLow,Lard.hex8,List.range,List.range.loop]
theorem line_tail (t:List UInt8) (u k:Nat) (hk:k≤7) (h:u < 16 ^ (k + 1)):t++([32,48,48,48,48,48,48,48,48]:List UInt8).take (9 - (k + 1))++hexLow u (k + 1)++[10]=t++32 :: (Lard.hex8 u++[10]):=by
 have h1:([32,48,48,48,48,48,48,48,48]:List UInt8).take (9 - (k + 1))=32 :: List.replicate (7 - k) 48:=by
  have:∀ k:Fin 8,([32,48,48,48,48,48,48,48,48]:List UInt8).take (9 - (k.val + 1))=32 :: List.replicate (7 - k.val) 48:=by decide
  exact this ⟨k,by omega⟩
 have h2:=hexLow_pad u (k + 1) h (7 - k)
 rw [show 7 - k + (k + 1)=8 by omega,hexLow_8] at h2
 rw [h1,h2]
 simp
theorem of_line (s:ByteArray) (w:World) (hs:s.size≤140737488355328) (h:Deb w) (h8:8≤w.heap.size):Calls Tryz.prog 94 #[.string s] w fun e w'=>e=.returned (str (Lard.line s.data.toList))∧Below w.heap.size w w':=by
 have hlt:=sum32_lt s.data.toList
 go_enter Tryz.func94,Tryz.ntmps94
 go_wp2_with fail
 refine (lsum_any s _ (by omega)).mono ?_
 rintro e w1 ⟨rfl,rfl⟩
 go_wp2_with fail
 refine (formatUint_16 (Lard.sum32 s.data.toList) _ hlt h h8).mono ?_
 rintro e w2 ⟨⟨k,hk,hk',rfl⟩,hB⟩
 have ht:=line_tail s.data.toList (Lard.sum32 s.data.toList) k hk hk'
 have hl:=hexLow_length (Lard.sum32 s.data.toList) (k + 1)
 obtain ⟨x,hx⟩:∃ x:ByteArray,(⟨(hexLow (Lard.sum32 s.data.toList) (k + 1)).toArray⟩:ByteArray)=x:=⟨_,rfl⟩
 have hxs:x.size=k + 1:=by rw [←hx]; show (hexLow _ _).toArray.size=_; simpa using hl
 have hxd:x.data.toList=hexLow (Lard.sum32 s.data.toList) (k + 1):=by rw [←hx]
 rw [hx]
 have HF:=hide (show str (Lard.line s.data.toList)=.string (s++(⟨#[32,48,48,48,48,48,48,48,48]⟩:ByteArray).extract 0 (8 - k)++x++⟨#[10]⟩) from by
  unfold str Lard.line
  rw [←ht,show 9 - (k + 1)=8 - k by omega]
  congr 1
  apply ByteArray.ext
  apply Array.ext'
  simp [hxd])
 clear ht hl hx hxd hk' hlt
 go_wp2
 go_ret
 rw [HF.out]
 exact ⟨rfl,hB⟩
end
section
set_option maxRecDepth 100000
set_option maxHeartbeats 400000
open Go.RowKit
attribute [local go_sem] mt_wrN mt_wrW mt_wrL
theorem brokenBy_any (c:Nat) (w:World) (hc:c≤12) :
  Calls Tryz.prog 140 #[.int .i64 (c:Int)] w fun e w'=>e=.returned (str (Lard.brokenW c))∧w'=w:=by
 have h:∀ c:Fin 13,c.val≠7→c.val≠8→c.val≠9→c.val≠10→c.val≠11→Lard.brokenW c.val=[]:=by decide
 by_cases h7:c=7
 ·subst h7
  go_enter Tryz.func140,Tryz.ntmps140
  go_wp2
  go_ret
  exact ⟨rfl,rfl⟩
 by_cases h8:c=8
 ·subst h8
  go_enter Tryz.func140,Tryz.ntmps140
  go_wp2
  go_ret
  exact ⟨rfl,rfl⟩
 by_cases h9:c=9
 ·subst h9
  go_enter Tryz.func140,Tryz.ntmps140
  go_wp2
  go_ret
  exact ⟨rfl,rfl⟩
 by_cases h10:c=10
 ·subst h10
  go_enter Tryz.func140,Tryz.ntmps140
  go_wp2
  go_ret
  exact ⟨rfl,rfl⟩
 by_cases h11:c=11
 ·subst h11
  go_enter Tryz.func140,Tryz.ntmps140
  go_wp2
  go_ret
  exact ⟨rfl,rfl⟩
 have hb:=h ⟨c,by omega⟩ h7 h8 h9 h10 h11
 simp only at hb
 rw [hb]
 have e7:((c:Int) == 7)=false:=by rw [beq_eq_false_iff_ne]; omega
 have e8:((c:Int) == 8)=false:=by rw [beq_eq_false_iff_ne]; omega
 have e9:((c:Int) == 9)=false:=by rw [beq_eq_false_iff_ne]; omega
 have e10:((c:Int) == 10)=false:=by rw [beq_eq_false_iff_ne]; omega
 have e11:((c:Int) == 11)=false:=by rw [beq_eq_false_iff_ne]; omega
 clear h hb h7 h8 h9 h10 h11
 go_enter Tryz.func140,Tryz.ntmps140
 go_wp2
 go_ret
 exact ⟨rfl,rfl⟩
theorem worthWritten_any {r:Except Nat Lard.V} {x:Value} (w:World) (g:G w) (h:IsW w r x) :
  Calls Tryz.prog 96 #[x] w fun e w'=>e=.returned (str (Lard.woText r))∧Below w.heap.size w w':=by
 have hB0:∀ o,Below w.heap.size w (w.alloc o):=fun o=>(Below.refl _ _).alloc (Nat.le_refl _) _
 rcases h with ⟨v,y,rfl,rfl,h3⟩ | ⟨c,rfl,rfl,h0,h1⟩
 ·rcases h3.forms with ⟨j,rfl,rfl,hj⟩ | ⟨d,rfl,rfl,hb⟩ | ⟨m2,l2,s2,ys2,hm2,rfl,rfl,hr2,hl2,h2,hv2⟩
  ·have g2:∀ o,G (w.alloc o):=fun o=>g.below (hB0 o) g.size
   go_enter Tryz.func96,Tryz.ntmps96
   go_wp2_with fail
   refine (written_any j _ (g2 _) hj.1 hj.2).mono ?_
   rintro e w2 ⟨rfl,hB2⟩
   have hB:Below w.heap.size w w2:=(hB0 _).trans (hB2.mono (by simp))
   go_wp2_with fail
   go_ret
   exact ⟨by rw [Lard.woText,wr_num]; rfl,hB⟩
  ·go_enter Tryz.func96,Tryz.ntmps96
   go_wp2_with fail
   refine (writtenW_below d _ (by omega)).mono ?_
   rintro e w2 ⟨rfl,hB2⟩
   have hB:Below w.heap.size w w2:=(hB0 _).trans (hB2.mono (by simp))
   go_wp2_with fail
   go_ret
   exact ⟨by rw [Lard.woText,wr_word]; rfl,hB⟩
  ·obtain rfl:m2=2:=by omega
   have hcall:=fun (w':World) (hB:Below w.heap.size w w')=>writtenL_any 2 (by omega) l2 s2 ys2 w' (g.below hB g.size) (hr2.keeps (Keeps.below hB)) (Vals.keeps ⟨hl2,hv2⟩ (Keeps.below hB)) h2
   obtain ⟨o2,c2,rfl⟩:=hr2.len
   have HC:=hide hcall
   clear hcall h3 hv2 hr2
   go_enter Tryz.func96,Tryz.ntmps96
   go_wp2_with fail
   refine (HC.out _ (hB0 _)).mono ?_
   rintro e w2 ⟨rfl,hB2⟩
   clear HC
   have hB:Below w.heap.size w w2:=(hB0 _).trans (hB2.mono (by simp))
   go_wp2_with fail
   go_ret
   exact ⟨rfl,hB⟩
 ·have hne:((c:Int) != 0)=true:=by rw [bne_iff_ne]; omega
  go_enter Tryz.func96,Tryz.ntmps96
  go_wp2_with fail
  refine (brokenBy_any c _ h1).mono ?_
  rintro e w2 ⟨rfl,rfl⟩
  go_wp2_with fail
  go_ret
  exact ⟨rfl,hB0 _⟩
theorem wrLen3 {w:World} {v:Lard.V} {x:Value} (h:IsVal w 3 v x):(Lard.wr 3 v).length≤100000:=by
 have:=h.wr_len
 have e:wrLen 3≤100000:=by decide
 omega
theorem woText_len {w:World} {r:Except Nat Lard.V} {x:Value} (h:IsW w r x):(Lard.woText r).length≤100000:=by
 rcases h with ⟨v,y,rfl,rfl,h3⟩ | ⟨c,rfl,rfl,h0,h1⟩
 ·exact wrLen3 h3
 ·have:∀ c:Fin 13,(Lard.brokenW c.val).length≤100000:=by decide
  exact this ⟨c,by omega⟩
end
end Go.Proofs.YtpekpdimdelncaaGreatDoor
