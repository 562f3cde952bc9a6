/- Out of: W3, V1, V2, V3, V4. -/
import Derived.Test.YtpekpdimdelncaaGreatDoorP01
import Derived.Deep.RegionWith
import Derived.Lib.ItoaLen
namespace Go.Proofs.YtpekpdimdelncaaGreatDoor
section
set_option maxRecDepth 100000
set_option maxHeartbeats 400000
open Go.RowKit
def isV (l:List UInt8):Value :=
 match (Lard.tok l).1 with
 |2=>.iface 219 (.int .i64 ((Lard.numOf (l.take (Lard.tok l).2)).getD 0))
 |3=>.iface 215 (.string ⟨((l.drop 1).take ((Lard.tok l).2 - 2)).toArray⟩)
 |_=>.nilIface
theorem isV_one (l:List UInt8):(isV l).oneCell'=true:=by
 unfold isV; split <;> rfl
theorem run_store_isV {P:Program} {w:World} (a:Addr) (m:Mode) (l:List UInt8):(store a (isV l) m).run P w=stored P w a (isV l) m:=run_store P w a _ m (isV_one l)
def tokV (s:ByteArray) (i:Nat):Value :=
 .agg #[.int .i64 ((Lard.tok (s.data.toList.drop i)).1:Int),.string (s.extract i (i + (Lard.tok (s.data.toList.drop i)).2)),.int .i64 (i:Int),isV (s.data.toList.drop i)]
theorem bcell {W w1:World} (hb:Below W.heap.size W w1):(∀ b o,b < W.heap.size→w1.cell? ⟨b,o,none⟩=W.cell? ⟨b,o,none⟩)∧(∀ b o,b < W.heap.size→w1.frozen? ⟨b,o,none⟩=W.frozen? ⟨b,o,none⟩) :=
 ⟨fun b o h=>hb.cell (p:=⟨b,o,none⟩) h,fun b o h=>hb.frozen (p:=⟨b,o,none⟩) h⟩
theorem size_ext (s:ByteArray) (a b:Nat):(s.extract a b).size≤s.size:=by
 rw [ByteArray.size_extract]; omega
theorem set4 {B:Nat} {a w:World} (h:Below B a w) {b:Nat} (hp:B≤b) (u0 u1 u2 u3:Value):Below B a ((((w.setCell ⟨b,0,none⟩ u0).setCell ⟨b,1,none⟩ u1).setCell ⟨b,2,none⟩ u2).setCell ⟨b,3,none⟩ u3) :=
 (((h.setCell (p:=⟨b,0,none⟩) hp _).setCell (p:=⟨b,1,none⟩) hp _).setCell (p:=⟨b,2,none⟩) hp _).setCell (p:=⟨b,3,none⟩) hp _
def badV:Value:=.agg #[.int .i64 1,.string ⟨#[]⟩,.int .i64 0,.nilIface]
def digV (s:ByteArray):Option Int→Value
 |none=>badV
 |some v=>.agg #[.int .i64 2,.string (s.extract 0 (Lard.lead Lard.isDig s.data.toList)),.int .i64 0,.iface 219 (.int .i64 v)]
theorem digitsToken_any (s:ByteArray) (w:World) (g:G w) (hs:s.size≤281474976710656) (o:Option Int) (hn:Lard.numOf (s.data.toList.take (Lard.lead Lard.isDig s.data.toList))=o) :
  Calls Tryz.prog 119 #[.string s] w fun e w'=>e=.returned (digV s o)∧Below w.heap.size w w':=by
 have hr:=fun (w:World) (g:G w)=>readNumber_any (s.extract 0 (Lard.lead Lard.isDig s.data.toList)) w g (by have:=size_ext s 0 (Lard.lead Lard.isDig s.data.toList); omega)
 rw [Lib.extract_data,List.drop_zero,Nat.sub_zero,hn] at hr
 have HR:=hide hr
 have G':=g.below ((Below.refl w.heap.size w).alloc (Nat.le_refl _) (Obj.cells #[Value.int IntKind.i64 0,Value.string { data:=#[] },Value.int IntKind.i64 0,Value.nilIface] 172)) g.size
 clear hn hr
 go_enter Tryz.func119,Tryz.ntmps119
 go_wp2_with (go_at_call 155; refine (leading_dig _ _ (by omega)).mono ?_; rintro e w' ⟨rfl,rfl⟩)
 refine (HR.out _ G').mono ?_
 rintro e w1 ⟨rfl,hb⟩
 obtain ⟨hc,hf⟩:=bcell hb
 have hz:w.heap.size < w1.heap.size:=by have:=hb.size; simp at this; omega
 have hB:Below w.heap.size w w1:=((Below.refl _ _).alloc (Nat.le_refl _) _).trans (hb.mono (by simp))
 clear HR G'
 cases o with
 |none =>
  go_wp2_with fail
  exact bodyPost_ret (v:=badV) (by simp [results,Tryz.results119,go_sem,hc,badV]) rfl ⟨rfl,set4 hB (Nat.le_refl _) _ _ _ _⟩
 |some v =>
  go_wp2_with fail
  exact bodyPost_ret (v:=digV s (some v)) (by simp [results,Tryz.results119,go_sem,hc,digV]) rfl ⟨rfl,set4 hB (Nat.le_refl _) _ _ _ _⟩
def letV (s:ByteArray) (n:Nat) (b:Bool):Value :=
 if b=true then .agg #[.int .i64 5,.string (s.extract 0 n),.int .i64 0,.nilIface]
 else if 8 < n then badV
 else .agg #[.int .i64 4,.string (s.extract 0 n),.int .i64 0,.nilIface]
theorem letterToken_any (s:ByteArray) (w:World) (hs:s.size≤281474976710656) (b:Bool) (hb:Lard.termB (s.data.toList.take (Lard.lead Lard.isAl s.data.toList))=b) :
  Calls Tryz.prog 121 #[.string s] w fun e w'=>e=.returned (letV s (Lard.lead Lard.isAl s.data.toList) b)∧Below w.heap.size w w':=by
 have hl:Lard.lead Lard.isAl s.data.toList≤s.size:=by have:=Lard.lead_le Lard.isAl s.data.toList; simpa using this
 have hr:=isTerm_any (s.extract 0 (Lard.lead Lard.isAl s.data.toList))
 rw [Lib.extract_data,List.drop_zero,Nat.sub_zero,hb] at hr
 have HR:=hide hr
 clear hr hb
 go_enter Tryz.func121,Tryz.ntmps121
 go_wp2_with (first | (go_at_call 155; refine (leading_al _ _ (by omega)).mono ?_; rintro e w' ⟨rfl,rfl⟩) | (go_at_call 157; refine (HR.out _).mono ?_; rintro e w' ⟨rfl,rfl⟩))
 ·rename_i hb
  subst hb
  exact bodyPost_ret (v:=letV s (Lard.lead Lard.isAl s.data.toList) true) (by simp [results,Tryz.results121,go_sem,letV]) rfl ⟨rfl,(Below.refl _ _).alloc (Nat.le_refl _) _⟩
 ·rename_i hb h8
  subst hb
  have h8':8 < Lard.lead Lard.isAl s.data.toList:=by omega
  exact bodyPost_ret (v:=letV s (Lard.lead Lard.isAl s.data.toList) false) (by simp [results,Tryz.results121,go_sem,letV,h8',badV]) rfl ⟨rfl,(Below.refl _ _).alloc (Nat.le_refl _) _⟩
 ·rename_i hb h8
  subst hb
  have h8':¬ 8 < Lard.lead Lard.isAl s.data.toList:=by omega
  exact bodyPost_ret (v:=letV s (Lard.lead Lard.isAl s.data.toList) false) (by simp [results,Tryz.results121,go_sem,letV,h8']) rfl ⟨rfl,(Below.refl _ _).alloc (Nat.le_refl _) _⟩
def worV (s:ByteArray):Option Nat→Value
 |none=>badV
 |some n=>.agg #[.int .i64 3,.string (s.extract 0 (n + 2)),.int .i64 0,.iface 215 (.string (s.extract 1 (n + 1)))]
theorem wordToken_any (s:ByteArray) (w:World) (hs:s.size≤281474976710656) (o:Option Nat) (ho:Lard.wordOf s.data.toList=o) :
  Calls Tryz.prog 122 #[.string s] w fun e w'=>e=.returned (worV s o)∧Below w.heap.size w w':=by
 have hr:=readWord_any s
 have hn:∀ n,o=some n→n + 2≤s.size:=fun n h=>by have:=Lard.wordOf_le (ho.trans h); simpa using this
 rw [ho] at hr
 have HR:=hide hr
 clear hr ho
 cases o with
 |none =>
  clear hn
  go_enter Tryz.func122,Tryz.ntmps122
  go_wp2_with fail
  refine (HR.out _ (by omega)).mono ?_
  rintro e w' ⟨rfl,rfl⟩
  unfold wordRes
  go_wp2_with fail
  exact bodyPost_ret (v:=badV) (by simp [results,Tryz.results122,go_sem,badV]) rfl ⟨rfl,(Below.refl _ _).alloc (Nat.le_refl _) _⟩
 |some n =>
  have hn':=hn n rfl
  have hsz:(s.extract 1 (n + 1)).size=n:=by rw [ByteArray.size_extract]; omega
  clear hn
  go_enter Tryz.func122,Tryz.ntmps122
  go_wp2_with fail
  refine (HR.out _ (by omega)).mono ?_
  rintro e w' ⟨rfl,rfl⟩
  unfold wordRes
  go_wp2_with fail
  exact bodyPost_ret (v:=worV s (some n)) (by simp [results,Tryz.results122,go_sem,worV]) rfl ⟨rfl,(Below.refl _ _).alloc (Nat.le_refl _) _⟩
end
section
set_option maxRecDepth 100000
set_option maxHeartbeats 400000
open Go.RowKit
def broken (c:Nat):Ending:=.panicked [{ v:=.iface 324 (.int .i64 (c:Int)),recovered:=false }]
def IsLeaf (v:Lard.V) (x:Value):Prop :=
 (∃ i:Int,v=Lard.vn i∧x=.iface 219 (.int .i64 i)∧-9223372036854775808≤i∧i≤9223372036854775807) ∨
 (∃ b:ByteArray,v=Lard.vw b.data.toList∧x=.iface 215 (.string b)∧b.size≤30)
def IsRow (w:World) (s:Value) (ys:List Value):Prop :=
 (s=.slice none 0 0∧ys=[]) ∨
 ∃ (b cap:Nat) (cs:Array Value) (fz:Nat×Nat),s=.slice (some ⟨b,0,none⟩) ys.length cap∧ys.length≤cap∧w.heap[b]? = some (.cells cs 111 fz)∧cap≤cs.size∧∀ i,i < ys.length→cs[i]? = ys[i]?
def IsVal (w:World):Nat→Lard.V→Value→Prop
 |0,v,x=>IsLeaf v x
 |n + 1,v,x=>IsLeaf v x∨∃ (l:List Lard.V) (s:Value) (ys:List Value),v=Lard.vl l∧x=.iface 248 s∧IsRow w s ys∧l.length=ys.length∧l.length≤12∧∀ (i:Nat) u y,l[i]? = some u→ys[i]? = some y→IsVal w n u y
def Imm (t:TypeId):Prop:=t=111∨t=263∨t=121
def Keeps (w w':World):Prop :=
 ∀ (k:Nat) (cs:Array Value) (t:TypeId) (fz:Nat×Nat),w.heap[k]? = some (.cells cs t fz)→Imm t→w'.heap[k]? = some (.cells cs t fz)
theorem Keeps.refl (w:World):Keeps w w:=fun _ _ _ _ h _=>h
theorem Keeps.trans {a b c:World} (h:Keeps a b) (h':Keeps b c):Keeps a c:=fun k cs t fz hk ht=>h' k cs t fz (h k cs t fz hk ht) ht
theorem lt_of_some {w:World} {k:Nat} {o:Obj} (h:w.heap[k]? = some o):k < w.heap.size:=by
 rcases Nat.lt_or_ge k w.heap.size with h' | h'
 ·exact h'
 ·simp [Array.getElem?_eq_none h'] at h
theorem Keeps.below {w w':World} (h:Below w.heap.size w w'):Keeps w w':=fun k _ _ _ hk _=>(h.block k (lt_of_some hk)).trans hk
theorem IsRow.keeps {w w':World} {s:Value} {ys:List Value} (h:IsRow w s ys) (hk:Keeps w w'):IsRow w' s ys:=by
 rcases h with h | ⟨b,cap,cs,fz,h1,h2,h3,h4,h5⟩
 ·exact .inl h
 ·exact .inr ⟨b,cap,cs,fz,h1,h2,hk _ _ _ _ h3 (.inl rfl),h4,h5⟩
theorem IsVal.keeps {w w':World} (hk:Keeps w w'):∀ {n:Nat} {v:Lard.V} {x:Value},IsVal w n v x→IsVal w' n v x
 |0,_,_,h=>h
 |n + 1,v,x,h=>by
  rcases h with h | ⟨l,s,ys,h1,h2,h3,h4,h5,h6⟩
  ·exact .inl h
  ·exact .inr ⟨l,s,ys,h1,h2,h3.keeps hk,h4,h5,fun i u y hu hy=>IsVal.keeps hk (h6 i u y hu hy)⟩
theorem IsVal.leaf {w:World} {n:Nat} {v:Lard.V} {x:Value} (h:IsLeaf v x):IsVal w n v x:=by
 cases n with
 |zero=>exact h
 |succ n=>exact .inl h
theorem IsVal.up {w:World}:∀ {n:Nat} {v:Lard.V} {x:Value},IsVal w n v x→IsVal w (n + 1) v x
 |0,_,_,h=>.inl h
 |n + 1,v,x,h=>by
  rcases h with h | ⟨l,s,ys,h1,h2,h3,h4,h5,h6⟩
  ·exact .inl h
  ·exact .inr ⟨l,s,ys,h1,h2,h3,h4,h5,fun i u y hu hy=>IsVal.up (h6 i u y hu hy)⟩
theorem IsVal.le {w:World} {n m:Nat} {v:Lard.V} {x:Value} (h:IsVal w n v x) (hm:n≤m):IsVal w m v x:=by
 induction m with
 |zero => obtain rfl : n = 0 := by omega
          exact h
 |succ m ih =>
  rcases Nat.lt_or_ge m n with h' | h'
  ·obtain rfl:n=m + 1:=by omega
   exact h
  ·exact (ih h').up
theorem IsVal.forms {w:World} {n:Nat} {v:Lard.V} {x:Value} (h:IsVal w n v x) :
  (∃ i:Int,v=Lard.vn i∧x=.iface 219 (.int .i64 i)∧-9223372036854775808≤i∧i≤9223372036854775807) ∨
  (∃ b:ByteArray,v=Lard.vw b.data.toList∧x=.iface 215 (.string b)∧b.size≤30) ∨
  (∃ (m:Nat) (l:List Lard.V) (s:Value) (ys:List Value),n=m + 1∧v=Lard.vl l∧x=.iface 248 s∧IsRow w s ys∧l.length=ys.length∧l.length≤12∧∀ (i:Nat) u y,l[i]? = some u→ys[i]? = some y→IsVal w m u y):=by
 cases n with
 |zero =>
  rcases h with h | h
  ·exact .inl h
  ·exact .inr (.inl h)
 |succ n =>
  rcases h with (h | h) | ⟨l,s,ys,h⟩
  ·exact .inl h
  ·exact .inr (.inl h)
  ·exact .inr (.inr ⟨n,l,s,ys,rfl,h⟩)
theorem IsVal.one {w:World} {n:Nat} {v:Lard.V} {x:Value} (h:IsVal w n v x):∃ t y,x=.iface t y:=by
 rcases h.forms with ⟨i,_,rfl,_⟩ | ⟨b,_,rfl,_⟩ | ⟨_,_,s,_,_,_,rfl,_⟩
 ·exact ⟨_,_,rfl⟩
 ·exact ⟨_,_,rfl⟩
 ·exact ⟨_,_,rfl⟩
def PV (w:World) (r:Except Nat Lard.V) (e:Ending) (w':World):Prop :=
 Below w.heap.size w w'∧(∀ v,r=.ok v→∃ y,e=.returned y∧IsVal w' 3 v y)∧(∀ c,r=.error c→e=broken c)
theorem PV.ok {w w':World} {v:Lard.V} {y:Value} (hB:Below w.heap.size w w') (h:IsVal w' 3 v y):PV w (.ok v) (.returned y) w' :=
 ⟨hB,fun u hu=>(by cases hu; exact ⟨y,rfl,h⟩),fun c hc=>(by cases hc)⟩
theorem PV.err {w w':World} {c:Nat} (hB:Below w.heap.size w w'):PV w (.error c) (broken c) w' :=
 ⟨hB,fun u hu=>(by cases hu),fun c hc=>(by cases hc; rfl)⟩
/-! What the assertions of kinds answer. -/
theorem ta_nn (a:Value) (w:World):(Instr.typeAssert (.iface 219 a) 111 219 true).run Tryz.prog w=.ok (.tuple #[a,.bool true]) w:=by kernel_rfl
theorem ta_wn (a:Value) (w:World):(Instr.typeAssert (.iface 215 a) 111 219 true).run Tryz.prog w=.ok (.tuple #[.int .i64 0,.bool false]) w:=by kernel_rfl
theorem ta_ln (a:Value) (w:World):(Instr.typeAssert (.iface 248 a) 111 219 true).run Tryz.prog w=.ok (.tuple #[.int .i64 0,.bool false]) w:=by kernel_rfl
theorem ta_nw (a:Value) (w:World):(Instr.typeAssert (.iface 219 a) 111 215 true).run Tryz.prog w=.ok (.tuple #[.string ⟨#[]⟩,.bool false]) w:=by kernel_rfl
theorem ta_ww (a:Value) (w:World):(Instr.typeAssert (.iface 215 a) 111 215 true).run Tryz.prog w=.ok (.tuple #[a,.bool true]) w:=by kernel_rfl
theorem ta_lw (a:Value) (w:World):(Instr.typeAssert (.iface 248 a) 111 215 true).run Tryz.prog w=.ok (.tuple #[.string ⟨#[]⟩,.bool false]) w:=by kernel_rfl
theorem ta_nl (a:Value) (w:World):(Instr.typeAssert (.iface 219 a) 111 248 true).run Tryz.prog w=.ok (.tuple #[.slice none 0 0,.bool false]) w:=by kernel_rfl
theorem ta_wl (a:Value) (w:World):(Instr.typeAssert (.iface 215 a) 111 248 true).run Tryz.prog w=.ok (.tuple #[.slice none 0 0,.bool false]) w:=by kernel_rfl
theorem ta_ll (a:Value) (w:World):(Instr.typeAssert (.iface 248 a) 111 248 true).run Tryz.prog w=.ok (.tuple #[a,.bool true]) w:=by kernel_rfl
attribute [local go_sem] ta_nn ta_wn ta_ln ta_nw ta_ww ta_lw ta_nl ta_wl ta_ll
theorem numberIn_ok (i:Int) (w:World) :
  Calls Tryz.prog 280 #[.iface 219 (.int .i64 i)] w fun e w'=>e=.returned (.int .i64 i)∧w'=w:=by
 go_enter Tryz.func280,Tryz.ntmps280
 go_wp2
 go_ret
 exact ⟨rfl,rfl⟩
theorem numberIn_no (t:TypeId) (a:Value) (w:World) (ht:t=215∨t=248) :
  Calls Tryz.prog 280 #[.iface t a] w fun e w'=>e=broken 9∧w'=w:=by
 rcases ht with rfl | rfl
 all_goals
  go_enter Tryz.func280,Tryz.ntmps280
  go_wp2
  exact ⟨rfl,rfl,rfl⟩
theorem listIn_ok (o:Option Addr) (n c:Nat) (w:World) :
  Calls Tryz.prog 278 #[.iface 248 (.slice o n c)] w fun e w'=>e=.returned (.slice o n c)∧w'=w:=by
 go_enter Tryz.func278,Tryz.ntmps278
 go_wp2
 go_ret
 exact ⟨rfl,rfl⟩
theorem listIn_no (t:TypeId) (a:Value) (w:World) (ht:t=215∨t=219) :
  Calls Tryz.prog 278 #[.iface t a] w fun e w'=>e=broken 9∧w'=w:=by
 rcases ht with rfl | rfl
 all_goals
  go_enter Tryz.func278,Tryz.ntmps278
  go_wp2
  exact ⟨rfl,rfl,rfl⟩
theorem truth_any (b:Bool) (w:World) :
  Calls Tryz.prog 317 #[.bool b] w fun e w'=>e=.returned (.iface 219 (.int .i64 (if b then 1 else 0)))∧w'=w:=by
 cases b
 all_goals
  go_enter Tryz.func317,Tryz.ntmps317
  go_wp2
  go_ret
  exact ⟨rfl,rfl⟩
theorem inside_ok (i:Int) (n k:Nat) (w:World) (h:Lard.place i n=.ok k) :
  Calls Tryz.prog 318 #[.int .i64 i,.int .i64 (n:Int)] w fun e w'=>e=.returned (.int .i64 (k:Int))∧w'=w:=by
 have h0:0≤i∧i < (n:Int)∧i=(k:Int):=by
  unfold Lard.place at h
  split at h
  ·cases h
  ·rename_i h'; cases h; omega
 obtain ⟨h1,h2,rfl⟩:=h0
 clear h
 go_enter Tryz.func318,Tryz.ntmps318
 go_wp2
 go_ret
 exact ⟨rfl,rfl⟩
theorem place_err {i:Int} {n c:Nat} (h:Lard.place i n=.error c):(i < 0∨(n:Int)≤i)∧c=7:=by
 unfold Lard.place at h
 split at h
 ·cases h; exact ⟨by assumption,rfl⟩
 ·cases h
theorem place_ok {i:Int} {n k:Nat} (h:Lard.place i n=.ok k):i=(k:Int)∧k < n:=by
 unfold Lard.place at h
 split at h
 ·cases h
 ·rename_i h'; cases h; omega
theorem inside_no (i:Int) (n:Nat) (w:World) (h1:i < 0∨(n:Int)≤i) :
  Calls Tryz.prog 318 #[.int .i64 i,.int .i64 (n:Int)] w fun e w'=>e=broken 7∧w'=w:=by
 go_enter Tryz.func318,Tryz.ntmps318
 by_cases h2:i < 0
 ·go_wp2
  exact ⟨rfl,rfl,rfl⟩
 ·have h3:(n:Int)≤i:=by omega
  have h4:0≤i:=by omega
  clear h1 h2
  go_wp2
  exact ⟨rfl,rfl,rfl⟩
end
section
set_option maxRecDepth 100000
set_option maxHeartbeats 400000
open Go.RowKit
attribute [local go_sem] ta_nn ta_wn ta_ln ta_nw ta_ww ta_lw ta_nl ta_wl ta_ll
theorem dies {p:Prop} {md:Region.Mode} {a:Act} {w:World} (h:p) (_:wpAny Tryz.prog md #[] (fun _ _ _=>True) 0 #[] a w):p:=h
theorem numbers_ok (i j:Int) (w:World) :
  Calls Tryz.prog 316 #[.agg #[.iface 219 (.int .i64 i),.iface 219 (.int .i64 j)]] w fun e w'=>e=.returned (.tuple #[.int .i64 i,.int .i64 j])∧Below w.heap.size w w':=by
 go_enter Tryz.func316,Tryz.ntmps316
 go_wp2
 go_region_with (go_at_call 280; refine (numberIn_ok _ _).mono ?_; rintro e w' ⟨rfl,rfl⟩)
 all_goals go_wp2
 all_goals go_ret2
 all_goals exact ⟨rfl,((Below.refl _ _).alloc (Nat.le_refl _) _).drew⟩
theorem numbers_no (t u:TypeId) (a b:Value) (w:World) (ha:(t=219∧∃ i,a=.int .i64 i)∨t=215∨t=248) (hb:(u=219∧∃ i,b=.int .i64 i)∨u=215∨u=248) (hn:t≠219∨u≠219) :
  Calls Tryz.prog 316 #[.agg #[.iface t a,.iface u b]] w fun e w'=>e=broken 9∧Below w.heap.size w w':=by
 have hB:∀ o,Below w.heap.size w (w.alloc o).drew:=fun o=>((Below.refl _ _).alloc (Nat.le_refl _) _).drew
 rcases ha with ⟨rfl,i,rfl⟩ | ha
 ·have hb':u=215∨u=248:=by
   rcases hb with ⟨rfl,_⟩ | hb
   ·rcases hn with h | h <;> exact absurd rfl h
   ·exact hb
  have H1:=hide (fun w=>numberIn_ok i w)
  have H2:=hide (fun w=>numberIn_no u b w hb')
  clear hb hn hb'
  go_enter Tryz.func316,Tryz.ntmps316
  go_wp2
  go_region_with (first | (go_at_call 280; refine (H1.out _).mono ?_; clear H1; rintro e w' ⟨rfl,rfl⟩) | (go_at_call 280; refine (H2.out _).mono ?_; rintro e w' ⟨rfl,rfl⟩; refine dies (md:=.text) (a:=⟨#[],[]⟩) (w:=w) ⟨rfl,rfl,hB _⟩ ?_))
  all_goals trivial
 ·clear hb hn
  go_enter Tryz.func316,Tryz.ntmps316
  go_wp2
  go_region_with (go_at_call 280; refine (numberIn_no _ _ _ ha).mono ?_; rintro e w' ⟨rfl,rfl⟩; refine dies (md:=.text) (a:=⟨#[],[]⟩) (w:=w) ⟨rfl,rfl,hB _⟩ ?_)
  all_goals trivial
end
section
set_option maxRecDepth 100000
set_option maxHeartbeats 400000
open Go.RowKit
attribute [local go_sem] ta_nn ta_wn ta_ln ta_nw ta_ww ta_lw ta_nl ta_wl ta_ll
theorem wrap_in (i:Int):-9223372036854775808≤Lard.wrap i∧Lard.wrap i≤9223372036854775807:=by
 unfold Lard.wrap; omega
theorem wrapE (i:Int):Lard.wrap i=wrap64 i:=by
 unfold Lard.wrap wrap64; rfl
theorem isNum {w:World} {n:Nat} (i:Int) (h0:-9223372036854775808≤i) (h1:i≤9223372036854775807):IsVal w n (Lard.vn i) (.iface 219 (.int .i64 i)) :=
 .leaf (.inl ⟨i,rfl,rfl,h0,h1⟩)
theorem not_both {w:World} {n m:Nat} {v u:Lard.V} {x y:Value} (hx:IsVal w n v x) (hy:IsVal w m u y) :
  (∃ i j,v=Lard.vn i∧u=Lard.vn j∧x=.iface 219 (.int .i64 i)∧y=.iface 219 (.int .i64 j)∧-9223372036854775808≤i∧i≤9223372036854775807∧-9223372036854775808≤j∧j≤9223372036854775807) ∨
  ((∀ f,Lard.nums v u f=.error 9)∧∀ W:World,Calls Tryz.prog 316 #[.agg #[x,y]] W fun e w'=>e=broken 9∧Below W.heap.size W w'):=by
 rcases hx.forms with ⟨i,rfl,rfl,hi⟩ | ⟨b,rfl,rfl,_⟩ | ⟨_,l,s,ys,_,rfl,rfl,_⟩
 ·rcases hy.forms with ⟨j,rfl,rfl,hj⟩ | ⟨b,rfl,rfl,_⟩ | ⟨_,l,s,ys,_,rfl,rfl,_⟩
  ·exact .inl ⟨i,j,rfl,rfl,rfl,rfl,hi.1,hi.2,hj.1,hj.2⟩
  ·exact .inr ⟨fun _=>rfl,fun W=>numbers_no _ _ _ _ W (.inl ⟨rfl,_,rfl⟩) (.inr (.inl rfl)) (.inr (by decide))⟩
  ·exact .inr ⟨fun _=>rfl,fun W=>numbers_no _ _ _ _ W (.inl ⟨rfl,_,rfl⟩) (.inr (.inr rfl)) (.inr (by decide))⟩
 ·have hy':∃ t b,y=.iface t b∧((t=219∧∃ i,b=.int .i64 i)∨t=215∨t=248):=by
   rcases hy.forms with ⟨j,rfl,rfl,hj⟩ | ⟨b,rfl,rfl,_⟩ | ⟨_,l,s,ys,_,rfl,rfl,_⟩
   ·exact ⟨_,_,rfl,.inl ⟨rfl,_,rfl⟩⟩
   ·exact ⟨_,_,rfl,.inr (.inl rfl)⟩
   ·exact ⟨_,_,rfl,.inr (.inr rfl)⟩
  obtain ⟨t,c,rfl,ht⟩:=hy'
  exact .inr ⟨fun _=>rfl,fun W=>numbers_no _ _ _ _ W (.inr (.inl rfl)) ht (.inl (by decide))⟩
 ·have hy':∃ t b,y=.iface t b∧((t=219∧∃ i,b=.int .i64 i)∨t=215∨t=248):=by
   rcases hy.forms with ⟨j,rfl,rfl,hj⟩ | ⟨b,rfl,rfl,_⟩ | ⟨_,l,s,ys,_,rfl,rfl,_⟩
   ·exact ⟨_,_,rfl,.inl ⟨rfl,_,rfl⟩⟩
   ·exact ⟨_,_,rfl,.inr (.inl rfl)⟩
   ·exact ⟨_,_,rfl,.inr (.inr rfl)⟩
  obtain ⟨t,c,rfl,ht⟩:=hy'
  exact .inr ⟨fun _=>rfl,fun W=>numbers_no _ _ _ _ W (.inr (.inr rfl)) ht (.inl (by decide))⟩
theorem minus_any {v u:Lard.V} {x y:Value} (w:World) (hx:IsVal w 3 v x) (hy:IsVal w 3 u y) :
  Calls Tryz.prog 304 #[.agg #[x,y]] w (PV w (Lard.nums v u fun i j=>.ok (Lard.vn (Lard.wrap (i - j))))):=by
 obtain ⟨t1,a1,ex⟩:=hx.one
 obtain ⟨t2,a2,ey⟩:=hy.one
 rcases not_both hx hy with ⟨i,j,rfl,rfl,rfl,rfl,h0,h1,h2,h3⟩ | ⟨hn,hc⟩
 ·clear ex ey hx hy
  go_enter Tryz.func304,Tryz.ntmps304
  go_wp2_with (go_at_call 316; refine (numbers_ok _ _ _).mono ?_; rintro e w' ⟨rfl,hB⟩)
  go_ret
  exact PV.ok (((Below.refl _ _).alloc (Nat.le_refl _) _).trans (hB.mono (by simp))) (show IsVal _ 3 _ (.iface 219 (.int .i64 (wrap64 (i - j)))) from by rw [←wrapE]; exact isNum _ (wrap_in _).1 (wrap_in _).2)
 ·rw [hn]
  subst ex ey
  have HC:=hide hc
  clear hc hn hx hy
  go_enter Tryz.func304,Tryz.ntmps304
  go_wp2_with fail
  refine (HC.out _).mono ?_
  rintro e w' ⟨rfl,hB⟩
  exact ⟨rfl,PV.err (((Below.refl _ _).alloc (Nat.le_refl _) _).trans (hB.mono (by simp)))⟩
theorem times_any {v u:Lard.V} {x y:Value} (w:World) (hx:IsVal w 3 v x) (hy:IsVal w 3 u y) :
  Calls Tryz.prog 305 #[.agg #[x,y]] w (PV w (Lard.nums v u fun i j=>.ok (Lard.vn (Lard.wrap (i * j))))):=by
 obtain ⟨t1,a1,ex⟩:=hx.one
 obtain ⟨t2,a2,ey⟩:=hy.one
 rcases not_both hx hy with ⟨i,j,rfl,rfl,rfl,rfl,h0,h1,h2,h3⟩ | ⟨hn,hc⟩
 ·clear ex ey hx hy
  go_enter Tryz.func305,Tryz.ntmps305
  go_wp2_with (go_at_call 316; refine (numbers_ok _ _ _).mono ?_; rintro e w' ⟨rfl,hB⟩)
  go_ret
  exact PV.ok (((Below.refl _ _).alloc (Nat.le_refl _) _).trans (hB.mono (by simp))) (show IsVal _ 3 _ (.iface 219 (.int .i64 (wrap64 (i * j)))) from by rw [←wrapE]; exact isNum _ (wrap_in _).1 (wrap_in _).2)
 ·rw [hn]
  subst ex ey
  have HC:=hide hc
  clear hc hn hx hy
  go_enter Tryz.func305,Tryz.ntmps305
  go_wp2_with fail
  refine (HC.out _).mono ?_
  rintro e w' ⟨rfl,hB⟩
  exact ⟨rfl,PV.err (((Below.refl _ _).alloc (Nat.le_refl _) _).trans (hB.mono (by simp)))⟩
theorem least_any {v u:Lard.V} {x y:Value} (w:World) (hx:IsVal w 3 v x) (hy:IsVal w 3 u y) :
  Calls Tryz.prog 309 #[.agg #[x,y]] w (PV w (Lard.nums v u fun i j=>.ok (Lard.vn (min i j)))):=by
 obtain ⟨t1,a1,ex⟩:=hx.one
 obtain ⟨t2,a2,ey⟩:=hy.one
 rcases not_both hx hy with ⟨i,j,rfl,rfl,rfl,rfl,h0,h1,h2,h3⟩ | ⟨hn,hc⟩
 ·clear ex ey hx hy
  go_enter Tryz.func309,Tryz.ntmps309
  go_wp2_with (go_at_call 316; refine (numbers_ok _ _ _).mono ?_; rintro e w' ⟨rfl,hB⟩)
  go_ret
  exact PV.ok (((Below.refl _ _).alloc (Nat.le_refl _) _).trans (hB.mono (by simp))) (show IsVal _ 3 _ (.iface 219 (.int .i64 (min i j))) from isNum _ (by omega) (by omega))
 ·rw [hn]
  subst ex ey
  have HC:=hide hc
  clear hc hn hx hy
  go_enter Tryz.func309,Tryz.ntmps309
  go_wp2_with fail
  refine (HC.out _).mono ?_
  rintro e w' ⟨rfl,hB⟩
  exact ⟨rfl,PV.err (((Below.refl _ _).alloc (Nat.le_refl _) _).trans (hB.mono (by simp)))⟩
theorem most_any {v u:Lard.V} {x y:Value} (w:World) (hx:IsVal w 3 v x) (hy:IsVal w 3 u y) :
  Calls Tryz.prog 310 #[.agg #[x,y]] w (PV w (Lard.nums v u fun i j=>.ok (Lard.vn (max i j)))):=by
 obtain ⟨t1,a1,ex⟩:=hx.one
 obtain ⟨t2,a2,ey⟩:=hy.one
 rcases not_both hx hy with ⟨i,j,rfl,rfl,rfl,rfl,h0,h1,h2,h3⟩ | ⟨hn,hc⟩
 ·clear ex ey hx hy
  go_enter Tryz.func310,Tryz.ntmps310
  go_wp2_with (go_at_call 316; refine (numbers_ok _ _ _).mono ?_; rintro e w' ⟨rfl,hB⟩)
  go_ret
  exact PV.ok (((Below.refl _ _).alloc (Nat.le_refl _) _).trans (hB.mono (by simp))) (show IsVal _ 3 _ (.iface 219 (.int .i64 (max i j))) from isNum _ (by omega) (by omega))
 ·rw [hn]
  subst ex ey
  have HC:=hide hc
  clear hc hn hx hy
  go_enter Tryz.func310,Tryz.ntmps310
  go_wp2_with fail
  refine (HC.out _).mono ?_
  rintro e w' ⟨rfl,hB⟩
  exact ⟨rfl,PV.err (((Below.refl _ _).alloc (Nat.le_refl _) _).trans (hB.mono (by simp)))⟩
theorem over_any {v u:Lard.V} {x y:Value} (w:World) (hx:IsVal w 3 v x) (hy:IsVal w 3 u y) :
  Calls Tryz.prog 306 #[.agg #[x,y]] w (PV w (Lard.nums v u fun i j=>if j=0 then .error 8 else .ok (Lard.vn (Lard.wrap (i.tdiv j))))):=by
 obtain ⟨t1,a1,ex⟩:=hx.one
 obtain ⟨t2,a2,ey⟩:=hy.one
 rcases not_both hx hy with ⟨i,j,rfl,rfl,rfl,rfl,h0,h1,h2,h3⟩ | ⟨hn,hc⟩
 ·clear ex ey hx hy
  by_cases hj:j=0
  ·show Calls _ _ _ _ (PV w (if j=0 then .error 8 else .ok (Lard.vn (Lard.wrap (i.tdiv j)))))
   rw [if_pos hj]
   subst hj
   go_enter Tryz.func306,Tryz.ntmps306
   go_wp2_with (go_at_call 316; refine (numbers_ok _ _ _).mono ?_; rintro e w' ⟨rfl,hB⟩)
   exact ⟨rfl,PV.err (((Below.refl _ _).alloc (Nat.le_refl _) _).trans (hB.mono (by simp)))⟩
  ·show Calls _ _ _ _ (PV w (if j=0 then .error 8 else .ok (Lard.vn (Lard.wrap (i.tdiv j)))))
   rw [if_neg hj]
   go_enter Tryz.func306,Tryz.ntmps306
   go_wp2_with (go_at_call 316; refine (numbers_ok _ _ _).mono ?_; rintro e w' ⟨rfl,hB⟩)
   go_ret
   exact PV.ok (((Below.refl _ _).alloc (Nat.le_refl _) _).trans (hB.mono (by simp))) (show IsVal _ 3 _ (.iface 219 (.int .i64 (wrap64 (i.tdiv j)))) from by rw [←wrapE]; exact isNum _ (wrap_in _).1 (wrap_in _).2)
 ·rw [hn]
  subst ex ey
  have HC:=hide hc
  clear hc hn hx hy
  go_enter Tryz.func306,Tryz.ntmps306
  go_wp2_with fail
  refine (HC.out _).mono ?_
  rintro e w' ⟨rfl,hB⟩
  exact ⟨rfl,PV.err (((Below.refl _ _).alloc (Nat.le_refl _) _).trans (hB.mono (by simp)))⟩
end
section
set_option maxRecDepth 100000
set_option maxHeartbeats 400000
open Go.RowKit
attribute [local go_sem] ta_nn ta_wn ta_ln ta_nw ta_ww ta_lw ta_nl ta_wl ta_ll
theorem isWord {w:World} {n:Nat} (b:ByteArray) (h:b.size≤30):IsVal w n (Lard.vw b.data.toList) (.iface 215 (.string b)) :=
 .leaf (.inr ⟨b,rfl,rfl,h⟩)
theorem len_data (b:ByteArray):b.data.toList.length=b.size:=by simp
theorem join_ok (a b:ByteArray) (w:World) (h:a.size + b.size≤30) :
  Calls Tryz.prog 314 #[.string a,.string b] w fun e w'=>e=.returned (.iface 215 (.string (a++b)))∧w'=w:=by
 go_enter Tryz.func314,Tryz.ntmps314
 go_wp2
 go_ret
 exact ⟨rfl,rfl⟩
theorem join_no (a b:ByteArray) (w:World) (ha:a.size≤30) (hb:b.size≤30) (h:30 < a.size + b.size) :
  Calls Tryz.prog 314 #[.string a,.string b] w fun e w'=>e=broken 10∧w'=w:=by
 go_enter Tryz.func314,Tryz.ntmps314
 go_wp2
 exact ⟨rfl,rfl,rfl⟩
theorem PV.num {w w':World} {i j:Int} (hB:Below w.heap.size w w') (h:j=i) (h0:-9223372036854775808≤i) (h1:i≤9223372036854775807):PV w (.ok (Lard.vn i)) (.returned (.iface 219 (.int .i64 j))) w':=by
 subst h; exact PV.ok hB (isNum _ h0 h1)
theorem PV.word {w w':World} {l:List UInt8} {b:ByteArray} (hB:Below w.heap.size w w') (h:b.data.toList=l) (h0:b.size≤30):PV w (.ok (Lard.vw l)) (.returned (.iface 215 (.string b))) w':=by
 subst h; exact PV.ok hB (isWord _ h0)
theorem IsRow.len {w:World} {s:Value} {ys:List Value} (h:IsRow w s ys):∃ o c,s=.slice o ys.length c:=by
 rcases h with ⟨rfl,rfl⟩ | ⟨b,cap,cs,fz,rfl,_⟩
 ·exact ⟨_,_,rfl⟩
 ·exact ⟨_,_,rfl⟩
theorem IsRow.cell {w:World} {o:Option Addr} {n c:Nat} {ys:List Value} (h:IsRow w (.slice o n c) ys) {i:Nat} {y:Value} (hi:ys[i]? = some y):∃ b,o=some ⟨b,0,none⟩∧w.cell? ⟨b,i,none⟩=some y:=by
 have hlt:i < ys.length:=by
  rcases Nat.lt_or_ge i ys.length with h' | h'
  ·exact h'
  ·simp [List.getElem?_eq_none h'] at hi
 rcases h with ⟨h1,rfl⟩ | ⟨b,cap,cs,fz,h1,h2,h3,h4,h5⟩
 ·simp at hi
 ·cases h1
  refine ⟨b,rfl,?_⟩
  simp [World.cell?,h3,h5 i hlt,hi]
theorem size_any {v:Lard.V} {x:Value} (w:World) (hx:IsVal w 3 v x) :
  Calls Tryz.prog 283 #[x] w (PV w (Lard.size v)):=by
 rcases hx.forms with ⟨i,rfl,rfl,hi⟩ | ⟨b,rfl,rfl,hb⟩ | ⟨m,l,s,ys,hm,rfl,rfl,hr,hl,h12,hv⟩
 ·go_enter Tryz.func283,Tryz.ntmps283
  go_wp2
  exact ⟨rfl,PV.err (Below.refl _ _)⟩
 ·go_enter Tryz.func283,Tryz.ntmps283
  go_wp2
  go_ret
  exact PV.num (Below.refl _ _) (by simp) (by simp) (by simp; omega)
 ·obtain ⟨o,c,rfl⟩:=hr.len
  go_enter Tryz.func283,Tryz.ntmps283
  go_wp2
  go_ret
  exact PV.num (Below.refl _ _) (by omega) (by omega) (by omega)
theorem asWord_any {v:Lard.V} {x:Value} (w:World) (g:G w) (hx:IsVal w 3 v x) :
  Calls Tryz.prog 285 #[x] w (PV w (Lard.asWord v)):=by
 rcases hx.forms with ⟨i,rfl,rfl,hi⟩ | ⟨b,rfl,rfl,hb⟩ | ⟨m,l,s,ys,hm,rfl,rfl,hr,hl,h12,hv⟩
 ·have hlen:(Lib.itoa i).length≤30:=by have:=Lib.itoa_length_le i hi.1 hi.2; omega
  go_enter Tryz.func285,Tryz.ntmps285
  go_wp2_with (go_at_call 171; refine (written_any i _ g hi.1 hi.2).mono ?_; rintro e w' ⟨rfl,hB⟩)
  go_ret
  exact PV.word hB rfl (by simp [ByteArray.size]; exact hlen)
 ·go_enter Tryz.func285,Tryz.ntmps285
  go_wp2
  go_ret
  exact PV.word (Below.refl _ _) rfl hb
 ·obtain ⟨o,c,rfl⟩:=hr.len
  go_enter Tryz.func285,Tryz.ntmps285
  go_wp2
  exact ⟨rfl,PV.err (Below.refl _ _)⟩
theorem sum_any {v:Lard.V} {x:Value} (w:World) (hx:IsVal w 3 v x) :
  Calls Tryz.prog 284 #[x] w (PV w (Lard.sumUp v)):=by
 rcases hx.forms with ⟨i,rfl,rfl,hi⟩ | ⟨b,rfl,rfl,hb⟩ | ⟨m,l,s,ys,hm,rfl,rfl,hr,hl,h12,hv⟩
 ·go_enter Tryz.func284,Tryz.ntmps284
  go_wp2_with fail
  refine (listIn_no _ _ _ (.inr rfl)).mono ?_
  rintro e w' ⟨rfl,rfl⟩
  exact ⟨rfl,PV.err (Below.refl _ _)⟩
 ·go_enter Tryz.func284,Tryz.ntmps284
  go_wp2_with fail
  refine (listIn_no _ _ _ (.inl rfl)).mono ?_
  rintro e w' ⟨rfl,rfl⟩
  exact ⟨rfl,PV.err (Below.refl _ _)⟩
 ·obtain ⟨o,c,rfl⟩:=hr.len
  show Calls _ _ _ _ (PV w (Lard.sumFrom 0 l))
  generalize hfin:Lard.sumFrom 0 l=fin
  have HF:=hide hfin
  clear hfin
  go_enter Tryz.func284,Tryz.ntmps284
  go_wp2_with (go_at_call 278; refine (listIn_ok _ _ _ _).mono ?_; rintro e w' ⟨rfl,rfl⟩)
  go_loop [3,9] (fun a i=>∃ (k:Nat) (acc:Int),k≤l.length∧i=.int .i64 k∧a=.int .i64 acc∧-9223372036854775808≤acc∧acc≤9223372036854775807∧Hid (Lard.sumFrom acc (l.drop k)=fin)) (fun _ i=>ys.length - (intOf i).toNat)
  case atStart=>exact ⟨0,0,Nat.zero_le _,rfl,rfl,by omega,by omega,HF⟩
  case round =>
   obtain ⟨k,acc,hk,rfl,rfl,ha0,ha1,HR⟩:=hrel
   by_cases hlt:k < ys.length
   ·obtain ⟨y,hy⟩:∃ y,ys[k]? = some y:=⟨_,List.getElem?_eq_getElem hlt⟩
    obtain ⟨u,hu⟩:∃ u,l[k]? = some u:=⟨_,List.getElem?_eq_getElem (by omega)⟩
    obtain ⟨b,rfl,hc⟩:=hr.cell hy
    have hR:=HR.out
    have hd:l.drop k=u :: l.drop (k + 1):=by
     rw [List.drop_eq_getElem_cons (by omega)]
     rw [List.getElem?_eq_getElem (by omega)] at hu
     cases hu; rfl
    rw [hd] at hR
    rcases (hv k u y hu hy).forms with ⟨j,rfl,rfl,hj⟩ | ⟨d,rfl,rfl,hb⟩ | ⟨m2,l2,s2,ys2,hm2,rfl,rfl,hr2,hl2,_,_⟩
    ·have HR':Hid (Lard.sumFrom (Lard.wrap (acc + j)) (l.drop (k + 1))=fin):=hR
     clear hR HR HF hd hv hx hu hy hr
     go_wp2_with (go_at_call 280; refine (numberIn_ok _ _).mono ?_; rintro e w2 ⟨rfl,rfl⟩)
     exact ⟨⟨k + 1,Lard.wrap (acc + j),by omega,by go_num,by rw [wrapE],(wrap_in _).1,(wrap_in _).2,HR'⟩,by simp [intOf]; omega⟩
    ·have hR':fin=.error 9:=hR.symm
     subst hR'
     clear hR HR HF hd hv hx hu hy hr
     go_wp2_with fail
     refine (numberIn_no _ _ _ (.inl rfl)).mono ?_
     rintro e w' ⟨rfl,rfl⟩
     exact ⟨rfl,PV.err (Below.refl _ _)⟩
    ·have hR':fin=.error 9:=hR.symm
     subst hR'
     clear hR HR HF hd hv hx hu hy hr
     go_wp2_with fail
     refine (numberIn_no _ _ _ (.inr rfl)).mono ?_
     rintro e w' ⟨rfl,rfl⟩
     exact ⟨rfl,PV.err (Below.refl _ _)⟩
   ·have hR:=HR.out
    rw [List.drop_eq_nil_of_le (by omega)] at hR
    have hR':fin=.ok (Lard.vn acc):=hR.symm
    subst hR'
    clear hR HR HF
    go_wp2_with fail
    go_ret
    exact PV.num (Below.refl _ _) rfl ha0 ha1
end
end Go.Proofs.YtpekpdimdelncaaGreatDoor
