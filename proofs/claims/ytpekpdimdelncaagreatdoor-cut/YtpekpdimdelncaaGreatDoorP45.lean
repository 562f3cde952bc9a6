/- Out of: Sl, J13, J14. -/
import Derived.Test.YtpekpdimdelncaaGreatDoorP36
import Derived.Test.YtpekpdimdelncaaGreatDoorP38
import Derived.Test.YtpekpdimdelncaaGreatDoorP44
import Derived.Laws.StructEq
import Derived.Deep.CutRange
set_option linter.unusedVariables false
set_option linter.unusedSimpArgs false
namespace Go.Proofs.YtpekpdimdelncaaGreatDoor
section
namespace Lard
theorem ran_few {s:LS} (h:Sound s) (key:By):(s.ask key).2.ran.length≤40:=by
 have h1:=(h.nst key).ran
 have h2:s.fresh.ran.length=0:=rfl
 have h3:Rs s.fresh≤s.has.length:=by
  unfold Rs
  refine Nat.le_trans (List.length_filter_le _ _) ?_
  unfold ruled
  rw [List.length_map]
  exact List.length_filter_le _ _
 have:=h.len
 omega
def needKeys:Option Keep→List By
 |none=>[]
 |some kp=>kp.needs.map (·.1)
def allNeeds (h:List (By×Thing)):List By:=h.flatMap fun p=>needKeys p.2.kept
theorem allNeeds_len {h:List (By×Thing)} (hk:KB h):(allNeeds h).length≤h.length * 401:=by
 unfold allNeeds
 induction h with
 |nil=>exact Nat.le_refl _
 |cons p h ih =>
  rw [List.flatMap_cons,List.length_append,List.length_cons]
  have h1:=ih (fun q hq=>hk q (List.mem_cons_of_mem _ hq))
  have h2:(needKeys p.2.kept).length≤401:=by
   cases hp:p.2.kept with
   |none=>exact Nat.zero_le _
   |some kp =>
    unfold needKeys
    rw [List.length_map]
    exact hk p List.mem_cons_self kp hp
  omega
structure Grows (s:LS) (k:By) (l:List By) (i:Nat):Prop where
 nodup:l.Nodup
 first:k∈l
 sub:∀ x∈l,x=k∨x∈allNeeds s.has
 shut:∀ j x,j < i→l[j]? = some x→∀ kp,keptOf s.has x=some kp→∀ q∈kp.needs,q.1∈l
section
variable {s:LS} {k:By} {l:List By} {i:Nat}
theorem Grows.start (s:LS) (k:By):Grows s k [k] 0:=⟨by simp,by simp,fun x hx=>.inl (by simpa using hx),fun j x hj=>by omega⟩
theorem Grows.len (h:Grows s k l i) (hs:Sound s):l.length≤16041:=by
 have h1:=nodup_sub l (k :: allNeeds s.has) h.nodup (fun x hx=>by
  rcases h.sub x hx with rfl | hx
  ·exact List.mem_cons_self
  ·exact List.mem_cons_of_mem _ hx)
 have h2:=allNeeds_len hs.kb
 have h3:=hs.len
 simp only [List.length_cons] at h1
 have:s.has.length * 401≤40 * 401:=Nat.mul_le_mul_right _ h3
 omega
structure Grow2 (s:LS) (k:By) (l:List By) (i:Nat) (ns:List (By×Wo)) (j:Nat):Prop where
 gr:Grows s k l i
 part:∀ (a:Nat) q,a < j→ns[a]? = some q→q.1∈l
theorem Grow2.skip {ns:List (By×Wo)} {j:Nat} {q:By×Wo} (h:Grow2 s k l i ns j) (hq:ns[j]? = some q) (hm:q.1∈l):Grow2 s k l i ns (j + 1) :=
 ⟨h.gr,fun a p ha hp=>by
  by_cases e:a=j
  ·subst e
   rw [hq] at hp
   cases hp
   exact hm
  ·exact h.part a p (by omega) hp⟩
theorem Grow2.push {ns:List (By×Wo)} {j:Nat} {q:By×Wo} (h:Grow2 s k l i ns j) (hi:i < l.length) (hq:ns[j]? = some q) (hm:q.1 ∉ l) (hn:q.1∈allNeeds s.has):Grow2 s k (l++[q.1]) i ns (j + 1):=by
 refine ⟨⟨?_,List.mem_append_left _ h.gr.first,fun x hx=>?_,fun a x ha hx kp hkp p hp=>?_⟩,fun a p ha hp=>?_⟩
 ·rw [List.nodup_append]
  refine ⟨h.gr.nodup,by simp,fun x hx y hy=>?_⟩
  rw [List.mem_singleton.1 hy]
  exact fun e=>hm (e ▸ hx)
 ·rcases List.mem_append.1 hx with hx | hx
  ·exact h.gr.sub x hx
  ·rw [List.mem_singleton.1 hx]
   exact .inr hn
 ·rw [List.getElem?_append_left (by omega)] at hx
  exact List.mem_append_left _ (h.gr.shut a x ha hx kp hkp p hp)
 ·by_cases e:a=j
  ·subst e
   rw [hq] at hp
   cases hp
   simp
  ·exact List.mem_append_left _ (h.part a p (by omega) hp)
theorem Grow2.done {kp:Keep} {x:By} (h:Grow2 s k l i kp.needs kp.needs.length) (hx:l[i]? = some x) (hk:keptOf s.has x=some kp):Grows s k l (i + 1) :=
 ⟨h.gr.nodup,h.gr.first,h.gr.sub,fun j y hj hy kp' hk' q hq=>by
  by_cases e:j=i
  ·subst e
   rw [hx] at hy
   cases hy
   rw [hk] at hk'
   cases hk'
   obtain ⟨a,ha⟩:=List.getElem?_of_mem hq
   exact h.part a q (List.getElem?_eq_some_iff.1 ha).1 ha
  ·exact h.gr.shut j y (by omega) hy kp' hk' q hq⟩
theorem Grows.none {x:By} (h:Grows s k l i) (hx:l[i]? = some x) (hk:keptOf s.has x=none):Grows s k l (i + 1) :=
 ⟨h.nodup,h.first,h.sub,fun j y hj hy kp' hk' q hq=>by
  by_cases e:j=i
  ·subst e
   rw [hx] at hy
   cases hy
   rw [hk] at hk'
   cases hk'
  ·exact h.shut j y (by omega) hy kp' hk' q hq⟩
theorem Grows.closed (h:Grows s k l l.length):∀ x kp,x∈l→keptOf s.has x=some kp→∀ q∈kp.needs,q.1∈l:=by
 intro x kp hx hk q hq
 obtain ⟨j,hj⟩:=List.getElem?_of_mem hx
 exact h.shut j x (List.getElem?_eq_some_iff.1 hj).1 hj kp hk q hq
end
end Lard
end
section
set_option maxRecDepth 100000
set_option maxHeartbeats 8000000
open Go.RowKit Go.Shelf
theorem neqC (w:World) (k n s t:ByteArray) (a b:Int):(binOp .neq 61 (.agg #[.string k,.string n,.int .i64 a,.string s,.int .i64 b,.string t]) (.agg #[.string k,.string n,.int .i64 a,.string s,.int .i64 b,.string t])).run Tryz.prog w=.ok (.bool false) w:=by
 have u9:=Tryz.underlying9
 have a9:=Tryz.isAgg9
 have z9:=Tryz.sizeOf9
 have aw:=Tryz.isAgg59
 have zw:=Tryz.sizeOf59
 rw [run_neq_struct,show (10000:Nat)=9997 + 1 + 1 + 1 from rfl,run_equalIn_agg w (9997 + 1 + 1) 61 _ _ (by kernel_rfl) (by kernel_rfl)]
 simp only [Program.fieldsOf,Tryz.underlying61]
 go_simp
theorem guardC (w:World) (x y:Operand) (xs ys:Array Value):(eqGuard .neq 61 x y (.agg xs) (.agg ys)).run Tryz.prog w=.ok () w:=run_eqGuard_agg w .neq 61 x y xs ys (by kernel_rfl)
theorem hasInfo:(Tryz.prog.info? 69).map (fun i=>(i.zero,i.size,i.bytes))=some (some (.agg #[.int .i64 0,.string ⟨#[]⟩]),2,24):=by kernel_rfl
theorem hasF_one (H:Nat→Nat×List UInt8) (j:Nat):(hasF H j).oneCell'=true:=by
 unfold hasF
 split <;> rfl
theorem hm_copy {w:World} {hb:Nat} {H:Nat→Nat×List UInt8} (h:HM w hb H) (h8:8≤w.heap.size) (c:Nat):∃ cap w',(Builtin.append_ #[31,31] 31 #[.slice none 0 0,.slice (some ⟨hb,0,none⟩) 8 c]).run Tryz.prog w=.ok (.slice (some ⟨w.heap.size,0,none⟩) 8 cap) w'∧HM w' w.heap.size H∧Below w.heap.size w w':=by
 obtain ⟨i0,hi0,hz0,hz1,hz2⟩:=info_parts hasInfo
 obtain ⟨g,cap,w',hr,ho,hg,hloc,hlt⟩:=run_append_lies (P:=Tryz.prog) w 31 31 8 69 i0 _ 2 24 Tryz.underlying31 hi0 hz0 hz1 hz2 rfl (by decide) (.slice none 0 0) 0 [] (World.ownsRow_nil _ _ _ _) ⟨hb,0,none⟩ 8 c ((List.range 16).map (hasF H)) (by simp) (fun j u hj=>by
  rw [addr_add,Nat.zero_add]
  rw [List.getElem?_map] at hj
  rcases Nat.lt_or_ge j 16 with hlt | hge
  ·rw [List.getElem?_range hlt] at hj
   cases hj
   exact h.at hlt
  ·rw [List.getElem?_eq_none (by simpa using hge)] at hj
   cases hj) (fun u hu=>by
  obtain ⟨j,_,rfl⟩:=List.mem_map.1 hu
  exact hasF_one H j) (by omega) (by unfold maxLen; omega) (by omega) h8 _ rfl
 rcases hloc with hloc | rfl
 ·cases hloc
 refine ⟨cap,w',hr,?_,⟨hg.os,hg.tape,hg.output,hg.size,fun k hk=>hg.block k hk (fun e=>by cases e)⟩⟩
 rcases ho.2 with ⟨e,_⟩ | ⟨g,cap',cur,e,_,hgb,hnc,_,hcs,htake⟩
 ·cases e
 cases e
 have h16:16≤cur.size:=by rw [hcs]; omega
 refine ⟨cur.size,fun j=>cur[j]?.getD undef,h16,⟨cur,hgb,rfl,fun i hi=>?_⟩,fun j hj=>?_⟩
 ·show cur[i]? = some (cur[i]?.getD undef)
  rw [Array.getElem?_eq_getElem hi]
  rfl
 ·have e1:cur.toList[j]? = some (hasF H j):=by
   have:=congrArg (fun l=>l[j]?) htake
   simp only [List.nil_append] at this
   rw [List.getElem?_take_of_lt (by omega),List.getElem?_map,List.getElem?_range hj] at this
   exact this
  rw [Array.getElem?_toList] at e1
  show cur[j]?.getD undef=_
  rw [e1]
  rfl
structure AW (w0 w:World) (lb hb qb bb:Nat) (s q:Lard.LS) (L Lq:Nat→Prop) (N M:Nat) (H1 H2:Nat→Nat×List UInt8):Prop where
 l:HL w0 w lb hb s L N H1
 r:HL w0 w qb bb q Lq M H2
 d1:∀ k,L k→¬ Lq k
 d2:∀ k,L k→k≠bb
 d3:∀ k,Lq k→k≠hb
 ne:hb≠bb
section
variable {w0 w w':World} {lb hb qb bb:Nat} {s q s':Lard.LS} {L Lq L':Nat→Prop} {N M N':Nat} {H1 H2 H1':Nat→Nat×List UInt8}
theorem AW.sym (h:AW w0 w lb hb qb bb s q L Lq N M H1 H2):AW w0 w qb bb lb hb q s Lq L M N H2 H1:=⟨h.r,h.l,fun k h1 h2=>h.d1 k h2 h1,h.d3,h.d2,h.ne.symm⟩
theorem AW.below (h:AW w0 w lb hb qb bb s q L Lq N M H1 H2) (hB:Below w.heap.size w w'):AW w0 w' lb hb qb bb s q L Lq N M H1 H2:=⟨h.l.below hB,h.r.below hB,h.d1,h.d2,h.d3,h.ne⟩
theorem HL.ax (h:HL w0 w lb hb s L N H1):HX (fun k=>k < w.heap.size∧¬ L k∧k≠hb) w w lb hb s L N H1 :=
 ⟨h.la,h.hm,fun k hk=>⟨fun h=>h.2.1 hk,(h.off k hk).2⟩,⟨fun h=>h.2.2 rfl,h.own.2⟩,{ toFrm:=Frm.refl _ _,lt:=fun k h=>h.1 },h.ok,h.oki⟩
theorem AW.does (h:AW w0 w lb hb qb bb s q L Lq N M H1 H2) (hx:HX (fun k=>k < w.heap.size∧¬ L k∧k≠hb) w w' lb hb s' L' N' H1'):AW w0 w' lb hb qb bb s' q L' Lq N' M H1' H2:=by
 have hL':∀ k,L' k→L k∨w.heap.size≤k:=fun k hk=>by
  have h1:=hx.off k hk
  by_cases hl:L k
  ·exact .inl hl
  ·refine .inr (Nat.le_of_not_lt (fun hlt=>h1.1 ⟨hlt,hl,h1.2⟩))
 have hf:Frm (fun k=>L k∨k=hb) w w':=⟨hx.bel.os,hx.bel.tape,hx.bel.output,hx.bel.size,fun k hk hn=>hx.bel.same ⟨hk,fun h=>hn (.inl h),fun h=>hn (.inr h)⟩⟩
 have hsz:=h.l.bel.size
 have hbel:Below w0.heap.size w0 w':=h.l.bel.trans ⟨hf.os,hf.tape,hf.output,hf.size,fun k hk=>hf.block k (by omega) (fun hl=>by
  rcases hl with hl | rfl
  ·have:=(h.l.off k hl).1; omega
  ·have:=h.l.own.1; omega)⟩
 have hblt:=h.r.hm.lt
 refine ⟨⟨hx.la,hx.hm,fun k hk=>?_,h.l.own,hbel,hx.ok,hx.oki⟩,⟨h.r.la.other hf (fun k hk=>?_) (fun k hk cs t fz hc=>?_) (fun k hk hl=>?_),h.r.hm.same (hf.block _ hblt (fun hl=>?_)),h.r.off,h.r.own,hbel,h.r.ok,h.r.oki⟩,fun k hk hq=>?_,fun k hk=>?_,h.d3,h.ne⟩
 ·refine ⟨?_,(hx.off k hk).2⟩
  rcases hL' k hk with h1 | h1
  ·exact (h.l.off k h1).1
  ·omega
 ·rcases hk with hk | rfl
  ·exact (h.l.la.lat.lt hk).1
  ·exact h.l.own.2
 ·rcases hk with hk | rfl
  ·exact la_imm h.l.la k hk cs t fz hc
  ·obtain ⟨c,h1⟩:=h.l.hm.blk
   rw [h1] at hc
   cases hc
   exact imm_has
 ·rcases hl with hl | rfl
  ·exact h.d1 k hl hk
  ·exact h.d3 _ hk rfl
 ·rcases hl with hl | hl
  ·exact h.d2 _ hl rfl
  ·exact h.ne hl.symm
 ·rcases hL' k hk with h1 | h1
  ·exact h.d1 k h1 hq
  ·have:=(h.r.la.lat.lt hq).2; omega
 ·rcases hL' k hk with h1 | h1
  ·exact h.d2 k h1
  ·omega
end
theorem flat_c {α:Type} {f:α→List Value} {c:Nat} (hc:∀ y,(f y).length=c):∀ (R:List α) (k j:Nat) (y:α),R[k]? = some y→j < c→(R.flatMap f)[k * c + j]? = (f y)[j]?
 |[],k,j,y,h,_=>by simp at h
 |m :: R,0,j,y,h,hj=>by
  simp at h
  subst h
  rw [List.flatMap_cons,List.getElem?_append_left (by rw [hc]; omega)]
  simp
 |m :: R,k + 1,j,y,h,hj=>by
  rw [List.flatMap_cons,List.getElem?_append_right (by rw [hc,Nat.succ_mul]; omega),hc,show (k + 1) * c + j - c=k * c + j by rw [Nat.succ_mul]; omega]
  exact flat_c hc R k j y (by simpa using h) hj
theorem wo_cells (r:Lard.Wo):∃ (c:Int) (t:ByteArray),woCells r=[.int .i64 c,.string t]:=by
 cases r <;> exact ⟨_,_,rfl⟩
theorem why_cells (y:Lard.Why):∃ (k n s t:ByteArray) (a b:Int),whyCells y=[.string k,.string n,.int .i64 a,.string s,.int .i64 b,.string t]:=by
 obtain ⟨a,s,h1⟩:=wo_cells y.was
 obtain ⟨b,t,h2⟩:=wo_cells y.now
 exact ⟨⟨y.key.toArray⟩,⟨y.need.toArray⟩,s,t,a,b,by unfold whyCells; rw [h1,h2]; rfl⟩
theorem cause_at {w:World} {base:Nat} {v:Value} {R:List Lard.Why} (h:w.ownsRow base 61 6 v R.length (R.flatMap whyCells)):∃ o c,v=.slice o R.length c∧∀ (j:Nat) y,R[j]? = some y→∃ g,o=some ⟨g,0,none⟩∧g < w.heap.size∧∀ t u,(whyCells y)[t]? = some u→w.cell? ⟨g,j * 6 + t,none⟩=some u:=by
 have hlen:∀ y:Lard.Why,(whyCells y).length=6:=fun y=>by
  obtain ⟨k,n,s,t,a,b,e⟩:=why_cells y
  rw [e]
  rfl
 rcases h.2 with ⟨e,h0⟩ | ⟨g,cap,cur,e,_,hgb,_⟩
 ·refine ⟨none,0,by rw [e,h0],fun j y hy=>?_⟩
  have:=(List.getElem?_eq_some_iff.1 hy).1
  omega
 ·refine ⟨some ⟨g,0,none⟩,cap,e,fun j y hy=>⟨g,rfl,lt_of_some hgb,fun t u hu=>?_⟩⟩
  have ht:t < 6:=by
   have:=(List.getElem?_eq_some_iff.1 hu).1
   rw [hlen] at this
   exact this
  have:=World.ownsRow.cells h (g:=g) (by rw [e]; rfl) (j * 6 + t) u ((flat_c hlen R j t y hy ht).trans hu)
  rw [addr_add,Nat.zero_add] at this
  exact this
theorem step_ran {s:Lard.LS} (h:Lard.Sound s) (kd ky wi:Int) (ha:5 < pickN kd 9):(stepS s kd ky wi).ran.length≤40:=by
 unfold stepS
 rw [if_neg (by omega),if_neg (by omega),if_neg (by omega)]
 exact Lard.ran_few h _
attribute [local go_sem] neqC guardC
theorem alike_any (w0 w:World) (lb hb qb:Nat) (s q:Lard.LS) (L Lq:Nat→Prop) (N:Nat) (H:Nat→Nat×List UInt8) (o:Option Addr) (len cap:Nat) (K Y Z:Nat→Int) (hv:StepsAt w0 o len K Y Z) (hl:HL w0 w lb hb s L N H) (hq:La w qb q Lq N) (hqo:∀ k,Lq k→w0.heap.size≤k∧k≠hb∧¬ L k) (hok:Lard.HasOk q H 8) (hal:Lard.Al0 s q) (hN:N≤1000000000000) :
  Calls Tryz.prog 36 #[ptr lb,ptr qb,.slice (some ⟨hb,0,none⟩) 8 8,.slice o len cap] w fun e w'=>e=.returned (.bool true)∧Below w0.heap.size w0 w':=by
 generalize hRR:(fun (e:Ending) (w':World)=>e=.returned (.bool true)∧Below w0.heap.size w0 w')=E
 have HE:Hid (∀ w',Below w0.heap.size w0 w'→E (.returned (.bool true)) w'):=hide (fun w' hB=>by rw [←hRR]; exact ⟨rfl,hB⟩)
 obtain ⟨cp,w1,hap,hmb,hB1⟩:=hm_copy hl.hm hl.la.g.size 8
 have hA:AW w0 w1 lb hb qb w.heap.size s q L Lq (N + 0 * 2000000000) (N + 0 * 2000000000) H H:=⟨by simpa using hl.below hB1,⟨by simpa using hq.below hB1,hmb,fun k hk=>⟨(hqo k hk).1,fun e=>by have:=(hq.lat.lt hk).2; omega⟩,⟨hl.bel.size,hl.la.g.size⟩,(hl.below hB1).bel,hok,hl.oki⟩,fun k h1 h2=>(hqo k h2).2.2 h1,fun k hk e=>by have:=(hl.la.lat.lt hk).2; omega,fun k hk=>(hqo k hk).2.1,fun e=>by have:=hl.hm.lt; omega⟩
 have HA:Hid (AW w0 w1 lb hb qb w.heap.size s q L Lq (N + 0 * 2000000000) (N + 0 * 2000000000) H H∧Lard.Al0 s q):=hide ⟨hA,hal⟩
 have HV:=hide hv
 generalize w.heap.size=bb at hap HA
 clear hRR hA hmb hB1 hl hq hqo hok hal hv
 unfold ptr
 go_enter Tryz.func36,Tryz.ntmps36
 go_wp2_with (at_builtin; refine wpList_run_append _ rfl _ _ _ _ rfl _ _ _ _ rfl rfl hap ?_)
 clear hap
 go_wp2_with fail
 go_loopw [8,10] (fun bv iv wr=>∃ (i:Nat) (s q:Lard.LS) (L Lq:Nat→Prop) (H:Nat→Nat×List UInt8),i≤len∧i≤20∧bv=.bool false∧iv=.int .i64 i∧Hid (AW w0 wr lb hb qb bb s q L Lq (N + i * 2000000000) (N + i * 2000000000) H H∧Lard.Al0 s q)) (fun _ iv _=>20 - (intOf iv).toNat)
 case atStart=>exact ⟨0,s,q,L,Lq,H,Nat.zero_le _,Nat.zero_le _,rfl,rfl,HA⟩
 case round =>
  obtain ⟨i,s,q,L,Lq,H,hi,hi20,rfl,rfl,HX⟩:=hrel
  clear HA
  have HEN:=hide (HE.out wr HX.out.1.l.bel)
  by_cases h1:i < len
  ·have h1i:(i:Int) < (len:Int):=by omega
   by_cases h2:i < 20
   ·have h2i:(i:Int) < 20:=by omega
    clear HEN
    obtain ⟨ab,ao,rfl,e1,e2,e3,b1,b2,b3⟩:=HV.out i h1
    have b0:=World.block_lt_of_cell? _ _ e1
    have HST:Hid (∀ W,Below w0.heap.size w0 W→W.cell? ⟨ab,ao + i * 3,none⟩=some (.int .i64 (K i))∧W.cell? ⟨ab,ao + i * 3 + 1,none⟩=some (.int .i64 (Y i))∧W.cell? ⟨ab,ao + i * 3 + 2,none⟩=some (.int .i64 (Z i))):=hide (fun W hB=>⟨(hB.cell b0).trans e1,(hB.cell (World.block_lt_of_cell? _ _ e2)).trans e2,(hB.cell (World.block_lt_of_cell? _ _ e3)).trans e3⟩)
    obtain ⟨d1,d2,d3⟩:=HST.out wr HX.out.1.l.bel
    have HDO:=hide (does_x _ wr wr lb hb s L (N + i * 2000000000) H (K i) (Y i) (Z i) b1 b2 b3 (by omega) HX.out.1.l.ax (cp:=8))
    unfold ptr at HDO
    clear e1 e2 e3
    go_wp2_with fail
    refine HDO.out.mono ?_
    rintro e w2 ⟨rfl,L2,hx2⟩
    have hA2:=HX.out.1.does hx2
    clear HDO hx2 d1 d2 d3
    obtain ⟨d1,d2,d3⟩:=HST.out w2 hA2.l.bel
    have HDO:=hide (does_x _ w2 w2 qb bb q Lq (N + i * 2000000000) H (K i) (Y i) (Z i) b1 b2 b3 (by omega) hA2.r.ax (cp:=cp))
    unfold ptr at HDO
    have HA2:=hide hA2
    clear hA2
    dsimp only
    go_wp2_with fail
    refine HDO.out.mono ?_
    rintro e w3 ⟨rfl,L3,hx3⟩
    have hA3:=(HA2.out.sym.does hx3).sym
    rw [show N + i * 2000000000 + 2000000000=N + (i + 1) * 2000000000 by omega] at hA3
    clear HDO hx3 d1 d2 d3 HA2
    obtain ⟨d1,d2,d3⟩:=HST.out w3 hA3.l.bel
    have hal3:=alk_step HX.out.2 (K i) (Y i) (Z i)
    have hran:=fun ha=>alk_ran HX.out.2 (K i) (Y i) (Z i) ha
    have hfew:=fun ha=>step_ran HX.out.1.l.la.sound (K i) (Y i) (Z i) ha
    have HAS:=hide (asks_any w3 (K i) (Y i) (Z i) b1)
    have HA3:=hide (And.intro hA3 (And.intro hal3 (And.intro hran hfew)))
    clear hA3 hal3 hran hfew HX HST
    dsimp only
    go_wp2_with fail
    refine HAS.out.mono ?_
    rintro e w4 ⟨rfl,hB4⟩
    clear HAS d1 d2 d3
    have hA4:=HA3.out.1.below hB4
    by_cases ha:5 < pickN (K i) 9
    ·have hda:decide (5 < pickN (K i) 9)=true:=by simpa using ha
     rw [hda]
     have hrn:=HA3.out.2.2.1 ha
     have hfw:=HA3.out.2.2.2 ha
     have HR1:=hide (ran_any w4 lb _ _ hA4.l.la.lat (by omega))
     unfold ptr at HR1
     have HA4:=hide (And.intro hA4 HA3.out.2.1)
     clear hA4 HA3 hB4 hda
     dsimp only
     go_wp2_with fail
     refine HR1.out.mono ?_
     rintro e w5 ⟨v1,rfl,hr1,hB5⟩
     have hA5:=HA4.out.1.below hB5
     have HR2:=hide (ran_any w5 qb _ _ hA5.r.la.lat (by rw [←hrn]; omega))
     rw [←hrn] at HR2
     unfold ptr at HR2
     have HA5:=hide (And.intro hA5 HA4.out.2)
     obtain ⟨o1,c1,rfl,hc1⟩:=cause_at hr1
     have HC1:=hide hc1
     clear hA5 HA4 hr1 hB5 hc1 HR1
     dsimp only
     go_wp2_with fail
     refine HR2.out.mono ?_
     rintro e w6 ⟨v2,rfl,hr2,hB6⟩
     obtain ⟨o2,c2,rfl,hc2⟩:=cause_at hr2
     have HC2:=hide hc2
     have HA6:=hide (And.intro (HA5.out.1.below hB6) HA5.out.2)
     have HB6:=hide hB6
     clear HA5 hr2 hB6 hc2 HR2 hrn
     generalize (stepS s (K i) (Y i) (Z i)).ran=R at HC1 HC2 hfw ⊢
     dsimp only
     go_wp2_with fail
     go_loopw [8,16] (fun bv jv wr=>∃ j:Nat,j≤R.length∧bv=.bool false∧jv=.int .i64 j∧Hid (Below w6.heap.size w6 wr)) (fun _ jv _=>R.length - (intOf jv).toNat)
     case atStart=>exact ⟨0,Nat.zero_le _,rfl,rfl,hide (Below.refl _ _)⟩
     case round =>
      obtain ⟨j,hj,rfl,rfl,HBX⟩:=hrel
      by_cases hlt:j < R.length
      ·have hji:(j:Int) < (R.length:Int):=by omega
       obtain ⟨y,hy⟩:∃ y,R[j]? = some y:=⟨_,List.getElem?_eq_getElem hlt⟩
       obtain ⟨g1,rfl,hg1,hw1⟩:=HC1.out j y hy
       obtain ⟨g2,rfl,hg2,hw2⟩:=HC2.out j y hy
       obtain ⟨k,n,ss,tt,a,b,hyc⟩:=why_cells y
       rw [hyc] at hw1 hw2
       have hB1:=HB6.out
       have hB2:=HBX.out
       have hs1:=hB1.size
       have hc1:∀ t u,[Value.string k,.string n,.int .i64 a,.string ss,.int .i64 b,.string tt][t]? = some u→wr.cell? ⟨g1,j * 6 + t,none⟩=some u:=fun t u hu=>(hB2.cell (p:=⟨g1,j * 6 + t,none⟩) (Nat.lt_of_lt_of_le hg1 hs1)).trans ((hB1.cell (p:=⟨g1,j * 6 + t,none⟩) hg1).trans (hw1 t u hu))
       have hc2:∀ t u,[Value.string k,.string n,.int .i64 a,.string ss,.int .i64 b,.string tt][t]? = some u→wr.cell? ⟨g2,j * 6 + t,none⟩=some u:=fun t u hu=>(hB2.cell (p:=⟨g2,j * 6 + t,none⟩) hg2).trans (hw2 t u hu)
       have p0:=hc1 0 _ rfl
       have p1:=hc1 1 _ rfl
       have p2:=hc1 2 _ rfl
       have p3:=hc1 3 _ rfl
       have p4:=hc1 4 _ rfl
       have p5:=hc1 5 _ rfl
       have q0:=hc2 0 _ rfl
       have q1:=hc2 1 _ rfl
       have q2:=hc2 2 _ rfl
       have q3:=hc2 3 _ rfl
       have q4:=hc2 4 _ rfl
       have q5:=hc2 5 _ rfl
       rw [Nat.add_zero] at p0 q0
       have HBY:Hid (∀ n,Below w6.heap.size w6 (wr.drewN n)):=hide (fun n=>hB2.trans (Below.mono (below_drewN _ _) hB2.size))
       clear hc1 hc2 hw1 hw2 hg1 hg2 hB1 hB2 hyc hy HC1 HC2 HBX HB6 HA6
       go_wp2_with fail
       go_quiet (fail)
       go_wp2_with fail
       refine ⟨⟨j + 1,by omega,rfl,by go_num,hide (HBY.out _)⟩,?_⟩
       simp [intOf]; omega
      ·have hji:¬ (j:Int) < (R.length:Int):=by omega
       have HA7:=hide (And.intro (HA6.out.1.below HBX.out) HA6.out.2)
       clear HBX HA6 HC1 HC2 HB6
       go_wp2_with fail
       refine ⟨⟨i + 1,_,_,_,_,_,by omega,by omega,rfl,by go_num,HA7⟩,?_⟩
       simp [intOf]; omega
    ·have hda:decide (5 < pickN (K i) 9)=false:=by simpa using ha
     rw [hda]
     have HA4:=hide (And.intro hA4 HA3.out.2.1)
     clear hA4 HA3 hB4 hda
     dsimp only
     go_wp2_with fail
     refine ⟨⟨i + 1,_,_,_,_,_,by omega,by omega,rfl,by go_num,HA4⟩,?_⟩
     simp [intOf]; omega
   ·have h2i:¬ (i:Int) < 20:=by omega
    clear HX
    go_wp2_with fail
    exact HEN.out
  ·have h1i:¬ (i:Int) < (len:Int):=by omega
   clear HX
   go_wp2_with fail
   exact HEN.out
end
section
set_option maxRecDepth 100000
set_option maxHeartbeats 8000000
open Go.RowKit Go.Shelf
structure CW (w0 w:World) (lb hb qb pb bb:Nat) (s q p b:Lard.LS) (L Lq Lp Lb:Nat→Prop) (N:Nat) (H:Nat→Nat×List UInt8):Prop where
 l:HL w0 w lb hb s L N H
 aq:La w qb q Lq N
 ap:La w pb p Lp N
 ab:La w bb b Lb N
 lq:∀ k,Lq k→w0.heap.size≤k∧k≠hb∧¬ L k
 lp:∀ k,Lp k→w0.heap.size≤k∧k≠hb∧¬ L k∧¬ Lq k
 lb':∀ k,Lb k→w0.heap.size≤k∧k≠hb∧¬ L k∧¬ Lq k
 pb':∀ k,Lp k→¬ Lb k
 src:Lard.srcOf p.has=Lard.srcOf b.has
section
variable {w0 w w':World} {lb hb qb pb bb:Nat} {s q p b p':Lard.LS} {L Lq Lp Lb:Nat→Prop} {N M:Nat} {H:Nat→Nat×List UInt8}
theorem CW.sym (h:CW w0 w lb hb qb pb bb s q p b L Lq Lp Lb N H):CW w0 w lb hb qb bb pb s q b p L Lq Lb Lp N H:=⟨h.l,h.aq,h.ab,h.ap,h.lq,h.lb',h.lp,fun k h1 h2=>h.pb' k h2 h1,h.src.symm⟩
theorem CW.below (h:CW w0 w lb hb qb pb bb s q p b L Lq Lp Lb N H) (hB:Below w.heap.size w w'):CW w0 w' lb hb qb pb bb s q p b L Lq Lp Lb N H:=⟨h.l.below hB,h.aq.below hB,h.ap.below hB,h.ab.below hB,h.lq,h.lp,h.lb',h.pb',h.src⟩
theorem CW.le (h:CW w0 w lb hb qb pb bb s q p b L Lq Lp Lb N H) (hM:N≤M):CW w0 w lb hb qb pb bb s q p b L Lq Lp Lb M H:=⟨h.l.le hM,h.aq.le hM,h.ap.le hM,h.ab.le hM,h.lq,h.lp,h.lb',h.pb',h.src⟩
theorem HL.other {L2:Nat→Prop} (h:HL w0 w lb hb s L N H) (hf:Frm L2 w w') (h0:∀ k,L2 k→w0.heap.size≤k) (h8:∀ k,L2 k→8≤k) (hty:∀ k,L2 k→∀ (cs:Array Value) (t:TypeId) (fz:Nat×Nat),w.heap[k]? = some (.cells cs t fz)→¬ Imm t) (hd:∀ k,L2 k→k≠hb∧¬ L k):HL w0 w' lb hb s L N H:=by
 have hsz:=h.bel.size
 exact ⟨h.la.other hf h8 hty (fun k hk h2=>(hd k h2).2 hk),h.hm.same (hf.block _ h.hm.lt (fun h2=>(hd _ h2).1 rfl)),h.off,h.own,h.bel.trans ⟨hf.os,hf.tape,hf.output,hf.size,fun k hk=>hf.block k (by omega) (fun h2=>by have:=h0 k h2; omega)⟩,h.ok,h.oki⟩
theorem CW.post (h:CW w0 w lb hb qb pb bb s q p b L Lq Lp Lb N H) (hP:LaPost w pb Lp p' M w') (hM:N≤M) (hs:Lard.srcOf p'.has=Lard.srcOf p.has):∃ Lp',CW w0 w' lb hb qb pb bb s q p' b L Lq Lp' Lb M H:=by
 obtain ⟨L',h1,h2,h3,h4⟩:=hP
 have h8:∀ k,Lp k→8≤k:=fun k hk=>(h.ap.lat.lt hk).1
 have hsz:=h.l.bel.size
 refine ⟨L',(h.l.other h4 (fun k hk=>(h.lp k hk).1) h8 (la_imm h.ap) (fun k hk=>⟨(h.lp k hk).2.1,(h.lp k hk).2.2.1⟩)).le hM,(h.aq.other h4 h8 (la_imm h.ap) (fun k hk h2=>(h.lp k h2).2.2.2 hk)).le hM,h1,(h.ab.other h4 h8 (la_imm h.ap) (fun k hk h2=>h.pb' k h2 hk)).le hM,h.lq,fun k hk=>?_,h.lb',fun k hk hb=>?_,hs.trans h.src⟩
 ·rcases h2 k hk with hk | hk
  ·exact h.lp k hk
  ·have e1:=h.l.hm.lt
   exact ⟨by omega,by omega,fun hl=>by have:=(h.l.la.lat.lt hl).2; omega,fun hl=>by have:=(h.aq.lat.lt hl).2; omega⟩
 ·rcases h2 k hk with hk | hk
  ·exact h.pb' k hk hb
  ·have:=(h.ab.lat.lt hb).2; omega
end
theorem ask_src {s:Lard.LS} (h:Lard.Sound s) (k:List UInt8):Lard.srcOf (s.ask k).2.has=Lard.srcOf s.has:=h.src k
theorem ct_tail {E:Ending→World→Prop} (w0 w:World) (lb hb qb pb bb:Nat) (s q p b:Lard.LS) (L Lq Lp Lb:Nat→Prop) (N:Nat) (H:Nat→Nat×List UInt8) (o:Option Addr) (len cap:Nat) (K Y Z:Nat→Int) (v0 v1 v3 v4 v5 v6 v7 v9 v12 v13 v14 v15 v16 v17 v19 v21 v23 u31 u32 u33 u34 u35 u36 u37 u38 u39 u40 u41 u42 u43 u44 u45 u46 u47 u48 u49 u50 u51 u52 u53 u54 u55 u56 u57 u58 u59 u60 u61 u62 u63 u64 u65 u66 u67 u68 u69 u70 u71 u72 u73 u74 u75 u76 u77 u78 u79 u80 u81 u82 u83 u84 u85 u86 u87 u88 u89 u90 u91 u92 u93 u94 u95 u96 u97 u98 u99 u100 u101 u102 u103 u104 u105 u106 u107 u108 u109 u110 u111 u112 u113 u114 u115 u116 u117 u118 u119 u120 u121 u122 u123 u124 u125 u126 u127 u128 u129 u130:Value)
  (hv:StepsAt w0 o len K Y Z) (hc:CW w0 w lb hb qb pb bb s q p b L Lq Lp Lb N H) (hok:Lard.HasOk q H 8) (hal:Lard.Al0 s q) (hN:N≤500000000000) (hE:∀ w',Below w0.heap.size w0 w'→E (.returned (.bool true)) w') :
  Code.wp Tryz.prog (tailJ 16 (Tryz.f12.body.getD .skip)) (bodyPost Tryz.prog Tryz.f12 E) { tmps:=#[v0,v1,.slice o len cap,v3,v4,v5,v6,v7,.bool false,v9,.slice (some ⟨hb,0,none⟩) 8 8,.pointer (some ⟨lb,0,none⟩),v12,v13,v14,v15,v16,v17,.pointer (some ⟨pb,0,none⟩),v19,.pointer (some ⟨qb,0,none⟩),v21,.pointer (some ⟨bb,0,none⟩),v23,undef,undef,undef,undef,undef,undef,undef,u31,u32,u33,u34,u35,u36,u37,u38,u39,u40,u41,u42,u43,u44,u45,u46,u47,u48,u49,u50,u51,u52,u53,u54,u55,u56,u57,u58,u59,u60,u61,u62,u63,u64,u65,u66,u67,u68,u69,u70,u71,u72,u73,u74,u75,u76,u77,u78,u79,u80,u81,u82,u83,u84,u85,u86,u87,u88,u89,u90,u91,u92,u93,u94,u95,u96,u97,u98,u99,u100,u101,u102,u103,u104,u105,u106,u107,u108,u109,u110,u111,u112,u113,u114,u115,u116,u117,u118,u119,u120,u121,u122,u123,u124,u125,u126,u127,u128,u129,u130,undef,undef,undef,undef,undef,undef,undef,undef,undef,undef,undef,undef,undef,undef,undef,undef,undef,undef,undef,undef,undef,undef,undef,undef,undef,undef,undef,undef,undef,undef,undef,undef,undef],defers:=[] } w:=by
 have HC:Hid (CW w0 w lb hb qb pb bb s q p b L Lq Lp Lb (N + 0 * 4000000000) H):=hide (by simpa using hc)
 have HK:=hide (And.intro hv (And.intro hok hal))
 have HE:=hide hE
 clear hc hv hok hal hE
 obtain ⟨cd,hcd⟩:∃ cd,tailJ 16 (Tryz.f12.body.getD .skip)=cd:=⟨_,rfl⟩
 rw [hcd]
 simp only [tailJ,Tryz.f12,Option.getD] at hcd
 subst hcd
 go_wp2_with fail
 go_loopw [8,24] (fun bv iv wr=>∃ (i:Nat) (p b:Lard.LS) (Lp Lb:Nat→Prop),i≤8∧bv=.bool false∧iv=.int .i64 i∧Hid (CW w0 wr lb hb qb pb bb s q p b L Lq Lp Lb (N + i * 4000000000) H)) (fun _ iv _=>8 - (intOf iv).toNat)
 case atStart=>exact ⟨0,p,b,Lp,Lb,Nat.zero_le _,rfl,rfl,HC⟩
 case round =>
  obtain ⟨i,p,b,Lp,Lb,hi,rfl,rfl,HX⟩:=hrel
  clear HC
  by_cases hlt:i < 8
  ·have hin:(i:Int) < 8:=by omega
   have HY:=hide (fun w=>key_any i w (by omega))
   have hname:=keyB_name i (by omega)
   go_wp2_with fail
   refine (HY.out _).mono ?_
   rintro e w2 ⟨rfl,hB2⟩
   dsimp only
   have HX2:=hide (HX.out.below hB2)
   clear HX hB2
   have HA:=hide (la_ask HX2.out.ap (keyB i) hname (by omega))
   unfold ptr at HA
   go_wp2_with fail
   refine HA.out.mono ?_
   rintro e w3 ⟨v,tc,ts,rfl,htv,hP,o1,c1,rfl,-⟩
   dsimp only
   rw [keyB_list] at htv hP ⊢
   clear HA
   obtain ⟨L3,h3⟩:=HX2.out.post hP (by omega) (ask_src HX2.out.ap.sound _)
   have heq:=Lard.ask_same HX2.out.ap.sound HX2.out.ab.sound HX2.out.src (Lard.keyText i)
   have HX3:=hide h3
   clear h3 hP HX2
   generalize (if tc=12 then (p.ask (Lard.keyText i)).2.ring else []).length=len1
   go_wp2_with fail
   refine (HY.out _).mono ?_
   rintro e w4 ⟨rfl,hB4⟩
   dsimp only
   have HX4:=hide (HX3.out.below hB4)
   clear HX3 hB4
   have HA:=hide (la_ask HX4.out.ab (keyB i) hname (by omega))
   unfold ptr at HA
   go_wp2_with fail
   refine HA.out.mono ?_
   rintro e w5 ⟨v2,tc2,ts2,rfl,htv2,hP,o2,c2,rfl,-⟩
   dsimp only
   rw [keyB_list] at htv2 hP ⊢
   clear HA HY
   rw [←heq] at htv2
   obtain ⟨rfl,rfl⟩:=told_same2 htv htv2
   obtain ⟨L5,h5⟩:=HX4.out.sym.post hP (by omega) (ask_src HX4.out.ab.sound _)
   have H5:=hide (h5.sym.le (M:=N + (i + 1) * 4000000000) (by omega))
   clear h5 hP HX4 htv htv2 heq
   generalize (if tc=12 then (b.ask (Lard.keyText i)).2.ring else []).length=len2
   go_wp2_with fail
   refine ⟨⟨i + 1,_,_,L3,L5,by omega,rfl,by go_num,H5⟩,?_⟩
   simp [intOf]; omega
  ·obtain rfl:i=8:=by omega
   have HAL:=hide (alike_any w0 wr lb hb qb s q L Lq (N + 8 * 4000000000) H o len cap K Y Z HK.out.1 HX.out.l HX.out.aq HX.out.lq HK.out.2.1 HK.out.2.2 (by omega))
   unfold ptr at HAL
   clear HX
   go_wp2_with fail
   refine HAL.out.mono ?_
   rintro e w5 ⟨rfl,hB5⟩
   have HF:=hide (HE.out w5 hB5)
   clear HE HAL hB5
   dsimp only
   go_wp2_with fail
   exact HF.out
end
end Go.Proofs.YtpekpdimdelncaaGreatDoor
