/- Out of: L24, L25, L26. -/
import Derived.Test.YtpekpdimdelncaaGreatDoorP22
set_option linter.unusedVariables false
set_option linter.unusedSimpArgs false
namespace Go.Proofs.YtpekpdimdelncaaGreatDoor
section
open Go.RowKit Go.Shelf
theorem box_fin {w wr:World} {lb:Nat} {s s':Lard.LS} {L:Nat→Prop} {cs:Array Value} {t:TypeId} (ht:¬ Imm t) (h:LAt w lb s L) (hP:LPost (w.alloc (.cells cs t)) lb L s' wr) :
  wr.heap[w.heap.size]? = some (.cells cs t (0,0))∧∀ wf,wr.grownBy wf (some w.heap.size)→LPost w lb L s' wf∧Stay wr wf:=by
 obtain ⟨L',h1,h2,h3,h4⟩:=hP
 have hBz:Below w.heap.size w (w.alloc (.cells cs t)):=(Below.refl _ _).alloc (Nat.le_refl _) _
 have hLlt:∀ k,L k→k < w.heap.size:=fun k hk=>(h.typed k hk).2.1
 have hnL:¬ L w.heap.size:=fun hk=>by have:=hLlt _ hk; omega
 have hn:wr.heap[w.heap.size]? = some (.cells cs t (0,0)):=(h4.block _ (by simp) hnL).trans (heap_alloc_new w _)
 refine ⟨hn,fun wf hg=>?_⟩
 have hnL':¬ L' w.heap.size:=fun hk=>by
  rcases h2 _ hk with h | h
  ·exact hnL h
  ·rw [World.size_alloc] at h; omega
 have hst:Stay wr wf:=stay_grown hg (fun cs' t' fz hb=>by rw [hn] at hb; cases hb; exact ht)
 have hsm:∀ k,k < wr.heap.size→k≠w.heap.size→wf.heap[k]? = wr.heap[k]? := fun k hk hne=>hg.block k hk (fun e=>hne (Option.some.inj e))
 have hsz0:w.heap.size≤wr.heap.size:=Nat.le_trans (by simp) h4.size
 refine ⟨⟨L',h1.st (fun k hk=>hsm k (h1.typed k hk).2.1 (fun e=>hnL' (e ▸ hk))) hst,fun k hk=>?_,h3,⟨⟨(hg.os.trans h4.os).trans hBz.os,(hg.tape.trans h4.tape).trans hBz.tape,(hg.output.trans h4.output).trans hBz.output,Nat.le_trans hsz0 hg.size,fun k hk hnl=>?_⟩,fun k hk cs t fz hc hkt=>?_,fun hb hlt hc=>?_⟩⟩,hst⟩
 ·rcases h2 k hk with h | h
  ·exact .inl h
  ·simp at h
   exact .inr (by omega)
 ·exact (hsm k (by omega) (by omega)).trans ((h4.block k (by simp; omega) hnl).trans (hBz.block k hk))
 ·have hlk:=lt_of_some hc
  exact (hsm k (by omega) (by omega)).trans (h4.k2 k hk cs t fz ((hBz.block k hlk).trans hc) hkt)
 ·have hlb:lb < w.heap.size:=hLlt _ h.here
  obtain ⟨h5,h6⟩:=h4.hasm hb (by simp; omega) ((World.cell?_of_block (hBz.block lb hlb)).trans hc)
  exact ⟨(World.cell?_of_block (hsm lb (by omega) (by show lb≠_; omega))).trans h5,(hsm hb (by omega) (by omega)).trans (h6.trans (hBz.block hb hlt))⟩
theorem imm_worth:¬ Imm 113:=by rintro (h | h | h) <;> cases h
theorem box_worth {w wr:World} {lb:Nat} {s s':Lard.LS} {L:Nat→Prop} {r:Lard.Wo} {x i:Value} (h:LAt w lb s L) (hP:LPost (w.alloc (.cells #[.int .i64 0,.nilIface] 113)) lb L s' wr) (hW:IsW wr r (.agg #[x,i])) :
  wr.cell? ⟨w.heap.size,0,none⟩=some (.int .i64 0)∧wr.cell? ⟨w.heap.size,1,none⟩=some .nilIface∧wr.frozen? ⟨w.heap.size,0,none⟩=false∧wr.frozen? ⟨w.heap.size,1,none⟩=false ∧
   LPost w lb L s' ((wr.setCell ⟨w.heap.size,0,none⟩ x).setCell ⟨w.heap.size,1,none⟩ i)∧IsW ((wr.setCell ⟨w.heap.size,0,none⟩ x).setCell ⟨w.heap.size,1,none⟩ i) r (.agg #[x,i]) ∧
   ((wr.setCell ⟨w.heap.size,0,none⟩ x).setCell ⟨w.heap.size,1,none⟩ i).cell? ⟨w.heap.size,0,none⟩=some x∧((wr.setCell ⟨w.heap.size,0,none⟩ x).setCell ⟨w.heap.size,1,none⟩ i).cell? ⟨w.heap.size,1,none⟩=some i:=by
 obtain ⟨hn,hfin⟩:=box_fin imm_worth h hP
 obtain ⟨h1,h2⟩:=hfin _ (grown_set (grown_set (World.grownBy.refl wr (some w.heap.size)) 0 x) 1 i)
 have e1:=blk_cell hn 0 x
 have e2:=blk_cell e1 1 i
 exact ⟨by simp [World.cell?,hn],by simp [World.cell?,hn],by simp [World.frozen?,hn],by simp [World.frozen?,hn],h1,hW.st h2,by simp [World.cell?,e2],by simp [World.cell?,e2]⟩
theorem why_form (y:Lard.Why):∃ (k n:ByteArray) (c1:Int) (s1:ByteArray) (c2:Int) (s2:ByteArray),whyCells y=[.string k,.string n,.int .i64 c1,.string s1,.int .i64 c2,.string s2]:=by
 obtain ⟨c1,s1,_,h1⟩:=told_form y.was
 obtain ⟨c2,s2,_,h2⟩:=told_form y.now
 exact ⟨⟨y.key.toArray⟩,⟨y.need.toArray⟩,c1,s1,c2,s2,by unfold whyCells; rw [h1,h2]; rfl⟩
theorem causeInfo:(Tryz.prog.info? 61).map (fun i=>(i.zero,i.size,i.bytes))=some (some (.agg #[.string ⟨#[]⟩,.string ⟨#[]⟩,.int .i64 0,.string ⟨#[]⟩,.int .i64 0,.string ⟨#[]⟩]),6,80):=by kernel_rfl
theorem ran_append {w w1:World} {lb:Nat} {s:Lard.LS} {L:Nat→Prop} {hb db:Nat} {vb vr vn vj:Value} (h:LP w lb s L hb db vb vr vn vj) (gg:G w) (hB:Below w.heap.size w w1) (y:Lard.Why) (hlen:s.ran.length≤1000) (cs:Array Value) (hcs:cs=(whyCells y).toArray) :
  ∃ g' cap w3,(Builtin.append_ #[55,55] 55 #[vn,.slice (some ⟨w1.heap.size,0,none⟩) 1 1]).run Tryz.prog (w1.alloc (.cells cs 61))=.ok (.slice (some ⟨g',0,none⟩) (s.ran.length + 1) cap) w3 ∧
   w3.cell? ⟨lb,4,none⟩=some vn∧w3.frozen? ⟨lb,4,none⟩=false∧LPost w lb L { s with ran:=s.ran++[y] } (w3.setCell ⟨lb,4,none⟩ (.slice (some ⟨g',0,none⟩) (s.ran.length + 1) cap))∧(∀ k,w.heap.size≤k→k < w1.heap.size→w3.heap[k]? = w1.heap[k]?):=by
 have hB2:Below w.heap.size w (w1.alloc (.cells cs 61)):=hB.alloc hB.size _
 have h2:LP (w1.alloc (.cells cs 61)) lb s L hb db vb vr vn vj:=h.st (fun k hk=>hB2.block k (h.lt hk)) (Stay.below hB2)
 have g2:=gg.below hB2 gg.size
 have hnew:=heap_alloc_new w1 (.cells cs 61)
 obtain ⟨k0,n0,c1,s1,c2,s2,hy⟩:=why_form y
 rw [hy] at hcs
 subst hcs
 obtain ⟨g',cap,w3,hr,ho,hg,hloc,hold⟩:=append_row 55 55 61 _ 6 80 Tryz.underlying55 causeInfo rfl (by decide) _ s.ran.length (s.ran.flatMap whyCells) h2.ran ⟨w1.heap.size,0,none⟩ 1 (whyCells y) (by rw [hy]; rfl) (fun j u hj=>by
  rw [addr_add,Nat.zero_add]
  simp only [World.cell?,hnew]
  rw [hy] at hj
  match j,hj with
  |0,hj=>simp at hj; rw [←hj]; rfl
  |1,hj=>simp at hj; rw [←hj]; rfl
  |2,hj=>simp at hj; rw [←hj]; rfl
  |3,hj=>simp at hj; rw [←hj]; rfl
  |4,hj=>simp at hj; rw [←hj]; rfl
  |5,hj=>simp at hj; rw [←hj]; rfl) (fun u hu=>by
  rw [hy] at hu
  simp at hu
  rcases hu with rfl | rfl | rfl | rfl | rfl | rfl <;> rfl) (by omega) (by unfold maxLen; omega) (Nat.le_trans gg.size hB2.size)
 have hblk3:=(Tn.mk (e0:=61) hg (fun b hb=>row_typed h2.ran hb)).cells h2.blk (by decide)
 refine ⟨g',cap,w3,hr,by simp [World.cell?,hblk3],by simp [World.frozen?,hblk3],?_,fun k hk1 hk2=>(hg.block k (by simp; omega) (fun e=>by
  have:=h.lt (h.mine k (.inr (.inr (.inl e.symm))))
  omega)).trans (Below.heap_alloc w1 _ k hk2)⟩
 have ho':w3.ownsRow 8 61 6 (.slice (some ⟨g',0,none⟩) (s.ran.length + 1) cap) (s.ran.length + 1) ((s.ran++[y]).flatMap whyCells):=by
  rw [List.flatMap_append]
  simpa using ho
 obtain ⟨L',k1,k2,k3,k4⟩:=h2.ranTo g2 y hg (by simp) ho' hloc hold
 refine ⟨L',k1,fun k hk=>?_,k3,(Frw.below hB2).trans k4 (fun k hk=>.inl hk) (fun k hk=>hk)⟩
 rcases k2 k hk with h | h
 ·exact .inl h
 ·have:=hB2.size
  exact .inr (by omega)
theorem hM_pos (t:Lard.T):∃ n,Lard.hM t=n + 1:=by
 refine ⟨Lard.hM t - 1,?_⟩
 have:1≤Lard.hM t:=by
  unfold Lard.hM
  rw [Nat.zero_mul,Nat.add_zero]
  show 1≤Lard.hT 1604 + 1604 + 2
  omega
 omega
theorem tree_ptr {w:World} {t:Lard.T} {x:Value} (h:IsTree w (Lard.hM t) t x):∃ b,x=ptr b:=by
 obtain ⟨n,hn⟩:=hM_pos t
 rw [hn] at h
 obtain ⟨b,i,s,qs,fz,h1,_⟩:=h
 exact ⟨b,h1⟩
end
section
set_option maxRecDepth 100000
set_option maxHeartbeats 1000000
open Go.RowKit Go.Shelf
theorem LAt.alloc {w:World} {lb:Nat} {s:Lard.LS} {L:Nat→Prop} (h:LAt w lb s L) (o:Obj):LAt (w.alloc o) lb s L:=by
 have hB:Below w.heap.size w (w.alloc o):=(Below.refl _ _).alloc (Nat.le_refl _) _
 exact h.st (fun k hk=>hB.block k (h.typed k hk).2.1) (Stay.below hB)
theorem PtrOf.run {w:World} {lb p:Nat} {key:ByteArray} (h:PtrOf w lb key.data.toList p) (hk:key.size≤200):∃ hb,w.cell? ⟨lb,0,none⟩=some (.map (some hb))∧(Instr.lookup 104 (.map (some hb)) (.string key) true).run Tryz.prog w=.ok (.tuple #[ptr p,.bool true]) w:=by
 have hkl:key.data.toList.length≤maxLen:=by rw [←size_data]; unfold maxLen; omega
 obtain ⟨hb,es,c0,hm,hlook⟩:=h
 have hr:=hm.look Tryz.underlying104 (k:=key.data.toList) hkl (z:=.pointer none) (by kernel_rfl)
 rw [hlook,str_bytes] at hr
 exact ⟨hb,c0,hr⟩
theorem work_absent (w:World) (lb:Nat) (key:ByteArray) (s:Lard.LS) (L:Nat→Prop) (h:LAt w lb s L) (hk:key.size≤200) (hl:Lard.look s.has key.data.toList=none) :
  Calls Tryz.prog 85 #[ptr lb,.string key] w fun e w'=>∃ x,e=.returned x∧IsW w' (.error 7) x∧LPost w lb L s w':=by
 have hA1:=h.alloc (.cells #[.int .i64 0,.nilIface] 113)
 have hkl:key.data.toList.length≤maxLen:=by rw [←size_data]; unfold maxLen; omega
 have HP:=hide (LPost.below h ((Below.refl _ w).alloc (Nat.le_refl _) (.cells #[.int .i64 7,.nilIface] 113)))
 obtain ⟨hb,db,vb,vr,vn,vj,h1⟩:=hA1
 have c0:(w.alloc (.cells #[.int .i64 0,.nilIface] 113)).cell? ⟨lb,0,none⟩=some (.map (some hb)):=by simp [World.cell?,h1.blk]
 have hr:=h1.has.absent hl hkl
 rw [str_bytes] at hr
 clear h1 h hl
 unfold ptr
 go_enter Tryz.func85,Tryz.ntmps85
 go_wp2_with fail
 exact bodyPost_ret (v:=.agg #[.int .i64 7,.nilIface]) (by simp [results,Tryz.results85,go_sem]) rfl ⟨_,rfl,.inr ⟨7,rfl,rfl,by omega,by omega⟩,HP.out⟩
theorem work_value (w:World) (lb:Nat) (key:ByteArray) (s:Lard.LS) (L:Nat→Prop) (h:LAt w lb s L) (hk:key.size≤200) (th:Lard.Thing) (hl:Lard.look s.has key.data.toList=some th) (ht:th.tree=none) :
  Calls Tryz.prog 85 #[ptr lb,.string key] w fun e w'=>∃ x,e=.returned x∧IsW w' (.ok th.value) x∧LPost w lb L s w':=by
 have hBz:∀ o,Below w.heap.size w (w.alloc o):=fun o=>(Below.refl _ w).alloc (Nat.le_refl _) o
 obtain ⟨p,hp,hth⟩:=h.ptrOf hl
 obtain ⟨hb,c0,hr⟩:=(hp.frw (Frw.below (L:=L) (hBz (.cells #[.int .i64 0,.nilIface] 113)))).run hk
 obtain ⟨v0,r0,k0,hb0,_,_,h4,_⟩:=hth
 rcases h4 with ⟨_,rfl,hv,_⟩ | ⟨t,a,h5,_⟩
 ·obtain ⟨tv,av,rfl⟩:=hv.one
  have HP:=hide (And.intro (LPost.below h (hBz (.cells #[.int .i64 0,.iface tv av] 113))) (hv.keeps (Keeps.below (hBz (.cells #[.int .i64 0,.iface tv av] 113)))))
  have hb1:=(hBz (.cells #[.int .i64 0,.nilIface] 113)).block p (lt_of_some hb0)
  rw [hb0] at hb1
  have e0:(w.alloc (.cells #[.int .i64 0,.nilIface] 113)).cell? ⟨p,0,none⟩=some (.iface tv av):=by simp [World.cell?,hb1]
  have e1:(w.alloc (.cells #[.int .i64 0,.nilIface] 113)).cell? ⟨p,1,none⟩=some (.pointer none):=by simp [World.cell?,hb1]
  clear h hl hv hb0 hb1 hp hBz
  unfold ptr at *
  go_enter Tryz.func85,Tryz.ntmps85
  go_wp2_with fail
  exact bodyPost_ret (v:=.agg #[.int .i64 0,.iface tv av]) (by simp [results,Tryz.results85,go_sem]) rfl ⟨_,rfl,.inl ⟨_,_,rfl,rfl,HP.out.2⟩,HP.out.1⟩
 ·rw [ht] at h5; cases h5
end
section
open Go.RowKit Go.Shelf
theorem run_after {n:Nat} {w1 we wd:World} {lb p:Nat} {key:ByteArray} (HB:BSays lb (Lard.bring n) (Pre n)) {s s2:Lard.LS} {L L2:Nat→Prop} {hb db:Nat} {vb vr vn vj:Value} (h:LP we lb s2 L2 hb db vb vr vn vj) (g:G we) (hd:Deb we) (hk:key.size≤200) (hthen:∀ s' w',LPost we lb L2 s' w'→LPost w1 lb L s' w')
  (hpre:PreW n s) (hN:Lard.Nst s s2 401) (hphi:Phi s2≤Phi s) {th:Lard.Thing} {t:Lard.T} (hl:Lard.look s2.has key.data.toList=some th) (ht:th.tree=some t) (hp:PtrOf we lb key.data.toList p) (y:Lard.Why) (hB:Below we.heap.size we wd) (cs:Array Value) (hcs:cs=(whyCells y).toArray) :
  ∃ g' cap w3,(Builtin.append_ #[55,55] 55 #[vn,.slice (some ⟨wd.heap.size,0,none⟩) 1 1]).run Tryz.prog (wd.alloc (.cells cs 61))=.ok (.slice (some ⟨g',0,none⟩) (s2.ran.length + 1) cap) w3 ∧
   w3.cell? ⟨lb,4,none⟩=some vn∧w3.frozen? ⟨lb,4,none⟩=false∧(∀ k,we.heap.size≤k→k < wd.heap.size→w3.heap[k]? = wd.heap[k]?) ∧
   Calls Tryz.prog 125 #[ptr lb,.string key,ptr p] (w3.setCell ⟨lb,4,none⟩ (.slice (some ⟨g',0,none⟩) (s2.ran.length + 1) cap)) fun e w5=>∃ (c:Int) (i:Value),e=.returned (.agg #[.int .i64 c,i])∧(i=.nilIface∨∃ t a,i=.iface t a)∧IsW w5 (Lard.runL (Lard.bring n) key.data.toList t y s2).1 (.agg #[.int .i64 c,i])∧LPost w1 lb L (Lard.runL (Lard.bring n) key.data.toList t y s2).2 w5∧Phi (Lard.runL (Lard.bring n) key.data.toList t y s2).2≤Phi s + LM:=by
 have hr2:s2.ran.length≤1000:=by have:=hN.ran; have:=hpre.ran; omega
 obtain ⟨g',cap,w3,hr,hc,hf,hP,hkeep⟩:=ran_append h g hB y hr2 cs hcs
 refine ⟨g',cap,w3,hr,hc,hf,hkeep,?_⟩
 have hA:LAt we lb s2 L2:=⟨_,_,_,_,_,_,h⟩
 have g4:=hP.g hA g
 have d4:=hP.deb hA g hd
 obtain ⟨L4,hA4,hsub4,hthen4⟩:=hP.then
 have hp4:PtrOf (w3.setCell ⟨lb,4,none⟩ (.slice (some ⟨g',0,none⟩) (s2.ran.length + 1) cap)) lb key.data.toList p:=by
  obtain ⟨_,_,_,_,hfr⟩:=hP
  exact hp.frw hfr
 have hkl:key.data.toList.length≤200:=by simpa using hk
 have hl4:Lard.look ({ s2 with ran:=s2.ran++[y] }:Lard.LS).has key.data.toList=some th:=hl
 obtain ⟨v0,r0,k0,hb0,_,_,h6,_⟩:=hp4.thing hA4 (by unfold maxLen; omega) hl4
 rcases h6 with ⟨h7,_⟩ | ⟨t',a,h7,rfl,rfl,hok,hx⟩
 ·rw [ht] at h7; cases h7
 rw [ht] at h7
 cases h7
 obtain ⟨b,hbp⟩:=tree_ptr hx
 rw [hbp] at hx hb0
 have c1:(w3.setCell ⟨lb,4,none⟩ (.slice (some ⟨g',0,none⟩) (s2.ran.length + 1) cap)).cell? ⟨p,1,none⟩=some (ptr b):=by simp [World.cell?,hb0]
 have hphi4:Phi ({ s2 with ran:=s2.ran++[y] }:Lard.LS)=Phi s2:=phi_same rfl rfl rfl
 refine (run_any _ lb p b key (Lard.bring n) (Pre n) HB { s2 with ran:=s2.ran++[y] } L4 hA4 g4 d4 hk (fun s' c hNs hc hps=>hpre.run hN hphi y hNs hc hps) (by rw [hphi4]; exact Nat.le_trans hphi hpre.phi) t th hl4 ht hp4 hok hx c1).mono ?_
 rintro e w5 ⟨x,rfl,hW,hPr,hph⟩
 obtain ⟨c,i,rfl,hi⟩:=hW.form
 refine ⟨c,i,rfl,hi,hW,hthen _ _ (hthen4 _ _ hPr),?_⟩
 have hkb2:=hN.kb hpre.kb
 have hBn:∀ k s,Lard.KB s.has→Lard.Nst s (Lard.bring n k s).2 1:=fun k s hk=>Lard.bring_nst n k s hk
 have hnst:=(Lard.run_nst hBn (Lard.tr (Lard.hM t) t none 400) 400 { s2 with ran:=s2.ran++[y] } [] hkb2 (Lard.sp_tr _ _ _ _)).1
 have hpg:Lard.prog t=(Lard.tr (Lard.hM t) t none 400).worth:=rfl
 rw [←hpg] at hnst
 obtain ⟨th5,hl5,_⟩:=nst_look hnst hl4
 obtain ⟨L5,hA5,_⟩:=hPr
 have:=phi_ran hkl ((Lard.prog t).run (Lard.needL (Lard.bring n)) ({ s2 with ran:=s2.ran++[y] },[])) hl5 hA5
 show Phi (Lard.ranL key.data.toList ((Lard.prog t).run (Lard.needL (Lard.bring n)) ({ s2 with ran:=s2.ran++[y] },[]))).2≤_
 omega
def DueF (n:Nat) (w1:World) (lb p:Nat) (key:ByteArray) (s:Lard.LS) (L:Nat→Prop) (t:Lard.T) (kp:Option Lard.Keep) (e:Ending) (w2:World):Prop :=
 (∃ y,e=.returned (.tuple #[.agg (whyCells y).toArray,.bool true])∧Lard.ruleL (Lard.bring n) key.data.toList t kp s=Lard.runL (Lard.bring n) key.data.toList t y (match kp with | none=>s | some k=>(Lard.dueL (Lard.bring n) key.data.toList k.needs s).2) ∧
  ∃ vn,∀ wd,Below w2.heap.size w2 wd→wd.cell? ⟨lb,4,none⟩=some vn∧(∃ o m c,vn=.slice o m c)∧∃ g' cap m w3,(Builtin.append_ #[55,55] 55 #[vn,.slice (some ⟨wd.heap.size,0,none⟩) 1 1]).run Tryz.prog (wd.alloc (.cells (whyCells y).toArray 61))=.ok (.slice (some ⟨g',0,none⟩) m cap) w3 ∧
   w3.cell? ⟨lb,4,none⟩=some vn∧w3.frozen? ⟨lb,4,none⟩=false∧(∀ k,w2.heap.size≤k→k < wd.heap.size→w3.heap[k]? = wd.heap[k]?) ∧
   Calls Tryz.prog 125 #[ptr lb,.string key,ptr p] (w3.setCell ⟨lb,4,none⟩ (.slice (some ⟨g',0,none⟩) m cap)) fun e w5=>∃ (c:Int) (i:Value),e=.returned (.agg #[.int .i64 c,i])∧(i=.nilIface∨∃ t a,i=.iface t a)∧IsW w5 (Lard.ruleL (Lard.bring n) key.data.toList t kp s).1 (.agg #[.int .i64 c,i])∧LPost w1 lb L (Lard.ruleL (Lard.bring n) key.data.toList t kp s).2 w5∧Phi (Lard.ruleL (Lard.bring n) key.data.toList t kp s).2≤Phi s + LM) ∨
 (e=.returned (.tuple #[.agg zCause,.bool false])∧∃ kb c i,(i=.nilIface∨∃ t a,i=.iface t a)∧∀ wd,Below w2.heap.size w2 wd→wd.cell? ⟨p,3,none⟩=some (ptr kb)∧wd.cell? ⟨kb,0,none⟩=some (.int .i64 c)∧wd.cell? ⟨kb,1,none⟩=some i ∧
  IsW wd (Lard.ruleL (Lard.bring n) key.data.toList t kp s).1 (.agg #[.int .i64 c,i])∧LPost w1 lb L (Lard.ruleL (Lard.bring n) key.data.toList t kp s).2 wd∧Phi (Lard.ruleL (Lard.bring n) key.data.toList t kp s).2≤Phi s + LM)
theorem LP.rowRan {w:World} {lb:Nat} {s:Lard.LS} {L:Nat→Prop} {hb db:Nat} {vb vr vn vj:Value} (h:LP w lb s L hb db vb vr vn vj):∃ o m c,vn=.slice o m c:=by
 rcases h.ran.2 with ⟨rfl,_⟩ | ⟨g,cap,cur,rfl,_⟩
 ·exact ⟨_,_,_,rfl⟩
 ·exact ⟨_,_,_,rfl⟩
theorem run_f {n:Nat} {w1 w2:World} {lb p:Nat} {key:ByteArray} (HB:BSays lb (Lard.bring n) (Pre n)) {s s2:Lard.LS} {L:Nat→Prop} (hA1:LAt w1 lb s L) (g1:G w1) (d1:Deb w1) (hP:LPost w1 lb L s2 w2) (hk:key.size≤200)
  (hpre:PreW n s) (hN:Lard.Nst s s2 401) (hphi:Phi s2≤Phi s) {th:Lard.Thing} {t:Lard.T} (hl:Lard.look s2.has key.data.toList=some th) (ht:th.tree=some t) (hp:PtrOf w1 lb key.data.toList p) (y:Lard.Why) :
  ∃ vn,∀ wd,Below w2.heap.size w2 wd→wd.cell? ⟨lb,4,none⟩=some vn∧(∃ o m c,vn=.slice o m c)∧∃ g' cap m w3,(Builtin.append_ #[55,55] 55 #[vn,.slice (some ⟨wd.heap.size,0,none⟩) 1 1]).run Tryz.prog (wd.alloc (.cells (whyCells y).toArray 61))=.ok (.slice (some ⟨g',0,none⟩) m cap) w3 ∧
   w3.cell? ⟨lb,4,none⟩=some vn∧w3.frozen? ⟨lb,4,none⟩=false∧(∀ k,w2.heap.size≤k→k < wd.heap.size→w3.heap[k]? = wd.heap[k]?) ∧
   Calls Tryz.prog 125 #[ptr lb,.string key,ptr p] (w3.setCell ⟨lb,4,none⟩ (.slice (some ⟨g',0,none⟩) m cap)) fun e w5=>∃ (c:Int) (i:Value),e=.returned (.agg #[.int .i64 c,i])∧(i=.nilIface∨∃ t a,i=.iface t a)∧IsW w5 (Lard.runL (Lard.bring n) key.data.toList t y s2).1 (.agg #[.int .i64 c,i])∧LPost w1 lb L (Lard.runL (Lard.bring n) key.data.toList t y s2).2 w5∧Phi (Lard.runL (Lard.bring n) key.data.toList t y s2).2≤Phi s + LM:=by
 have g2:=hP.g hA1 g1
 have d2:=hP.deb hA1 g1 d1
 have hp2:PtrOf w2 lb key.data.toList p:=by
  obtain ⟨_,_,_,_,hfr⟩:=hP
  exact hp.frw hfr
 obtain ⟨L2,⟨hb,db,vb,vr,vn,vj,h2⟩,_,hthen⟩:=hP.then
 refine ⟨vn,fun wd hB=>⟨?_,h2.rowRan,?_⟩⟩
 ·have:=(hB.block lb (lt_of_some h2.blk)).trans h2.blk
  simp [World.cell?,this]
 ·obtain ⟨g',cap,w3,h3,h4,h5,h5',h6⟩:=run_after HB h2 g2 d2 hk hthen hpre hN hphi hl ht hp2 y hB _ rfl
  exact ⟨g',cap,_,w3,h3,h4,h5,h5',h6⟩
theorem kept_f {w1 w2:World} {lb p:Nat} {key:ByteArray} {s2:Lard.LS} {L:Nat→Prop} (hP:LPost w1 lb L s2 w2) (hk:key.size≤200) {th:Lard.Thing} {kp:Lard.Keep} (hl:Lard.look s2.has key.data.toList=some th) (hkp:th.kept=some kp) (hp:PtrOf w1 lb key.data.toList p) :
  ∃ kb c i,(i=.nilIface∨∃ t a,i=.iface t a)∧∀ wd,Below w2.heap.size w2 wd→wd.cell? ⟨p,3,none⟩=some (ptr kb)∧wd.cell? ⟨kb,0,none⟩=some (.int .i64 c)∧wd.cell? ⟨kb,1,none⟩=some i∧IsW wd kp.worth (.agg #[.int .i64 c,i])∧LPost w1 lb L s2 wd:=by
 have hp2:PtrOf w2 lb key.data.toList p:=by
  obtain ⟨_,_,_,_,hfr⟩:=hP
  exact hp.frw hfr
 obtain ⟨L2,hA2,_,hthen⟩:=hP.then
 have hkl:key.data.toList.length≤200:=by simpa using hk
 obtain ⟨v0,r0,k0,hb0,_,_,_,h8⟩:=hp2.thing hA2 (by unfold maxLen; omega) hl
 rcases h8 with ⟨h9,_⟩ | ⟨kp',kb,h9,rfl,hK⟩
 ·rw [hkp] at h9; cases h9
 rw [hkp] at h9
 cases h9
 obtain ⟨c,i,sl,hkb,_,hW,_⟩:=hK
 obtain ⟨c',i',he,hi⟩:=hW.form
 cases he
 refine ⟨kb,c',i,hi,fun wd hB=>?_⟩
 have e1:=(hB.block p (lt_of_some hb0)).trans hb0
 have e2:=(hB.block kb (lt_of_some hkb)).trans hkb
 exact ⟨by simp [World.cell?,e1,ptr],by simp [World.cell?,e2],by simp [World.cell?,e2],hW.keeps (Keeps.below hB),hthen _ _ (LPost.below hA2 hB)⟩
theorem due_f (n:Nat) (w1:World) (lb p:Nat) (key:ByteArray) (HB:BSays lb (Lard.bring n) (Pre n)) (s:Lard.LS) (L:Nat→Prop) (hA1:LAt w1 lb s L) (g1:G w1) (d1:Deb w1) (hk:key.size≤200) (hbg:key.data.toList∈s.begun) (hpre:PreW n s) (th:Lard.Thing) (t:Lard.T) (hl:Lard.look s.has key.data.toList=some th) (ht:th.tree=some t) (hp:PtrOf w1 lb key.data.toList p) (k0:Value) (hk0:(th.kept=none∧k0=.pointer none)∨∃ kp kb,th.kept=some kp∧k0=.pointer (some ⟨kb,0,none⟩)∧KeepAt w1 L kp kb) :
  Calls Tryz.prog 124 #[ptr lb,.string key,k0] w1 (DueF n w1 lb p key s L t th.kept):=by
 rcases hk0 with ⟨hkn,rfl⟩ | ⟨kp,kb,hkn,rfl,hK⟩
 ·refine (due_none w1 lb key).mono ?_
  rintro e w2 ⟨rfl,hB⟩
  refine .inl ⟨_,rfl,?_,?_⟩
  ·rw [hkn]; rfl
  ·have hP:LPost w1 lb L s w2:=LPost.below hA1 hB
   have:=run_f HB hA1 g1 d1 hP hk hpre (Lard.Nst.refl s 401) (Nat.le_refl _) hl ht hp ⟨key.data.toList,[],.error 0,.error 0⟩
   rw [hkn]
   exact this
 ·refine (due_any w1 lb kb key (Lard.bring n) (Pre n) HB s L hA1 g1 d1 kp hK (fun s' c hN hc hps=>hpre.due hN hc hps)).mono ?_
  rintro e w2 ⟨hP,hphi,hN,hcase⟩
  have hlk:Lard.look (Lard.dueL (Lard.bring n) key.data.toList kp.needs s).2.has key.data.toList=some th:=by
   rw [(Lard.due_hs (Lard.bring_hs n) key.data.toList kp.needs s).has _ hbg]
   exact hl
  rcases hcase with ⟨h1,rfl⟩ | ⟨y,h1,rfl⟩
  ·refine .inr ⟨rfl,?_⟩
   have hrl:Lard.ruleL (Lard.bring n) key.data.toList t th.kept s=(kp.worth,(Lard.dueL (Lard.bring n) key.data.toList kp.needs s).2):=by
    rw [hkn]
    unfold Lard.ruleL
    simp only
    generalize Lard.dueL (Lard.bring n) key.data.toList kp.needs s=q at h1
    obtain ⟨o,s2⟩:=q
    have h1:o=none:=h1
    subst h1
    rfl
   rw [hrl]
   obtain ⟨kb',c,i,hi,hall⟩:=kept_f hP hk hlk hkn hp
   refine ⟨kb',c,i,hi,fun wd hB=>?_⟩
   obtain ⟨a1,a2,a3,a4,a5⟩:=hall wd hB
   exact ⟨a1,a2,a3,a4,a5,Nat.le_trans hphi (Nat.le_add_right _ _)⟩
  ·have hrl:Lard.ruleL (Lard.bring n) key.data.toList t th.kept s=Lard.runL (Lard.bring n) key.data.toList t y (Lard.dueL (Lard.bring n) key.data.toList kp.needs s).2:=by
    rw [hkn]
    unfold Lard.ruleL
    simp only
    generalize Lard.dueL (Lard.bring n) key.data.toList kp.needs s=q at h1
    obtain ⟨o,s2⟩:=q
    have h1:o=some y:=h1
    subst h1
    rfl
   refine .inl ⟨y,rfl,?_,?_⟩
   ·rw [hrl,hkn]
   ·rw [hrl]
    exact run_f HB hA1 g1 d1 hP hk hpre hN hphi hlk ht hp y
end
end Go.Proofs.YtpekpdimdelncaaGreatDoor
