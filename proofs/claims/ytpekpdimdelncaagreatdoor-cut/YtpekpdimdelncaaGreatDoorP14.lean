/- Out of: U16, U17, L4. -/
import Derived.Test.YtpekpdimdelncaaGreatDoorP13
import Derived.Test.YtpekpdimdelncaaGreatDoorP07
import Derived.Deep.AppendLies
import Derived.Lib.AppendStr
set_option linter.unusedSimpArgs false
set_option linter.unusedVariables false
namespace Go.Proofs.YtpekpdimdelncaaGreatDoor
section
set_option maxRecDepth 100000
set_option maxHeartbeats 2000000
open Go.RowKit Go.Shelf
theorem run_store_func {P:Program} {w:World} (a:Addr) (m:Mode) (f:Fn) (x y:Array Value):(store a (.func f x y) m).run P w=stored P w a (.func f x y) m:=run_store P w a _ m rfl
theorem run_store_nilFunc {P:Program} {w:World} (a:Addr) (m:Mode):(store a .nilFunc m).run P w=stored P w a .nilFunc m:=run_store P w a _ m rfl
attribute [local go_sem] run_store_func run_store_nilFunc
theorem needs_worked (E:Env) (ok:EnvOK E) (n:Nat) (t:Lard.T) (p0 b:Nat) (F:Nat→Prop) (st:Nat×E.σ) (W:World) (hok:Lard.okT n false t=true) (htree:E.tree=.pointer (some ⟨b,0,none⟩)) (hx:IsTree W n t (.pointer (some ⟨b,0,none⟩))) (h:St E F st W)
  (d0:W.heap[p0]? = some (.cells #[.pointer (some ⟨E.rb,0,none⟩)] 242 (0,0))) :
  Calls Tryz.prog 201 #[.func (.func 202) #[] #[.pointer (some ⟨p0,0,none⟩)]] W fun e w'=>∃ x F2,e=.returned x∧IsW w' (Lard.ev E.N n t none st).1 x∧St E F2 (Lard.ev E.N n t none st).2 w'∧(∀ k,F2 k→F k∨W.heap.size≤k)∧Fm E.base W w':=by
 have hbase:E.base≤W.heap.size:=Nat.le_trans ok.baser (Nat.le_of_lt h.lt)
 obtain ⟨WA,hWA⟩:∃ WA,W.alloc (.cells #[.int .i64 0,.nilIface] 113)=WA:=⟨_,rfl⟩
 have hBA:Below W.heap.size W WA:=by rw [←hWA]; exact (Below.refl _ _).alloc (Nat.le_refl _) _
 have hszA:WA.heap.size=W.heap.size + 1:=by rw [←hWA]; simp
 have hk:=Keeps.below hBA
 have e0:=(hBA.block _ (lt_of_some d0)).trans d0
 have eW:WA.heap[W.heap.size]? = some (.cells #[.int .i64 0,.nilIface] 113 (0,0)):=by rw [←hWA]; exact heap_alloc_new W _
 have h1:=needs1_any E ok n t p0 b F st WA hok htree (hx.keeps hk) (h.below ok hBA) e0
 have hHC:Calls Tryz.prog 202 #[.pointer (some ⟨p0,0,none⟩)] (W.alloc (.cells #[.int .i64 0,.nilIface] 113)) fun e w'=>w'.heap[W.heap.size]? = some (.cells #[.int .i64 0,.nilIface] 113 (0,0))∧PW (Ψ E F WA (Lard.ev E.N n t none st)) e w':=by
  rw [hWA]
  refine h1.mono fun e w3 hp=>⟨?_,hp⟩
  obtain ⟨_,⟨_,_,_,_,hf⟩,_⟩:=hp
  exact hf.imm _ _ _ _ eW (.inr (.inl rfl))
 refine (worked_any 202 (.inl rfl) _ W _ hHC).mono ?_
 rintro e w' ⟨r,x,w2,rfl,⟨rfl,F2,hst2,hF2,hfm2⟩,hg,hW'⟩
 have hFw:Fm E.base W w2:=(Fm.below hBA hbase).trans hfm2
 have hgr:∀ k,F2 k→F k∨W.heap.size≤k:=fun k hk=>by
  rcases hF2 k hk with h' | h'
  ·exact .inl h'
  ·exact .inr (by omega)
 have hnot:¬ F2 W.heap.size:=fun hk=>by
  rcases hF2 _ hk with h' | h'
  ·have:=(ok.dom _ _ _ _ h.inv h').1; omega
  ·omega
 have hlt:=h.lt
 have hstay:Stay w2 w':=(keeps_grown hg (fun cs ty fz hb hi=>by
  rw [hfm2.imm _ _ _ _ eW (.inr (.inl rfl))] at hb
  cases hb
  rcases hi with h | h | h <;> cases h)).stay
 exact ⟨x,F2,rfl,hW',hst2.grown ok hg (by omega) hnot (by have:=h.g.size; omega) hstay,hgr,hFw.own hg (by omega) hbase⟩
theorem run_set {E:Env} (ok:EnvOK E) {F:Nat→Prop} {s:E.σ} {w:World} {tree y tc ti wc wi:Value} {f:Nat} (hr:RunAt w E.rb tree y tc ti f wc wi) (hJ:E.J F s w) (g:G w) (o:Nat) (v:Value):E.J F s (w.setCell ⟨E.rb,o,none⟩ v)∧G (w.setCell ⟨E.rb,o,none⟩ v)∧Fm E.base w (w.setCell ⟨E.rb,o,none⟩ v):=by
 have hg:=grown_set (World.grownBy.refl w (some E.rb)) o v
 have hlt:=lt_of_some hr
 have hfm : Fm E.base w (w.setCell ⟨E.rb, o, none⟩ v) := Fm.grown hg ok.baser (Nat.le_of_lt (Nat.lt_of_le_of_lt ok.baser hlt)) (fun cs t fz h => by
       rw [RunAt] at hr; rw [hr] at h; cases h
       rintro ((h | h | h) | h | h) <;> cases h)
 refine ⟨?_,?_,?_⟩
 ·exact ok.stab _ _ _ _ hJ hg.size (fun k hk=>hg.block k (ok.dom _ _ _ _ hJ hk).1 (fun e=>(ok.dom _ _ _ _ hJ hk).2 (by cases e; rfl))) hfm.keeps.stay
 ·exact g.below (B:=8) ((Below.refl 8 w).grown hg g.size (fun k hk=>by cases hk; exact Nat.le_trans ok.base8 ok.baser)) (Nat.le_refl _)
 ·exact hfm
def NeedsPost (E:Env) (F:Nat→Prop) (w:World) (q:Except Nat Lard.V×(Nat×E.σ)) (e:Ending) (w':World):Prop :=
 e=.returned (.tuple #[])∧∃ F' c i tc ti,IsW w' q.1 (.agg #[c,i])∧RunAt w' E.rb E.tree .nilFunc tc ti q.2.1 c i∧E.J F' q.2.2 w'∧E.cnt q.2.2 + q.2.1≤400∧(∀ k,F' k→F k∨w.heap.size≤k)∧Fm E.base w w'∧G w'
theorem needs_any (E:Env) (ok:EnvOK E) (n:Nat) (t:Lard.T) (b:Nat) (F:Nat→Prop) (f:Nat) (s:E.σ) (y0 tc ti:Value) (w:World) (hok:Lard.okT n false t=true) (htree:E.tree=.pointer (some ⟨b,0,none⟩)) (hx:IsTree w n t (.pointer (some ⟨b,0,none⟩))) (hr:RunAt w E.rb E.tree y0 tc ti f E.wc E.wi) (hJ:E.J F s w) (g:G w) (hf:E.cnt s + f≤400) :
  Calls Tryz.prog 161 #[.pointer (some ⟨E.rb,0,none⟩),E.Y] w (NeedsPost E F w (Lard.ev E.N n t none (f,s))):=by
 have hlt:E.rb < w.heap.size:=lt_of_some hr
 have hbase:E.base≤w.heap.size:=Nat.le_trans ok.baser (Nat.le_of_lt hlt)
 obtain ⟨W0,hW0⟩:∃ W0,w.alloc (.cells #[Value.pointer (some ⟨E.rb,0,none⟩)] 242)=W0:=⟨_,rfl⟩
 have hB0:Below w.heap.size w W0:=by rw [←hW0]; exact (Below.refl _ _).alloc (Nat.le_refl _) _
 have hsz0:W0.heap.size=w.heap.size + 1:=by rw [←hW0]; simp
 have b0:W0.heap[w.heap.size]? = some (.cells #[.pointer (some ⟨E.rb,0,none⟩)] 242 (0,0)):=by rw [←hW0]; exact heap_alloc_new w _
 have hr1:RunAt W0 E.rb E.tree y0 tc ti f E.wc E.wi:=(hB0.block _ hlt).trans hr
 have hJ0:=ok.stab _ _ _ _ hJ hB0.size (fun k hk=>hB0.block k (ok.dom _ _ _ _ hJ hk).1) (Keeps.below hB0).stay
 have g0:G W0:=g.below hB0 g.size
 have c1:W0.cell? ⟨E.rb,1,none⟩=some y0:=by rw [RunAt] at hr1; simp [World.cell?,hr1]
 have z1:W0.frozen? ⟨E.rb,1,none⟩=false:=by rw [RunAt] at hr1; simp [World.frozen?,hr1]
 obtain ⟨hJ1,g1,f1⟩:=run_set ok hr1 hJ0 g0 1 E.Y
 obtain ⟨W,hW⟩:∃ W,W0.setCell ⟨E.rb,1,none⟩ E.Y=W:=⟨_,rfl⟩
 have hrW:RunAt W E.rb E.tree E.Y tc ti f E.wc E.wi:=by
  rw [←hW]
  rw [RunAt] at hr1 ⊢
  simp [World.setCell,Array.getElem?_modify,hr1]
 have bW:W.heap[w.heap.size]? = some (.cells #[.pointer (some ⟨E.rb,0,none⟩)] 242 (0,0)):=by
  rw [hW] at f1
  exact f1.imm _ _ _ _ b0 (.inr (.inr rfl))
 rw [hW] at hJ1 g1 f1
 have f0:Fm E.base w W:=(Fm.below hB0 hbase).trans f1
 have hstW:St E F (f,s) W:=⟨⟨tc,ti,hrW⟩,hJ1,g1,hf⟩
 have hszW:w.heap.size≤W.heap.size:=f0.size
 have hBd:Below W.heap.size W W.drew:=(Below.refl _ W).drew
 have hfd:Fm E.base W W.drew:=Fm.below hBd (Nat.le_trans ok.baser (Nat.le_of_lt hstW.lt))
 have hcall:=needs_worked E ok n t w.heap.size b F (f,s) W.drew hok htree (hx.keeps (f0.trans hfd).keeps) (hstW.below ok hBd) ((hBd.block _ (lt_of_some bW)).trans bW)
 have hfin:∀ (w3:World) (F2:Nat→Prop) (c i:Value),IsW w3 (Lard.ev E.N n t none (f,s)).1 (.agg #[c,i])→St E F2 (Lard.ev E.N n t none (f,s)).2 w3→(∀ k,F2 k→F k∨W.drew.heap.size≤k)→Fm E.base W.drew w3→NeedsPost E F w (Lard.ev E.N n t none (f,s)) (.returned (.tuple #[])) (((w3.setCell ⟨E.rb,5,none⟩ c).setCell ⟨E.rb,6,none⟩ i).setCell ⟨E.rb,1,none⟩ .nilFunc):=by
  intro w3 F2 c i hw hs hF hfm
  obtain ⟨tc3,ti3,hr3⟩:=hs.run
  obtain ⟨hJ4,g4,f4⟩:=run_set ok hr3 hs.inv hs.g 5 c
  have hr4:RunAt (w3.setCell ⟨E.rb,5,none⟩ c) E.rb E.tree E.Y tc3 ti3 (Lard.ev E.N n t none (f,s)).2.1 c E.wi:=by
   rw [RunAt] at hr3 ⊢
   simp [World.setCell,Array.getElem?_modify,hr3]
  obtain ⟨hJ5,g5,f5⟩:=run_set ok hr4 hJ4 g4 6 i
  have hr5:RunAt ((w3.setCell ⟨E.rb,5,none⟩ c).setCell ⟨E.rb,6,none⟩ i) E.rb E.tree E.Y tc3 ti3 (Lard.ev E.N n t none (f,s)).2.1 c i:=by
   rw [RunAt] at hr4 ⊢
   rw [World.setCell,Array.getElem?_modify,hr4]
   simp
  obtain ⟨hJ6,g6,f6⟩:=run_set ok hr5 hJ5 g5 1 .nilFunc
  have hr6:RunAt (((w3.setCell ⟨E.rb,5,none⟩ c).setCell ⟨E.rb,6,none⟩ i).setCell ⟨E.rb,1,none⟩ .nilFunc) E.rb E.tree .nilFunc tc3 ti3 (Lard.ev E.N n t none (f,s)).2.1 c i:=by
   rw [RunAt] at hr5 ⊢
   rw [World.setCell,Array.getElem?_modify,hr5]
   simp
  have ff:=(f4.trans f5).trans f6
  refine ⟨rfl,F2,c,i,tc3,ti3,hw.keeps ff.keeps,hr6,hJ6,hs.le,fun k hk=>?_,((f0.trans hfd).trans hfm).trans ff,g6⟩
  rcases hF k hk with h | h
  ·exact .inl h
  ·have:=hBd.size
   exact .inr (by omega)
 have d0:W.cell? ⟨w.heap.size,0,none⟩=some (.pointer (some ⟨E.rb,0,none⟩)):=by simp [World.cell?,bW]
 have hcall:=hcall.mono (R':=fun e w3=>(∃ (c:Int) (i:Value) (w4:World),e=.returned (.agg #[.int .i64 c,i])∧(i=.nilIface∨∃ t a,i=.iface t a)∧(∃ c5 c6,w3.cell? ⟨E.rb,5,none⟩=some c5∧w3.cell? ⟨E.rb,6,none⟩=some c6)∧w3.frozen? ⟨E.rb,5,none⟩=false∧w3.frozen? ⟨E.rb,6,none⟩=false∧w4=((w3.setCell ⟨E.rb,5,none⟩ (.int .i64 c)).setCell ⟨E.rb,6,none⟩ i)∧w4.cell? ⟨E.rb,1,none⟩=some E.Y∧w4.frozen? ⟨E.rb,1,none⟩=false∧NeedsPost E F w (Lard.ev E.N n t none (f,s)) (.returned (.tuple #[])) (w4.setCell ⟨E.rb,1,none⟩ .nilFunc))∧w3.cell? ⟨w.heap.size,0,none⟩=some (.pointer (some ⟨E.rb,0,none⟩))) (fun e w3 hp=>by
  obtain ⟨x,F2,rfl,hw,hs,hF,hfm⟩:=hp
  obtain ⟨c,i,rfl,hci⟩:=hw.form
  have hn:=hfin w3 F2 _ _ hw hs hF hfm
  obtain ⟨tc3,ti3,hr3⟩:=hs.run
  have b3:=hfm.imm _ _ _ _ ((hBd.block _ (lt_of_some bW)).trans bW) (.inr (.inr rfl))
  rw [RunAt] at hr3
  refine ⟨⟨_,_,_,rfl,hci,⟨E.wc,E.wi,?_,?_⟩,?_,?_,rfl,?_,?_,hn⟩,?_⟩
  ·simp [World.cell?,hr3]
  ·simp [World.cell?,hr3]
  ·simp [World.frozen?,hr3]
  ·simp [World.frozen?,hr3]
  ·simp [World.cell?,World.setCell,Array.getElem?_modify,hr3]
  ·simp [World.frozen?,World.setCell,Array.getElem?_modify,hr3]
  ·simp [World.cell?,b3])
 subst hW hW0
 have hcomm:((w.alloc (.cells #[Value.pointer (some ⟨E.rb,0,none⟩)] 242)).setCell ⟨E.rb,1,none⟩ E.Y)=((w.setCell ⟨E.rb,1,none⟩ E.Y).alloc (.cells #[Value.pointer (some ⟨E.rb,0,none⟩)] 242)):=by
  simp [go_sem,hlt]
 rw [hcomm] at hcall d0
 have HC:=hide hcall
 clear hcall hfin hstW bW hrW hJ1 g1 f1 f0 hBd hfd hszW g0 hJ0 hr1 b0 hsz0 hB0 hx hr hJ g hbase hcomm
 clear hcall
 generalize NeedsPost E F w (Lard.ev E.N n t none (f,s))=R at *
 unfold Env.Y at *
 generalize E.rb=rb at *
 generalize E.l=l at *
 go_enter Tryz.func161,Tryz.ntmps161
 go_wp2_with fail
 refine wp_region_held_drew (S:=fun w'=>w'.cell? ⟨w.heap.size,0,none⟩=some (.pointer (some ⟨rb,0,none⟩))) (by kernel_rfl) d0 (fun hHeld=>?_)
 refine wpAnyH_take (i:=0) (v:=?_) rfl (by kernel_rfl) (by kernel_rfl) (by kernel_rfl) (fun _ _ _ h=>h) (Or.inl ⟨by rfl,?_⟩) (by assumption) ?_
 rotate_left
 ·intro w' s0
  go_simp
  try with_reducible rfl
 simp only [Act.put,List.setIfInBounds_toArray,List.set_cons_zero,List.set_cons_succ]
 refine wpAnyH_take (i:=1) (v:=?_) rfl (by kernel_rfl) (by kernel_rfl) (by kernel_rfl) (fun _ _ _ h=>h) (Or.inl ⟨by rfl,?_⟩) (by assumption) ?_
 rotate_left
 ·intro w' s0
  go_simp
  try with_reducible rfl
 simp only [Act.put,List.setIfInBounds_toArray,List.set_cons_zero,List.set_cons_succ]
 refine wpAnyH_ready (rs:=[2]) (by kernel_rfl) (by simp) ?_
 refine AllReadyH.cons rfl (fun K hK=>?_) AllReadyH.nil
 go_simp
 refine HC.out.mono ?_
 rintro e w3 ⟨⟨c,i,w4,rfl,hi,⟨c5,c6,d5,d6⟩,z5,z6,hw4,d1,z1',hR⟩,hS3⟩
 have HR:=hide hR
 clear hR
 refine hK.out _ _ hS3 (fun _=>?_)
 clear hK hHeld
 refine wpAnyH_ready (rs:=[3]) (by kernel_rfl) (by simp) ?_
 refine AllReadyH.cons rfl (fun K hK=>?_) AllReadyH.nil
 go_simp
 refine hK.out _ _ hS3 (fun _=>?_)
 clear hK
 refine wpAnyH_ready (rs:=[4]) (by kernel_rfl) (by simp) ?_
 refine AllReadyH.cons rfl (fun K hK=>?_) AllReadyH.nil
 go_simp
 refine hK.out _ _ hS3 (fun _=>?_)
 clear hK
 refine wpAnyH_ready (rs:=[5]) (by kernel_rfl) (by simp) ?_
 refine AllReadyH.cons rfl (fun K hK=>?_) AllReadyH.nil
 have hS4:w4.cell? ⟨w.heap.size,0,none⟩=some (.pointer (some ⟨rb,0,none⟩)):=by
  rw [hw4]; simp [go_sem,hS3,Nat.ne_of_lt hlt]
 rcases hi with rfl | ⟨t6,a6,rfl⟩
 all_goals
  go_simp
  clear HC
  rw [←hw4]
  refine hK.out _ _ hS4 (fun _=>?_)
  clear hK hw4 d5 d6 z5 z6
  refine wpAnyH_done (by kernel_rfl) ?_ _
  go_wp2_with fail
  go_end0
  exact HR.out
end
section
set_option maxRecDepth 100000
set_option maxHeartbeats 1000000
open Go.RowKit Go.Shelf
theorem of_any (a:Addr) (w:World) :
  Calls Tryz.prog 160 #[.pointer (some a)] w fun e w'=>e=.returned (.pointer (some ⟨w.heap.size,0,none⟩))∧RunAt w' w.heap.size (.pointer (some a)) .nilFunc (.int .i64 0) .nilIface 400 (.int .i64 0) .nilIface∧Below w.heap.size w w'∧w'.heap.size=w.heap.size + 1:=by
 go_enter Tryz.func160,Tryz.ntmps160
 go_wp2
 go_ret
 exact ⟨rfl,heap_alloc_new w _,(Below.refl _ w).alloc (Nat.le_refl _) _,by simp⟩
theorem tell_any (rb f:Nat) (tree y tc ti wc wi:Value) (r:Except Nat Lard.V) (x:Value) (w:World) (hr:RunAt w rb tree y tc ti f wc wi) (hx:IsW w r x) :
  Calls Tryz.prog 162 #[.pointer (some ⟨rb,0,none⟩),x] w fun e w'=>e=.returned (.tuple #[])∧∃ c i,x=.agg #[c,i]∧RunAt w' rb tree y c i f wc wi∧w.grownBy w' (some rb)∧w'.heap.size=w.heap.size + 1:=by
 obtain ⟨c,i,rfl,hi⟩:=hx.form
 have hlt:=lt_of_some hr
 have hA:∀ o,RunAt (w.alloc o) rb tree y tc ti f wc wi:=fun o=>(Below.heap_alloc _ _ _ hlt).trans hr
 have c2:(w.alloc (.cells #[.int .i64 c,i] 113)).cell? ⟨rb,2,none⟩=some tc:=by have h:=hA (.cells #[.int .i64 c,i] 113); rw [RunAt] at h; simp [World.cell?,h]
 have z2:(w.alloc (.cells #[.int .i64 c,i] 113)).frozen? ⟨rb,2,none⟩=false:=by have h:=hA (.cells #[.int .i64 c,i] 113); rw [RunAt] at h; simp [World.frozen?,h]
 have hB:RunAt ((w.setCell ⟨rb,2,none⟩ (.int .i64 c)).alloc (.cells #[.int .i64 c,i] 113)) rb tree y (.int .i64 c) ti f wc wi:=by
  have h:=hr
  rw [RunAt] at h ⊢
  refine (Below.heap_alloc _ _ _ (by simpa [World.setCell] using hlt)).trans ?_
  simp [World.setCell,Array.getElem?_modify,h]
 have c3:((w.setCell ⟨rb,2,none⟩ (.int .i64 c)).alloc (.cells #[.int .i64 c,i] 113)).cell? ⟨rb,3,none⟩=some ti:=by rw [RunAt] at hB; simp [World.cell?,hB]
 have z3:((w.setCell ⟨rb,2,none⟩ (.int .i64 c)).alloc (.cells #[.int .i64 c,i] 113)).frozen? ⟨rb,3,none⟩=false:=by rw [RunAt] at hB; simp [World.frozen?,hB]
 have hfin:RunAt (((w.setCell ⟨rb,2,none⟩ (.int .i64 c)).setCell ⟨rb,3,none⟩ i).alloc (.cells #[.int .i64 c,i] 113)) rb tree y (.int .i64 c) i f wc wi∧w.grownBy (((w.setCell ⟨rb,2,none⟩ (.int .i64 c)).setCell ⟨rb,3,none⟩ i).alloc (.cells #[.int .i64 c,i] 113)) (some rb)∧(((w.setCell ⟨rb,2,none⟩ (.int .i64 c)).setCell ⟨rb,3,none⟩ i).alloc (.cells #[.int .i64 c,i] 113)).heap.size=w.heap.size + 1:=by
  refine ⟨?_,Fr.alloc (grown_set (grown_set (World.grownBy.refl _ _) _ _) _ _) _,by simp [World.setCell,World.size_alloc]⟩
  rw [RunAt] at hr ⊢
  refine (Below.heap_alloc _ _ _ (by simpa [World.setCell] using hlt)).trans ?_
  simp [World.setCell,Array.getElem?_modify,hr]
 have HF:=hide hfin
 clear hfin hx hr hA hB
 rcases hi with rfl | ⟨t,a,rfl⟩
 all_goals
  go_enter Tryz.func162,Tryz.ntmps162
  go_wp2_with fail
  go_end0
  exact ⟨rfl,_,_,rfl,HF.out⟩
theorem worth_any (rb f:Nat) (tree y tc ti:Value) (r:Except Nat Lard.V) (wc wi:Value) (w:World) (hr:RunAt w rb tree y tc ti f wc wi) (hx:IsW w r (.agg #[wc,wi])) :
  Calls Tryz.prog 164 #[.pointer (some ⟨rb,0,none⟩)] w fun e w'=>e=.returned (.agg #[wc,wi])∧Below w.heap.size w w'∧w'.heap.size=w.heap.size + 1:=by
 have hlt:=lt_of_some hr
 have hA:RunAt (w.alloc (.cells #[.int .i64 0,.nilIface] 113)) rb tree y tc ti f wc wi:=(Below.heap_alloc _ _ _ hlt).trans hr
 have c5:(w.alloc (.cells #[.int .i64 0,.nilIface] 113)).cell? ⟨rb,5,none⟩=some wc:=by rw [RunAt] at hA; simp [World.cell?,hA]
 have c6:(w.alloc (.cells #[.int .i64 0,.nilIface] 113)).cell? ⟨rb,6,none⟩=some wi:=by rw [RunAt] at hA; simp [World.cell?,hA]
 obtain ⟨c,i,h,hi⟩:=hx.form
 cases h
 clear hr hx hA
 rcases hi with rfl | ⟨t,a,rfl⟩
 all_goals
  go_enter Tryz.func164,Tryz.ntmps164
  go_wp2_with fail
  exact bodyPost_ret (v:=.agg #[.int .i64 c,_]) (by simp [results,Tryz.results164,go_sem]) rfl ⟨rfl,(Below.refl _ w).alloc (Nat.le_refl _) _,by simp⟩
end
section
open Go.RowKit Go.Shelf
def LT (t:TypeId):Prop:=t=108∨t=9∨t=61∨t=5∨t=124∨t=131∨t=133
theorem LT.imm {t:TypeId} (h:LT t):¬ ImmW t:=by
 rcases h with rfl | rfl | rfl | rfl | rfl | rfl | rfl <;> (rintro ((h | h | h) | h | h) <;> cases h)
theorem IsVal.st {w w':World} (h:Stay w w') {n:Nat} {v:Lard.V} {x:Value} (hx:IsVal w n v x):IsVal w' n v x:=h.val n v x hx
theorem IsW.st {w w':World} (h:Stay w w') {r:Except Nat Lard.V} {x:Value} (hx:IsW w r x):IsW w' r x:=by
 rcases hx with ⟨v,y,h1,h2,h3⟩ | hx
 ·exact .inl ⟨v,y,h1,h2,h3.st h⟩
 ·exact .inr hx
theorem IsOpt.st {w w':World} (h:Stay w w') {o:Option Lard.V} {x:Value} (hx:IsOpt w o x):IsOpt w' o x:=by
 rcases hx with hx | ⟨v,h1,h2⟩
 ·exact .inl hx
 ·exact .inr ⟨v,h1,h2.st h⟩
theorem IsPtrs.st {w w':World} (h:Stay w w') {s:Value} {ys:List Value} (hx:IsPtrs w s ys):IsPtrs w' s ys:=by
 rcases hx with hx | ⟨b,cap,cs,fz,h1,h2,h3,h4,h5⟩
 ·exact .inl hx
 ·exact .inr ⟨b,cap,cs,fz,h1,h2,h.node _ _ _ _ h3 (.inr rfl),h4,h5⟩
theorem IsTree.st {w w':World} (h:Stay w w'):∀ {n:Nat} {t:Lard.T} {x:Value},IsTree w n t x→IsTree w' n t x
 |0,_,_,hx=>hx
 |_ + 1,_,_,⟨b,i,s,qs,fz,h1,h2,h3,h4,h5,h6⟩ =>
  ⟨b,i,s,qs,fz,h1,h.node _ _ _ _ h2 (.inl rfl),⟨h3.1.st h,h3.2⟩,h4.st h,h5,fun j u q hu hq=>IsTree.st h (h6 j u q hu hq)⟩
theorem Stay.refl (w:World):Stay w w:=⟨fun _ _ _ h=>h,fun _ _ _ _ h _=>h⟩
theorem Stay.trans {a b c:World} (h:Stay a b) (h':Stay b c):Stay a c:=⟨fun n v x hx=>h'.val n v x (h.val n v x hx),fun k cs t fz hk ht=>h'.node k cs t fz (h.node k cs t fz hk ht) ht⟩
theorem Stay.below {w w':World} (h:Below w.heap.size w w'):Stay w w':=(Keeps.below h).stay
def K2 (L:Nat→Prop) (w w':World):Prop:=∀ k,L k→∀ (cs:Array Value) (t:TypeId) (fz:Nat×Nat),w.heap[k]? = some (.cells cs t fz)→t=131∨t=133→w'.heap[k]? = some (.cells cs t fz)
theorem row_same {w w':World} {base n size:Nat} {e:TypeId} {v:Value} {xs:List Value} (h:w.ownsRow base e size v n xs) (hs:∀ g,v.ownBlock=some g→∀ (cs:Array Value) (fz:Nat×Nat),w.heap[g]? = some (.cells cs e fz)→w'.heap[g]? = some (.cells cs e fz)):w'.ownsRow base e size v n xs:=by
 refine ⟨h.1,?_⟩
 rcases h.2 with h2 | ⟨g,cap,cur,h1,h2,h3,h4⟩
 ·exact .inl h2
 ·exact .inr ⟨g,cap,cur,h1,h2,hs g (by rw [h1]; rfl) _ _ h3,h4⟩
def cells3 (q:Value×Value×Value):List Value:=[q.1,q.2.1,q.2.2]
def NeedsAt (w:World) (ns:List (List UInt8×Lard.Wo)) (sl:Value):Prop :=
 ∃ qs:List (Value×Value×Value),w.ownsRow 8 133 3 sl ns.length (qs.flatMap cells3)∧qs.length=ns.length ∧
  ∀ (i:Nat) n q,ns[i]? = some n→qs[i]? = some q→q.1=str n.1∧n.1.length≤200∧IsW w n.2 (.agg #[q.2.1,q.2.2])
def KeepAt (w:World) (L:Nat→Prop) (kp:Lard.Keep) (q:Nat):Prop :=
 ∃ c i sl,w.heap[q]? = some (.cells #[c,i,sl] 131 (0,0))∧L q∧IsW w kp.worth (.agg #[c,i])∧NeedsAt w kp.needs sl∧(∀ g,sl.ownBlock=some g→L g)∧kp.needs.length≤401
def ThingAt (w:World) (L:Nat→Prop) (th:Lard.Thing) (q:Nat):Prop :=
 ∃ v r k,w.heap[q]? = some (.cells #[v,r,str th.came,k] 124 (0,0))∧L q∧th.came.length≤200 ∧
  ((th.tree=none∧r=.pointer none∧IsVal w 3 th.value v∧th.kept=none)∨∃ t a,th.tree=some t∧r=.pointer (some a)∧v=.nilIface∧Lard.okT (Lard.hM t) false t=true∧IsTree w (Lard.hM t) t (.pointer (some a))) ∧
  ((th.kept=none∧k=.pointer none)∨∃ kp kb,th.kept=some kp∧k=.pointer (some ⟨kb,0,none⟩)∧KeepAt w L kp kb)
def ptr (p:Nat):Value:=.pointer (some ⟨p,0,none⟩)
def HasAt (w:World) (L:Nat→Prop) (hb:Nat) (has:List (List UInt8×Lard.Thing)):Prop :=
 ∃ hp:List (List UInt8×(Lard.Thing×Nat)),has=hp.map (fun x=>(x.1,x.2.1))∧MapAt w hb (hp.map fun x=>(x.1,ptr x.2.2))∧(hp.map (·.2.2)).Nodup∧(∀ x∈hp,ThingAt w L x.2.1 x.2.2)∧(∀ x∈hp,x.1.length≤8)∧L hb
def DoneAt (w:World) (L:Nat→Prop) (db:Nat) (done:List (List UInt8×Lard.Wo)):Prop :=
 ∃ dp:List (List UInt8×(Lard.Wo×Value)),done=dp.map (fun x=>(x.1,x.2.1))∧MapAt w db (dp.map fun x=>(x.1,x.2.2))∧(∀ x∈dp,IsW w x.2.1 x.2.2)∧L db
def woCells:Lard.Wo→List Value
 |.ok v=>[.int .i64 0,str (Lard.wr 3 v)]
 |.error c=>[.int .i64 (c:Int),str []]
def whyCells (y:Lard.Why):List Value:=str y.key :: str y.need :: (woCells y.was++woCells y.now)
def strsAt (w:World) (v:Value) (l:List (List UInt8)):Prop:=w.ownsRow 8 9 1 v l.length (l.map str)
def jbytes (jr:List (List UInt8)):List UInt8:=jr.flatMap Lard.line
structure LP (w:World) (lb:Nat) (s:Lard.LS) (L:Nat→Prop) (hb db:Nat) (vb vr vn vj:Value):Prop where
 blk:w.heap[lb]? = some (.cells #[.map (some hb),.map (some db),vb,vr,vn,vj] 108 (0,0))
 here:L lb
 ne:hb≠db
 has:HasAt w L hb s.has
 done:DoneAt w L db s.done
 begun:strsAt w vb s.begun
 ring:strsAt w vr s.ring
 ran:w.ownsRow 8 61 6 vn s.ran.length (s.ran.flatMap whyCells)
 jr:w.ownsRow 8 5 1 vj (jbytes s.jr).length (Lib.strCells ⟨(jbytes s.jr).toArray⟩)
 mine:∀ g,vb.ownBlock=some g∨vr.ownBlock=some g∨vn.ownBlock=some g∨vj.ownBlock=some g→L g
 apart:∀ g,vb.ownBlock=some g→vr.ownBlock≠some g
 rnil:s.ring=[]→vr=.slice none 0 0
 typed:∀ k,L k→8≤k∧((∃ es c,w.heap[k]? = some (.map es c))∨∃ cs t fz,w.heap[k]? = some (.cells cs t fz)∧LT t)
def LAt (w:World) (lb:Nat) (s:Lard.LS) (L:Nat→Prop):Prop:=∃ hb db vb vr vn vj,LP w lb s L hb db vb vr vn vj
/-! What stays. -/
theorem NeedsAt.st {w w':World} {ns:List (List UInt8×Lard.Wo)} {sl:Value} (h:NeedsAt w ns sl) (hs:∀ g,sl.ownBlock=some g→∀ (cs:Array Value) (fz:Nat×Nat),w.heap[g]? = some (.cells cs 133 fz)→w'.heap[g]? = some (.cells cs 133 fz)) (hst:Stay w w'):NeedsAt w' ns sl:=by
 obtain ⟨qs,h1,h2,h3⟩:=h
 exact ⟨qs,row_same h1 hs,h2,fun i n q hn hq=>⟨(h3 i n q hn hq).1,(h3 i n q hn hq).2.1,(h3 i n q hn hq).2.2.st hst⟩⟩
theorem KeepAt.st {w w':World} {L:Nat→Prop} {kp:Lard.Keep} {q:Nat} (h:KeepAt w L kp q) (hk:K2 L w w') (hst:Stay w w'):KeepAt w' L kp q:=by
 obtain ⟨c,i,sl,h1,h2,h3,h4,h5,h6⟩:=h
 exact ⟨c,i,sl,hk q h2 _ _ _ h1 (.inl rfl),h2,h3.st hst,h4.st (fun g hg cs fz hb=>hk g (h5 g hg) _ _ _ hb (.inr rfl)) hst,h5,h6⟩
theorem KeepAt.mono {w:World} {L L':Nat→Prop} {kp:Lard.Keep} {q:Nat} (h:KeepAt w L kp q) (hL:∀ k,L k→L' k):KeepAt w L' kp q:=by
 obtain ⟨c,i,sl,h1,h2,h3,h4,h5,h6⟩:=h
 exact ⟨c,i,sl,h1,hL _ h2,h3,h4,fun g hg=>hL g (h5 g hg),h6⟩
theorem ThingAt.st {w w':World} {L:Nat→Prop} {th:Lard.Thing} {q:Nat} (h:ThingAt w L th q) (hb:w'.heap[q]? = w.heap[q]?) (hk:K2 L w w') (hst:Stay w w'):ThingAt w' L th q:=by
 obtain ⟨v,r,k,h1,h2,h3,h4,h5⟩:=h
 refine ⟨v,r,k,hb.trans h1,h2,h3,?_,?_⟩
 ·rcases h4 with ⟨a,b,c,d⟩ | ⟨t,a,b,c,d,e,f⟩
  ·exact .inl ⟨a,b,c.st hst,d⟩
  ·exact .inr ⟨t,a,b,c,d,e,f.st hst⟩
 ·rcases h5 with h5 | ⟨kp,kb,a,b,c⟩
  ·exact .inl h5
  ·exact .inr ⟨kp,kb,a,b,c.st hk hst⟩
theorem ThingAt.mono {w:World} {L L':Nat→Prop} {th:Lard.Thing} {q:Nat} (h:ThingAt w L th q) (hL:∀ k,L k→L' k):ThingAt w L' th q:=by
 obtain ⟨v,r,k,h1,h2,h3,h4,h5⟩:=h
 refine ⟨v,r,k,h1,hL _ h2,h3,h4,?_⟩
 rcases h5 with h5 | ⟨kp,kb,a,b,c⟩
 ·exact .inl h5
 ·exact .inr ⟨kp,kb,a,b,c.mono hL⟩
theorem ThingAt.block {w:World} {L:Nat→Prop} {th:Lard.Thing} {q:Nat} (h:ThingAt w L th q):L q∧∃ cs,w.heap[q]? = some (.cells cs 124 (0,0)):=by
 obtain ⟨v,r,k,h1,h2,_⟩:=h
 exact ⟨h2,_,h1⟩
theorem HasAt.st {w w':World} {L:Nat→Prop} {hb:Nat} {has:List (List UInt8×Lard.Thing)} (h:HasAt w L hb has) (hm:w'.heap[hb]? = w.heap[hb]?) (ht:∀ k,L k→∀ (cs:Array Value) (fz:Nat×Nat),w.heap[k]? = some (.cells cs 124 fz)→w'.heap[k]? = some (.cells cs 124 fz)) (hk:K2 L w w') (hst:Stay w w'):HasAt w' L hb has:=by
 obtain ⟨hp,h1,h2,h3,h4,h5,h6⟩:=h
 refine ⟨hp,h1,h2.same hm,h3,fun x hx=>?_,h5,h6⟩
 obtain ⟨hl,cs,hc⟩:=(h4 x hx).block
 exact (h4 x hx).st ((ht _ hl _ _ hc).trans hc.symm) hk hst
theorem HasAt.mono {w:World} {L L':Nat→Prop} {hb:Nat} {has:List (List UInt8×Lard.Thing)} (h:HasAt w L hb has) (hL:∀ k,L k→L' k):HasAt w L' hb has:=by
 obtain ⟨hp,h1,h2,h3,h4,h5,h6⟩:=h
 exact ⟨hp,h1,h2,h3,fun x hx=>(h4 x hx).mono hL,h5,hL _ h6⟩
theorem DoneAt.st {w w':World} {L:Nat→Prop} {db:Nat} {done:List (List UInt8×Lard.Wo)} (h:DoneAt w L db done) (hm:w'.heap[db]? = w.heap[db]?) (hst:Stay w w'):DoneAt w' L db done:=by
 obtain ⟨dp,h1,h2,h3,h4⟩:=h
 exact ⟨dp,h1,h2.same hm,fun x hx=>(h3 x hx).st hst,h4⟩
theorem DoneAt.mono {w:World} {L L':Nat→Prop} {db:Nat} {done:List (List UInt8×Lard.Wo)} (h:DoneAt w L db done) (hL:∀ k,L k→L' k):DoneAt w L' db done:=by
 obtain ⟨dp,h1,h2,h3,h4⟩:=h
 exact ⟨dp,h1,h2,h3,hL _ h4⟩
theorem LP.st {w w':World} {lb:Nat} {s:Lard.LS} {L:Nat→Prop} {hb db:Nat} {vb vr vn vj:Value} (h:LP w lb s L hb db vb vr vn vj) (hs:∀ k,L k→w'.heap[k]? = w.heap[k]?) (hst:Stay w w'):LP w' lb s L hb db vb vr vn vj where
 blk:=(hs lb h.here).trans h.blk
 here:=h.here
 ne:=h.ne
 has:=by
  have hl:L hb:=by obtain ⟨_,_,_,_,_,_,h6⟩:=h.has; exact h6
  exact h.has.st (hs hb hl) (fun k hk cs fz hc=>(hs k hk).trans hc) (fun k hk cs t fz hc _=>(hs k hk).trans hc) hst
 done:=by
  have hl:L db:=by obtain ⟨_,_,_,_,h4⟩:=h.done; exact h4
  exact h.done.st (hs db hl) hst
 begun:=row_same h.begun (fun g hg cs fz hc=>(hs g (h.mine g (.inl hg))).trans hc)
 ring:=row_same h.ring (fun g hg cs fz hc=>(hs g (h.mine g (.inr (.inl hg)))).trans hc)
 ran:=row_same h.ran (fun g hg cs fz hc=>(hs g (h.mine g (.inr (.inr (.inl hg))))).trans hc)
 jr:=row_same h.jr (fun g hg cs fz hc=>(hs g (h.mine g (.inr (.inr (.inr hg))))).trans hc)
 mine:=h.mine
 apart:=h.apart
 rnil:=h.rnil
 typed k hk:=by rw [hs k hk]; exact h.typed k hk
theorem LAt.st {w w':World} {lb:Nat} {s:Lard.LS} {L:Nat→Prop} (h:LAt w lb s L) (hs:∀ k,L k→w'.heap[k]? = w.heap[k]?) (hst:Stay w w'):LAt w' lb s L:=by
 obtain ⟨hb,db,vb,vr,vn,vj,h⟩:=h
 exact ⟨hb,db,vb,vr,vn,vj,h.st hs hst⟩
theorem LP.lt {w:World} {lb:Nat} {s:Lard.LS} {L:Nat→Prop} {hb db:Nat} {vb vr vn vj:Value} (h:LP w lb s L hb db vb vr vn vj) {k:Nat} (hk:L k):k < w.heap.size:=by
 rcases (h.typed k hk).2 with ⟨es,c,h⟩ | ⟨cs,t,fz,h,_⟩
 ·exact (Array.getElem?_eq_some_iff.1 h).1
 ·exact lt_of_some h
structure Frm (L:Nat→Prop) (w w':World):Prop where
 os:w'.os=w.os
 tape:w'.tape=w.tape
 output:w'.output=w.output
 size:w.heap.size≤w'.heap.size
 block:∀ k,k < w.heap.size→¬ L k→w'.heap[k]? = w.heap[k]?
theorem Frm.refl (L:Nat→Prop) (w:World):Frm L w w:=⟨rfl,rfl,rfl,Nat.le_refl _,fun _ _ _=>rfl⟩
theorem Frm.below {L:Nat→Prop} {w w':World} (h:Below w.heap.size w w'):Frm L w w':=⟨h.os,h.tape,h.output,h.size,fun k hk _=>h.block k hk⟩
theorem Frm.grown {L:Nat→Prop} {w w':World} {b:Nat} (h:w.grownBy w' (some b)) (hb:L b):Frm L w w':=⟨h.os,h.tape,h.output,h.size,fun k hk hn=>h.block k hk (fun e=>by cases e; exact hn hb)⟩
theorem Frm.trans {L L':Nat→Prop} {a b c:World} (h:Frm L a b) (h':Frm L' b c) (hL:∀ k,L' k→L k∨a.heap.size≤k):Frm L a c :=
 ⟨h'.os.trans h.os,h'.tape.trans h.tape,h'.output.trans h.output,Nat.le_trans h.size h'.size,fun k hk hn=>(h'.block k (Nat.lt_of_lt_of_le hk h.size) (fun e=>by rcases hL k e with h | h; exact hn h; omega)).trans (h.block k hk hn)⟩
structure Frw (lb:Nat) (L:Nat→Prop) (w w':World):Prop extends Frm L w w' where
 k2:K2 L w w'
 hasm:∀ hb,hb < w.heap.size→w.cell? ⟨lb,0,none⟩=some (.map (some hb))→w'.cell? ⟨lb,0,none⟩=some (.map (some hb))∧w'.heap[hb]? = w.heap[hb]?
theorem Frw.refl (lb:Nat) (L:Nat→Prop) (w:World):Frw lb L w w:=⟨Frm.refl _ _,fun _ _ _ _ _ h _=>h,fun _ _ h=>⟨h,rfl⟩⟩
theorem Frw.below {lb:Nat} {L:Nat→Prop} {w w':World} (h:Below w.heap.size w w'):Frw lb L w w' :=
 ⟨Frm.below h,fun k _ cs t fz hk _=>(h.block k (lt_of_some hk)).trans hk,fun hb hlt hc=>⟨by
  have hl:lb < w.heap.size:=by
   refine Decidable.byContradiction fun hn=>?_
   have:w.heap[lb]? = none:=Array.getElem?_eq_none_iff.2 (by omega)
   simp [World.cell?,this] at hc
  rw [←hc]; exact World.cell?_of_block (h.block lb hl),h.block hb hlt⟩⟩
theorem Frw.trans {lb:Nat} {L L':Nat→Prop} {a b c:World} (h:Frw lb L a b) (h':Frw lb L' b c) (hL:∀ k,L' k→L k∨a.heap.size≤k) (hL':∀ k,L k→L' k):Frw lb L a c :=
 ⟨h.toFrm.trans h'.toFrm hL,fun k hk cs t fz hc ht=>h'.k2 k (hL' k hk) cs t fz (h.k2 k hk cs t fz hc ht) ht,fun hb hlt hc=>by
  obtain ⟨h1,h2⟩:=h.hasm hb hlt hc
  obtain ⟨h3,h4⟩:=h'.hasm hb (Nat.lt_of_lt_of_le hlt h.size) h1
  exact ⟨h3,h4.trans h2⟩⟩
def LPost0 (w:World) (lb:Nat) (L:Nat→Prop) (s:Lard.LS) (w':World):Prop :=
 ∃ L',LAt w' lb s L'∧(∀ k,L' k→L k∨w.heap.size≤k)∧(∀ k,L k→L' k)∧Frm L w w'
def LPost (w:World) (lb:Nat) (L:Nat→Prop) (s:Lard.LS) (w':World):Prop :=
 ∃ L',LAt w' lb s L'∧(∀ k,L' k→L k∨w.heap.size≤k)∧(∀ k,L k→L' k)∧Frw lb L w w'
theorem LPost.weak {w w':World} {lb:Nat} {L:Nat→Prop} {s:Lard.LS} (h:LPost w lb L s w'):LPost0 w lb L s w':=by
 obtain ⟨L',h1,h2,h3,h4⟩:=h
 exact ⟨L',h1,h2,h3,h4.toFrm⟩
theorem LP.frw {w w':World} {lb:Nat} {s s':Lard.LS} {L L':Nat→Prop} {hb db db':Nat} {vb vr vn vj vb' vr' vn' vj':Value} (h:LP w lb s L hb db vb vr vn vj) (h':LP w' lb s' L' hb db' vb' vr' vn' vj') (hf:Frm L w w') (hk:K2 L w w') (hm:w'.heap[hb]? = w.heap[hb]?):Frw lb L w w' :=
 ⟨hf,hk,fun hb2 _ hc=>by
  have h1:w.cell? ⟨lb,0,none⟩=some (.map (some hb)):=by simp [World.cell?,h.blk]
  have h2:w'.cell? ⟨lb,0,none⟩=some (.map (some hb)):=by simp [World.cell?,h'.blk]
  rw [h1] at hc
  cases hc
  exact ⟨h2,hm⟩⟩
theorem frm_keeps {w w':World} {lb:Nat} {s:Lard.LS} {L:Nat→Prop} (h:LAt w lb s L) (hf:Frm L w w'):Keeps w w':=by
 obtain ⟨hb,db,vb,vr,vn,vj,h⟩:=h
 intro k cs t fz hk ht
 by_cases hl:L k
 ·rcases (h.typed k hl).2 with ⟨es,c,h1⟩ | ⟨cs',t',fz',h1,h2⟩
  ·rw [hk] at h1; cases h1
  ·rw [hk] at h1; cases h1
   exact (h2.imm (.inl ht)).elim
 ·exact (hf.block k (lt_of_some hk) hl).trans hk
theorem frm_g {w w':World} {lb:Nat} {s:Lard.LS} {L:Nat→Prop} (h:LAt w lb s L) (hf:Frm L w w') (g:G w):G w':=by
 obtain ⟨hb,db,vb,vr,vn,vj,h⟩:=h
 have hB:Below 8 w w':=⟨hf.os,hf.tape,hf.output,hf.size,fun k hk=>hf.block k (Nat.lt_of_lt_of_le hk g.size) (fun hl=>by have:=(h.typed k hl).1; omega)⟩
 exact g.below hB (Nat.le_refl _)
theorem LPost.refl {w:World} {lb:Nat} {s:Lard.LS} {L:Nat→Prop} (h:LAt w lb s L):LPost w lb L s w:=⟨L,h,fun _ h=>.inl h,fun _ h=>h,Frw.refl _ _ _⟩
theorem LPost.trans {a b c:World} {lb:Nat} {s s':Lard.LS} {L:Nat→Prop} (h:LPost a lb L s b) (h':∀ L',LAt b lb s L'→LPost b lb L' s' c):LPost a lb L s' c:=by
 obtain ⟨L1,h1,h2,h3,h4⟩:=h
 obtain ⟨L2,g1,g2,g3,g4⟩:=h' L1 h1
 refine ⟨L2,g1,fun k hk=>?_,fun k hk=>g3 k (h3 k hk),h4.trans g4 h2 h3⟩
 rcases g2 k hk with h | h
 ·exact h2 k h
 ·have:=h4.size
  exact .inr (by omega)
theorem LPost.below {w w':World} {lb:Nat} {s:Lard.LS} {L:Nat→Prop} (h:LAt w lb s L) (hB:Below w.heap.size w w'):LPost w lb L s w':=by
 refine ⟨L,h.st (fun k hk=>?_) (Stay.below hB),fun _ h=>.inl h,fun _ h=>h,Frw.below hB⟩
 obtain ⟨hb,db,vb,vr,vn,vj,h⟩:=h
 exact hB.block k (h.lt hk)
end
end Go.Proofs.YtpekpdimdelncaaGreatDoor
