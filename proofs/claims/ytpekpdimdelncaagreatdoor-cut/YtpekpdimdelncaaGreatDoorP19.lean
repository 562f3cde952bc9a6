/- Out of: L15. -/
import Derived.Test.YtpekpdimdelncaaGreatDoorP17
import Derived.Test.YtpekpdimdelncaaGreatDoorP18
set_option linter.unusedVariables false
set_option linter.unusedSimpArgs false
namespace Go.Proofs.YtpekpdimdelncaaGreatDoor
section
open Go.RowKit Go.Shelf
def LM:Nat:=50000000
def Phi (s:Lard.LS):Nat:=(jbytes s.jr).length + LM * Lard.Rs s
structure Rc where
 lb:Nat
 rb:Nat
 b3:Nat
 b7:Nat
 b8:Nat
 l:Nat
 w0:World
 L0:Nat→Prop
 s0:Lard.LS
 lp:Loop
structure RcOK (c:Rc):Prop where
 loop:c.w0.heap[c.l]? = some (.loop c.lp)
 ready:c.lp.state=.ready
 pend:c.lp.pending=none
 c3:c.w0.heap[c.b3]? = some (.cells #[ptr c.lb] 29 (0,0))
 c7:c.w0.heap[c.b7]? = some (.cells #[ptr c.rb] 242 (0,0))
 out:¬ c.L0 c.l∧¬ c.L0 c.b3∧¬ c.L0 c.b7∧¬ c.L0 c.b8∧¬ c.L0 c.rb
 ne:c.b3≠c.b8∧c.b7≠c.b8∧c.l≠c.b8∧c.l≠c.rb∧c.b3≠c.rb∧c.b7≠c.rb∧c.b8≠c.rb
 lt:c.b8 < c.w0.heap.size∧c.rb < c.w0.heap.size
 ge:8≤c.b8∧8≤c.rb∧8≤c.l
 deb:Deb c.w0
 low:∀ k,c.L0 k→8≤k
abbrev Sg:Type:=(Lard.LS×List (List UInt8×Lard.Wo))×Nat
def Sam (lb:Nat) (L:Nat→Prop) (w w':World):Prop :=
 K2 L w w'∧∀ hb,L hb→w.cell? ⟨lb,0,none⟩=some (.map (some hb))→w'.cell? ⟨lb,0,none⟩=some (.map (some hb))∧w'.heap[hb]? = w.heap[hb]?
theorem Sam.refl (lb:Nat) (L:Nat→Prop) (w:World):Sam lb L w w:=⟨fun _ _ _ _ _ h _=>h,fun _ _ h=>⟨h,rfl⟩⟩
theorem Sam.same {lb:Nat} {L L1:Nat→Prop} {w W W1:World} (h:Sam lb L w W) (hs:∀ k,L1 k→W1.heap[k]? = W.heap[k]?) (hL:∀ k,L k→L1 k) (hl:L1 lb):Sam lb L w W1 :=
 ⟨fun k hk cs t fz hc ht=>(hs k (hL k hk)).trans (h.1 k hk cs t fz hc ht),fun hb hk hc=>⟨(World.cell?_of_block (hs lb hl)).trans (h.2 hb hk hc).1,(hs hb (hL hb hk)).trans (h.2 hb hk hc).2⟩⟩
theorem Sam.frw {lb:Nat} {L L1:Nat→Prop} {w W W1:World} (h:Sam lb L w W) (hf:Frw lb L1 W W1) (hL:∀ k,L k→L1 k) (hlt:∀ k,L1 k→k < W.heap.size):Sam lb L w W1 :=
 ⟨fun k hk cs t fz hc ht=>hf.k2 k (hL k hk) cs t fz (h.1 k hk cs t fz hc ht) ht,fun hb hk hc=>by
  obtain ⟨h1,h2⟩:=h.2 hb hk hc
  obtain ⟨h3,h4⟩:=hf.hasm hb (hlt hb (hL hb hk)) h1
  exact ⟨h3,h4.trans h2⟩⟩
theorem LAt.here {w:World} {lb:Nat} {s:Lard.LS} {L:Nat→Prop} (h:LAt w lb s L):L lb:=by
 obtain ⟨hb,db,vb,vr,vn,vj,h⟩:=h
 exact h.here
def JL (c:Rc) (F:Nat→Prop) (σ:Sg) (W:World):Prop :=
 ∃ (L':Nat→Prop) (sl:Value),F=(fun k=>(k < c.w0.heap.size∧k≠c.rb)∨L' k∨sl.ownBlock=some k) ∧
  LAt W c.lb σ.1.1 L'∧(∀ k,L' k→c.L0 k∨c.w0.heap.size≤k)∧(∀ k,c.L0 k→L' k)∧c.w0.heap.size≤W.heap.size ∧
  (∀ k,k < c.w0.heap.size→¬ c.L0 k→k≠c.b8→k≠c.rb→W.heap[k]? = c.w0.heap[k]?) ∧
  W.heap[c.b8]? = some (.cells #[sl] 129 (0,0))∧NeedsAt W σ.1.2 sl∧(∀ g,sl.ownBlock=some g→c.w0.heap.size≤g∧¬ L' g) ∧
  Lard.Nst c.s0 σ.1.1 σ.2∧σ.1.2.length≤σ.2∧Phi σ.1.1≤Phi c.s0∧Sam c.lb c.L0 c.w0 W
theorem LAt.typed {w:World} {lb:Nat} {s:Lard.LS} {L:Nat→Prop} (h:LAt w lb s L):∀ k,L k→8≤k∧k < w.heap.size∧((∃ es c,w.heap[k]? = some (.map es c))∨∃ cs t fz,w.heap[k]? = some (.cells cs t fz)∧LT t):=by
 obtain ⟨hb,db,vb,vr,vn,vj,h⟩:=h
 exact fun k hk=>⟨(h.typed k hk).1,h.lt hk,(h.typed k hk).2⟩
theorem LAt.not {w:World} {lb:Nat} {s:Lard.LS} {L:Nat→Prop} (h:LAt w lb s L) {k:Nat} {cs:Array Value} {t:TypeId} {fz:Nat×Nat} (hk:w.heap[k]? = some (.cells cs t fz)) (ht:¬ LT t):¬ L k:=fun hl=>by
 rcases (h.typed k hl).2.2 with ⟨es,c,h1⟩ | ⟨cs',t',fz',h1,h2⟩
 ·rw [hk] at h1; cases h1
 ·rw [hk] at h1; cases h1; exact ht h2
theorem LAt.notObj {w:World} {lb:Nat} {s:Lard.LS} {L:Nat→Prop} (h:LAt w lb s L) {k:Nat} {o:Obj} (hk:w.heap[k]? = some o) (h1:∀ es c,o≠.map es c) (h2:∀ cs t fz,o≠.cells cs t fz):¬ L k:=fun hl=>by
 rcases (h.typed k hl).2.2 with ⟨es,c,h3⟩ | ⟨cs',t',fz',h3,_⟩
 ·rw [hk] at h3; cases h3; exact h1 _ _ rfl
 ·rw [hk] at h3; cases h3; exact h2 _ _ _ rfl
theorem not_lt_run:¬ LT 291:=by rintro (h | h | h | h | h | h | h) <;> cases h
theorem not_lt_needs:¬ LT 129:=by rintro (h | h | h | h | h | h | h) <;> cases h
theorem not_lt_ptr:¬ LT 29:=by rintro (h | h | h | h | h | h | h) <;> cases h
theorem not_lt_prun:¬ LT 242:=by rintro (h | h | h | h | h | h | h) <;> cases h
theorem not_lt_worth:¬ LT 113:=by rintro (h | h | h | h | h | h | h) <;> cases h
theorem stay_grown {w w':World} {b:Nat} (h:w.grownBy w' (some b)) (hb:∀ cs t fz,w.heap[b]? = some (.cells cs t fz)→¬ Imm t):Stay w w' :=
 Keeps.stay (fun k cs t fz hk ht=>(h.block k (lt_of_some hk) (fun e=>by cases e; exact hb cs t fz hk ht)).trans hk)
theorem grown_put (W:World) (l:Nat) (o:Obj):W.grownBy (W.putObj l o) (some l):=⟨rfl,rfl,rfl,by simp,fun k _ hk=>World.putObj_heap_other (fun e=>hk (by rw [e]))⟩
theorem JL.stab {c:Rc} (ok:RcOK c):∀ F σ w w',JL c F σ w→w.heap.size≤w'.heap.size→(∀ k,F k→w'.heap[k]? = w.heap[k]?)→Stay w w'→JL c F σ w':=by
 rintro F σ w w' ⟨L',sl,rfl,h1,h2,h2',h3,h4,h5,h6,h7,h8,h9,h10,h11⟩ hsz hF hst
 refine ⟨L',sl,rfl,h1.st (fun k hk=>hF k (.inr (.inl hk))) hst,h2,h2',Nat.le_trans h3 hsz,fun k hk hn hb hr=>(hF k (.inl ⟨hk,hr⟩)).trans (h4 k hk hn hb hr),(hF c.b8 (.inl ⟨ok.lt.1,ok.ne.2.2.2.2.2.2⟩)).trans h5,?_,h7,h8,h9,h10,h11.same (fun k hk=>hF k (.inr (.inl hk))) h2' h1.here⟩
 exact h6.st (fun g hg cs fz hb=>(hF g (.inr (.inr hg))).trans hb) hst
theorem JL.dom {c:Rc} (ok:RcOK c) {tree y tc ti wc wi:Value} {f:Nat}:∀ F σ w k,JL c F σ w→RunAt w c.rb tree y tc ti f wc wi→F k→k < w.heap.size∧k≠c.rb:=by
 rintro F σ w k ⟨L',sl,rfl,h1,h2,h2',h3,h4,h5,h6,h7,h8⟩ hr hk
 rcases hk with ⟨hk,hne⟩ | hk | hk
 ·exact ⟨by omega,hne⟩
 ·refine ⟨(h1.typed k hk).2.1,fun e=>?_⟩
  rw [e] at hk
  exact h1.not hr not_lt_run hk
 ·obtain ⟨cs,fz,hb⟩:=h6.typed k hk
  have hg:=(h7 k hk).1
  have:=ok.lt.2
  exact ⟨lt_of_some hb,by omega⟩
theorem JL.round {c:Rc} (ok:RcOK c) {F:Nat→Prop} {σ:Sg} {W:World} (hJ:JL c F σ W) {tree y tc ti wc wi:Value} {f:Nat} (hR:RunAt W c.rb tree y tc ti f wc wi) (g:G W) {busy:Loop} :
  ∃ (L':Nat→Prop) (sl:Value),LAt (W.putObj c.l (.loop busy)) c.lb σ.1.1 L'∧G (W.putObj c.l (.loop busy))∧Deb (W.putObj c.l (.loop busy)) ∧
   W.heap[c.l]? = some (.loop c.lp)∧NeedsAt W σ.1.2 sl ∧
   ∀ (r:Lard.Wo) (s2:Lard.LS) (w2:World) (x i:Value),LPost (W.putObj c.l (.loop busy)) c.lb L' s2 w2→IsW w2 r (.agg #[x,i])→Lard.Nst σ.1.1 s2 1→Phi s2≤Phi σ.1.1 →
    (∀ o,RunAt (w2.alloc o) c.rb tree y tc ti f wc wi)∧IsW (w2.alloc (.cells #[x,i] 113)) r (.agg #[x,i])∧w2.heap[c.b7]? = some (.cells #[ptr c.rb] 242 (0,0)) ∧
    ∀ (w4:World),(w2.alloc (.cells #[x,i] 113)).grownBy w4 (some c.rb)→RunAt w4 c.rb tree y x i f wc wi →
     G w4∧NeedsAt w4 σ.1.2 sl∧IsW w4 r (.agg #[x,i])∧w4.heap[c.b8]? = some (.cells #[sl] 129 (0,0))∧w4.heap[w2.heap.size]? = some (.cells #[x,i] 113 (0,0)) ∧
     ∀ (key:List UInt8) (w5:World) (sl':Value),NeedsAt w5 (Lard.withNeed σ.1.2 key r) sl'→Rw w4 w5 sl sl' →
      w5.heap[c.b8]? = some (.cells #[sl] 129 (0,0))∧(w5.setCell ⟨c.b8,0,none⟩ sl').heap[c.l]? = some (.loop busy) ∧
      ∃ F',IsW ((w5.setCell ⟨c.b8,0,none⟩ sl').putObj c.l (.loop c.lp)) r (.agg #[x,i])∧RunAt ((w5.setCell ⟨c.b8,0,none⟩ sl').putObj c.l (.loop c.lp)) c.rb tree y x i f wc wi ∧
       JL c F' ((s2,Lard.withNeed σ.1.2 key r),σ.2 + 1) ((w5.setCell ⟨c.b8,0,none⟩ sl').putObj c.l (.loop c.lp))∧(∀ k,F' k→F k∨W.heap.size≤k)∧Fm 8 W ((w5.setCell ⟨c.b8,0,none⟩ sl').putObj c.l (.loop c.lp)):=by
 obtain ⟨L',sl,rfl,h1,h2,h2',h3,h4,h5,h6,h7,h8,h9,h10,h11⟩:=hJ
 obtain ⟨o1,o2,o3,o4,o5⟩:=ok.out
 obtain ⟨n1,n2,n3,n4,n5,n6,n7⟩:=ok.ne
 obtain ⟨e1,e2,e3⟩:=ok.ge
 have hlw:W.heap[c.l]? = some (.loop c.lp):=(h4 c.l (Array.getElem?_eq_some_iff.1 ok.loop).1 o1 n3 n4).trans ok.loop
 have hl_lt:c.l < W.heap.size:=(Array.getElem?_eq_some_iff.1 hlw).1
 have hg1:=grown_put W c.l (.loop busy)
 have hkeep1:∀ (k:Nat) (cs:Array Value) (t:TypeId) (fz:Nat×Nat),W.heap[k]? = some (.cells cs t fz)→(W.putObj c.l (.loop busy)).heap[k]? = some (.cells cs t fz):=fun k cs t fz hk=>(hg1.block k (lt_of_some hk) (fun e=>by cases e; rw [hlw] at hk; cases hk)).trans hk
 have hst1:Stay W (W.putObj c.l (.loop busy)):=Keeps.stay (fun k cs t fz hk _=>hkeep1 k cs t fz hk)
 have hLl:¬ L' c.l:=h1.notObj hlw (fun _ _ e=>by cases e) (fun _ _ _ e=>by cases e)
 have hA1:LAt (W.putObj c.l (.loop busy)) c.lb σ.1.1 L':=h1.st (fun k hk=>hg1.block k (h1.typed k hk).2.1 (fun e=>by cases e; exact hLl hk)) hst1
 have hdebW:Deb W:=by
  have hd:=ok.deb
  unfold Deb at hd ⊢
  rw [←hd]
  refine World.cell?_of_block (h4 7 ?_ (fun h=>?_) ?_ ?_)
  ·have:=ok.lt.1; omega
  ·have:=ok.low _ h; omega
  ·omega
  ·omega
 have hB1:Below 8 W (W.putObj c.l (.loop busy)):=⟨rfl,rfl,rfl,by simp,fun k hk=>World.putObj_heap_other (by omega)⟩
 have g1:G (W.putObj c.l (.loop busy)):=g.below hB1 (Nat.le_refl _)
 refine ⟨L',sl,hA1,g1,hdebW.below hB1 (Nat.le_refl _),hlw,h6,fun r s2 w2 x i hP hW2 hN hPhi=>?_⟩
 obtain ⟨L2,p1,p2,p3,p4⟩:=hP
 have hsz2:W.heap.size≤w2.heap.size:=by have:=p4.size; simpa using this
 have hLrb:¬ L' c.rb:=h1.not hR not_lt_run
 have hLb8:¬ L' c.b8:=h1.not h5 not_lt_needs
 have hb7W:W.heap[c.b7]? = some (.cells #[ptr c.rb] 242 (0,0)):=(h4 c.b7 (lt_of_some ok.c7) o3 n2 n6).trans ok.c7
 have hLb7:¬ L' c.b7:=h1.not hb7W not_lt_prun
 have hkeep2:∀ (k:Nat) (cs:Array Value) (t:TypeId) (fz:Nat×Nat),W.heap[k]? = some (.cells cs t fz)→¬ L' k→w2.heap[k]? = some (.cells cs t fz):=fun k cs t fz hk hn=>(p4.block k (by simpa using lt_of_some hk) hn).trans (hkeep1 k cs t fz hk)
 have hR2:RunAt w2 c.rb tree y tc ti f wc wi:=hkeep2 _ _ _ _ hR hLrb
 have hl2:w2.heap[c.l]? = some (.loop busy):=(p4.block c.l (by simpa using hl_lt) hLl).trans (World.putObj_heap_same hl_lt)
 have hB3:Below w2.heap.size w2 (w2.alloc (.cells #[x,i] 113)):=(Below.refl _ _).alloc (Nat.le_refl _) _
 have hstW2:Stay W w2:=hst1.trans (frm_keeps hA1 p4.toFrm).stay
 refine ⟨fun o=>(Below.heap_alloc w2 o c.rb (lt_of_some hR2)).trans hR2,hW2.keeps (Keeps.below hB3),hkeep2 _ _ _ _ hb7W hLb7,fun w4 hg4 hR4=>?_⟩
 have hB38:Below 8 w2 (w2.alloc (.cells #[x,i] 113)):=hB3.mono (by have:=g.size; omega)
 have hR3:RunAt (w2.alloc (.cells #[x,i] 113)) c.rb tree y tc ti f wc wi:=(Below.heap_alloc w2 _ c.rb (lt_of_some hR2)).trans hR2
 have hst34:Stay (w2.alloc (.cells #[x,i] 113)) w4:=stay_grown hg4 (fun cs t fz hb=>by
  rw [RunAt] at hR3
  rw [hR3] at hb; cases hb
  rintro (h | h | h) <;> cases h)
 have hst24:Stay w2 w4:=(Stay.below hB3).trans hst34
 have hkeep4:∀ k o,w2.heap[k]? = some o→k≠c.rb→w4.heap[k]? = some o:=fun k o hk hne=>by
  have hlt:k < w2.heap.size:=(Array.getElem?_eq_some_iff.1 hk).1
  exact (hg4.block k (by simp; omega) (fun e=>hne (by cases e; rfl))).trans ((Below.heap_alloc w2 _ k hlt).trans hk)
 have g2:G w2:=frm_g hA1 p4.toFrm g1
 have g4:G w4:=(g2.below hB38 (Nat.le_refl _)).below (B:=8) ((Below.refl 8 _).grown hg4 (by have:=g2.size; simp; omega) (fun k hk=>by cases hk; exact e2)) (Nat.le_refl _)
 have hb8_2:w2.heap[c.b8]? = some (.cells #[sl] 129 (0,0)):=hkeep2 _ _ _ _ h5 hLb8
 have hb8_4:=hkeep4 _ _ hb8_2 n7
 have hrow2:∀ gk,sl.ownBlock=some gk→∀ (cs:Array Value) (fz:Nat×Nat),W.heap[gk]? = some (.cells cs 133 fz)→w4.heap[gk]? = some (.cells cs 133 fz):=fun gk hgk cs fz hb=>by
  have hne:gk≠c.rb:=by have:=(h7 gk hgk).1; have:=ok.lt.2; omega
  exact hkeep4 _ _ (hkeep2 _ _ _ _ hb (h7 gk hgk).2) hne
 have hN4:NeedsAt w4 σ.1.2 sl:=h6.st hrow2 (hstW2.trans hst24)
 have hbx4:w4.heap[w2.heap.size]? = some (.cells #[x,i] 113 (0,0)):=by
  have hne:w2.heap.size≠c.rb:=by have:=lt_of_some hR2; omega
  exact (hg4.block w2.heap.size (by simp) (fun e=>hne (Option.some.inj e))).trans (heap_alloc_new w2 _)
 refine ⟨g4,hN4,hW2.st hst24,hb8_4,hbx4,fun key w5 sl' hN5 hRw=>?_⟩
 have hrowlt:∀ gk,sl.ownBlock=some gk→c.w0.heap.size≤gk∧gk < W.heap.size:=fun gk hgk=>by
  obtain ⟨cs,fz,hb⟩:=h6.typed gk hgk
  exact ⟨(h7 gk hgk).1,lt_of_some hb⟩
 have hsz4:w2.heap.size + 1≤w4.heap.size:=by have:=hg4.size; simpa using this
 have hkeep5:∀ k o,w4.heap[k]? = some o→sl.ownBlock≠some k→w5.heap[k]? = some o:=fun k o hk hne=>(hRw.block k (Array.getElem?_eq_some_iff.1 hk).1 hne).trans hk
 have hlow:∀ k,k < c.w0.heap.size→sl.ownBlock≠some k:=fun k hk e=>by have:=(hrowlt k e).1; omega
 have hb8_5:=hkeep5 _ _ hb8_4 (hlow _ ok.lt.1)
 have hl5:w5.heap[c.l]? = some (.loop busy):=hkeep5 _ _ (hkeep4 _ _ hl2 n4) (hlow _ (Array.getElem?_eq_some_iff.1 ok.loop).1)
 have hR5:RunAt w5 c.rb tree y x i f wc wi:=hkeep5 _ _ hR4 (hlow _ ok.lt.2)
 have hl6:(w5.setCell ⟨c.b8,0,none⟩ sl').heap[c.l]? = some (.loop busy):=(Below.heap_setCell w5 ⟨c.b8,0,none⟩ sl' c.l n3).trans hl5
 refine ⟨hb8_5,hl6,?_⟩
 have hg6:=grown_set (World.grownBy.refl w5 (some c.b8)) 0 sl'
 have hg7:=grown_put (w5.setCell ⟨c.b8,0,none⟩ sl') c.l (.loop c.lp)
 have hst56:Stay w5 (w5.setCell ⟨c.b8,0,none⟩ sl'):=stay_grown hg6 (fun cs t fz hb=>by
  rw [hb8_5] at hb; cases hb
  rintro (h | h | h) <;> cases h)
 have hst67:Stay (w5.setCell ⟨c.b8,0,none⟩ sl') ((w5.setCell ⟨c.b8,0,none⟩ sl').putObj c.l (.loop c.lp)):=stay_grown hg7 (fun cs t fz hb=>by rw [hl6] at hb; cases hb)
 have hst57:=hst56.trans hst67
 have hkeep7:∀ k o,w5.heap[k]? = some o→k≠c.b8→k≠c.l→((w5.setCell ⟨c.b8,0,none⟩ sl').putObj c.l (.loop c.lp)).heap[k]? = some o:=fun k o hk hn hl=>(World.putObj_heap_other hl).trans ((Below.heap_setCell w5 ⟨c.b8,0,none⟩ sl' k hn).trans hk)
 have hst27:Stay w2 ((w5.setCell ⟨c.b8,0,none⟩ sl').putObj c.l (.loop c.lp)):=(hst24.trans hRw.stay).trans hst57
 have hL2rb:¬ L2 c.rb:=p1.not hR2 not_lt_run
 have hL2b8:¬ L2 c.b8:=p1.not hb8_2 not_lt_needs
 have hL2l:¬ L2 c.l:=p1.notObj hl2 (fun _ _ e=>by cases e) (fun _ _ _ e=>by cases e)
 have hL2row:∀ gk,sl.ownBlock=some gk→¬ L2 gk:=fun gk hgk hl=>by
  rcases p2 gk hl with h | h
  ·exact (h7 gk hgk).2 h
  ·have:=(hrowlt gk hgk).2
   simp at h
   omega
 have hsame27:∀ k,L2 k→((w5.setCell ⟨c.b8,0,none⟩ sl').putObj c.l (.loop c.lp)).heap[k]? = w2.heap[k]? := fun k hk=>by
  obtain ⟨_,hlt,_⟩:=p1.typed k hk
  obtain ⟨o,ho⟩:∃ o,w2.heap[k]? = some o:=⟨_,Array.getElem?_eq_getElem hlt⟩
  rw [ho]
  exact hkeep7 k o (hkeep5 k o (hkeep4 k o ho (fun e=>hL2rb (e ▸ hk))) (fun e=>hL2row k e hk)) (fun e=>hL2b8 (e ▸ hk)) (fun e=>hL2l (e ▸ hk))
 have hsz7:W.heap.size≤((w5.setCell ⟨c.b8,0,none⟩ sl').putObj c.l (.loop c.lp)).heap.size:=by
  have:=hRw.size
  simp [World.setCell]
  omega
 -- what of the old blocks stays
 have hold:∀ k o,W.heap[k]? = some o→¬ L' k→k≠c.b8→k≠c.rb→sl.ownBlock≠some k→((w5.setCell ⟨c.b8,0,none⟩ sl').putObj c.l (.loop c.lp)).heap[k]? = some o:=fun k o hk hn hb hr hs=>by
  by_cases hkl:k=c.l
  ·subst hkl
   rw [hlw] at hk; cases hk
   exact World.putObj_heap_same (Array.getElem?_eq_some_iff.1 hl6).1
  ·have hlt:k < W.heap.size:=(Array.getElem?_eq_some_iff.1 hk).1
   have h2k:w2.heap[k]? = some o:=(p4.block k (by simpa using hlt) hn).trans ((World.putObj_heap_other hkl).trans hk)
   exact hkeep7 k o (hkeep5 k o (hkeep4 k o h2k hr) hs) hb hkl
 have hsam7:Sam c.lb c.L0 c.w0 ((w5.setCell ⟨c.b8,0,none⟩ sl').putObj c.l (.loop c.lp)) :=
  ((h11.same (fun k hk=>hg1.block k (h1.typed k hk).2.1 (fun e=>by cases e; exact hLl hk)) h2' h1.here).frw p4 h2' (fun k hk=>(hA1.typed k hk).2.1)).same hsame27 (fun k hk=>p3 k (h2' k hk)) p1.here
 refine ⟨fun k=>(k < c.w0.heap.size∧k≠c.rb)∨L2 k∨sl'.ownBlock=some k,hW2.st hst27,hkeep7 _ _ hR5 (fun e=>n7 e.symm) (fun e=>n4 e.symm),⟨L2,sl',rfl,p1.st hsame27 hst27,fun k hk=>?_,fun k hk=>p3 k (h2' k hk),Nat.le_trans h3 hsz7,fun k hk hn hb hr=>?_,?_,?_,fun gk hgk=>?_,?_,?_,Nat.le_trans hPhi h10,hsam7⟩,fun k hk=>?_,?_⟩
 ·rcases p2 k hk with h | h
  ·exact h2 k h
  ·simp at h
   exact .inr (by omega)
 ·rw [←h4 k hk hn hb hr]
  obtain ⟨o,ho⟩:∃ o,W.heap[k]? = some o:=⟨_,Array.getElem?_eq_getElem (by omega)⟩
  rw [ho]
  refine hold k o ho (fun hl=>?_) hb hr (hlow k hk)
  rcases h2 k hl with h | h
  ·exact hn h
  ·omega
 ·exact (World.putObj_heap_other (fun e=>n3 e.symm)).trans (blk_cell hb8_5 0 sl')
 ·exact hN5.st (fun gk hgk cs fz hb=>hkeep7 _ _ hb (fun e=>by rw [e,hb8_5] at hb; cases hb) (fun e=>by rw [e,hl5] at hb; cases hb)) hst57
 ·rcases hRw.loc gk hgk with h | h
  ·exact ⟨(hrowlt gk h).1,hL2row gk h⟩
  ·refine ⟨by omega,fun hl=>?_⟩
   have:=(p1.typed gk hl).2.1
   omega
 ·exact h8.trans hN
 ·have:=Lard.withNeed_len σ.1.2 key r
  show (Lard.withNeed σ.1.2 key r).length≤σ.2 + 1
  omega
 ·rcases hk with hk | hk | hk
  ·exact .inl (.inl hk)
  ·rcases p2 k hk with h | h
   ·exact .inl (.inr (.inl h))
   ·simp at h
    exact .inr (by omega)
  ·rcases hRw.loc k hk with h | h
   ·exact .inl (.inr (.inr h))
   ·exact .inr (by omega)
 ·refine ⟨⟨?_,?_,?_,hsz7,fun k hk=>?_⟩,fun k cs t fz hk ht=>?_⟩
  ·show w5.os=W.os
   rw [hRw.os,hg4.os]
   exact p4.os
  ·show w5.tape=W.tape
   rw [hRw.tape,hg4.tape]
   exact p4.tape
  ·show w5.output=W.output
   rw [hRw.output,hg4.output]
   exact p4.output
  ·obtain ⟨o,ho⟩:∃ o,W.heap[k]? = some o:=⟨_,Array.getElem?_eq_getElem (by have:=g.size; omega)⟩
   rw [ho]
   exact hold k o ho (fun hl=>by have:=(h1.typed k hl).1; omega) (by omega) (by omega) (hlow k (by have:=ok.lt.1; omega))
  ·refine hold k _ hk (h1.not hk (fun h=>h.imm ht)) (fun e=>?_) (fun e=>?_) (fun e=>?_)
   ·rw [e,h5] at hk; cases hk; rcases ht with (h | h | h) | h | h <;> cases h
   ·rw [RunAt] at hR; rw [e,hR] at hk; cases hk; rcases ht with (h | h | h) | h | h <;> cases h
   ·obtain ⟨cs',fz',hb⟩:=h6.typed k e
    rw [hk] at hb; cases hb; rcases ht with (h | h | h) | h | h <;> cases h
end
end Go.Proofs.YtpekpdimdelncaaGreatDoor
