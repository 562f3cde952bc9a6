/- Out of: L16, L17. -/
import Derived.Test.YtpekpdimdelncaaGreatDoorP19
set_option linter.unusedVariables false
set_option linter.unusedSimpArgs false
namespace Go.Proofs.YtpekpdimdelncaaGreatDoor
section
open Go.RowKit Go.Shelf
attribute [local go_sem] Oper.semAt_some
def BSays (lb:Nat) (Br:List UInt8→Lard.LS→Lard.Wo×Lard.LS) (P:Lard.LS→Prop):Prop :=
 ∀ (W:World) (s:Lard.LS) (L:Nat→Prop) (key:ByteArray),LAt W lb s L→G W→Deb W→P s→key.size≤200 →
  Calls Tryz.prog 49 #[ptr lb,.string key] W fun e w'=>∃ x,e=.returned x∧IsW w' (Br key.data.toList s).1 x∧LPost W lb L (Br key.data.toList s).2 w'∧Phi (Br key.data.toList s).2≤Phi s∧Lard.Nst s (Br key.data.toList s).2 1
def needN (Br:List UInt8→Lard.LS→Lard.Wo×Lard.LS) (key:List UInt8) (σ:Sg):Except Nat Lard.V×Sg :=
 ((Br key σ.1.1).1,(((Br key σ.1.1).2,Lard.withNeed σ.1.2 key (Br key σ.1.1).1),σ.2 + 1))
def envOf (c:Rc) (Br:List UInt8→Lard.LS→Lard.Wo×Lard.LS) (tree:Value):Env where
 σ:=Sg
 N:=needN Br
 cnt:=fun σ=>σ.2
 J:=JL c
 rb:=c.rb
 l:=c.l
 base:=8
 tree:=tree
 wc:=.int .i64 0
 wi:=.nilIface
theorem JL.dom' {c:Rc} (ok:RcOK c):∀ F σ w k,JL c F σ w→F k→k < w.heap.size∧k≠c.rb:=by
 rintro F σ w k ⟨L',sl,rfl,h1,h2,h2',h3,h4,h5,h6,h7,h8⟩ hk
 rcases hk with ⟨hk,hne⟩ | hk | hk
 ·exact ⟨by omega,hne⟩
 ·refine ⟨(h1.typed k hk).2.1,fun e=>?_⟩
  rw [e] at hk
  rcases h2 _ hk with h | h
  ·exact ok.out.2.2.2.2 h
  ·have:=ok.lt.2; omega
 ·obtain ⟨cs,fz,hb⟩:=h6.typed k hk
  have hg:=(h7 k hk).1
  have:=ok.lt.2
  exact ⟨lt_of_some hb,by omega⟩
theorem envOf_ok {c:Rc} (ok:RcOK c) (Br:List UInt8→Lard.LS→Lard.Wo×Lard.LS) (tree:Value)
  (hy:∀ (key:ByteArray) F s w f tc ti,JL c F s w→RunAt w c.rb tree (.func (.yield c.l) #[] #[]) tc ti f (.int .i64 0) .nilIface→G w→key.size≤200→s.2 + f < 400 →
  YieldAt Fence.wide 0 Tryz.prog c.l #[.string key] w fun e w'=>e=.returned (.bool true)∧∃ x i F',IsW w' (needN Br key.data.toList s).1 (.agg #[x,i])∧RunAt w' c.rb tree (.func (.yield c.l) #[] #[]) x i f (.int .i64 0) .nilIface∧JL c F' (needN Br key.data.toList s).2 w'∧(∀ k,F' k→F k∨w.heap.size≤k)∧Fm 8 w w'):EnvOK (envOf c Br tree) where
 stab:=JL.stab ok
 dom:=JL.dom' ok
 cntN:=fun key s=>Nat.le_refl _
 base8:=Nat.le_refl _
 baser:=ok.ge.2.1
 yields:=hy
theorem cell_snd {W:World} {k:Nat} {a b:Value} {t:TypeId} {fz:Nat×Nat} (h:W.heap[k]? = some (.cells #[a,b] t fz)):W.cell? ⟨k,1,none⟩=some b:=by simp [World.cell?,h]
theorem named_loop {C:World→Prop} {W:World} (lp0:Loop) (H:∀ lp,lp=lp0→C (W.alloc (.loop lp))):C (W.alloc (.loop lp0)):=H _ rfl
theorem rc_begin {w w1 Wb:World} {lb n:Nat} {s:Lard.LS} {L:Nat→Prop} (h:LAt w lb s L) (g:G w) (hd:Deb w) (hn:w.heap.size=n) {b:Nat}
  (hR1:RunAt w1 (n + 1 + 1) (ptr b) .nilFunc (.int .i64 0) .nilIface 400 (.int .i64 0) .nilIface)
  (hB1:Below (n + 1 + 1) ((w.alloc (.cells #[ptr lb] 29)).alloc (.cells #[.int .i64 0,.nilIface] 113)) w1) (hs1:w1.heap.size=n + 1 + 1 + 1)
  (hWb:(w1.alloc (.cells #[ptr (n + 1 + 1)] 242)).alloc (.cells #[.slice none 0 0] 129)=Wb) (lp:Loop) (hr:lp.state=.ready) (hp:lp.pending=none) :
  ∃ c:Rc,c=⟨lb,n + 1 + 1,n,n + 1 + 1 + 1,n + 1 + 1 + 1 + 1,n + 5 + 1,(Wb.alloc (.deferred (some []))).alloc (.loop lp),L,s,lp⟩∧RcOK c∧(∃ F,JL c F ((s,[]),0) c.w0∧∀ k,F k→k < c.w0.heap.size)∧G c.w0∧Below n w c.w0∧c.w0.heap.size=n + 7∧c.w0.heap[n + 5]? = some (.deferred (some []))∧c.w0.heap[n + 1]? = some (.cells #[.int .i64 0,.nilIface] 113 (0,0))∧RunAt c.w0 c.rb (ptr b) .nilFunc (.int .i64 0) .nilIface 400 (.int .i64 0) .nilIface:=by
 have hszb:Wb.heap.size=n + 5:=by rw [←hWb]; simp [hs1]
 have hsz:((Wb.alloc (.deferred (some []))).alloc (.loop lp)).heap.size=n + 7:=by simp [hszb]
 have hBw:Below n w ((w.alloc (.cells #[ptr lb] 29)).alloc (.cells #[.int .i64 0,.nilIface] 113)):=((Below.refl _ _).alloc (by omega) _).alloc (by simp; omega) _
 have hB2:Below n w w1:=hBw.trans (hB1.mono (by omega))
 have hBb:Below (n + 1 + 1 + 1) w1 Wb:=by rw [←hWb]; exact ((Below.refl _ _).alloc (by omega) _).alloc (by simp; omega) _
 have hBc:Below (n + 5) Wb ((Wb.alloc (.deferred (some []))).alloc (.loop lp)):=((Below.refl _ _).alloc (by omega) _).alloc (by simp; omega) _
 have hB:Below n w ((Wb.alloc (.deferred (some []))).alloc (.loop lp)):=(hB2.trans (hBb.mono (by omega))).trans (hBc.mono (by omega))
 have h8:8≤n:=by have:=g.size; omega
 have hLlt:∀ k,L k→k < n:=fun k hk=>by have:=(h.typed k hk).2.1; omega
 have e1:∀ k,k < n + 3→((Wb.alloc (.deferred (some []))).alloc (.loop lp)).heap[k]? = w1.heap[k]? := fun k hk=>(hBc.block k (by omega)).trans (hBb.block k (by omega))
 have e0:∀ k,k < n + 2→((Wb.alloc (.deferred (some []))).alloc (.loop lp)).heap[k]? = ((w.alloc (.cells #[ptr lb] 29)).alloc (.cells #[.int .i64 0,.nilIface] 113)).heap[k]? := fun k hk=>(e1 k (by omega)).trans (hB1.block k (by omega))
 have b3:((Wb.alloc (.deferred (some []))).alloc (.loop lp)).heap[n]? = some (.cells #[ptr lb] 29 (0,0)):=(e0 n (by omega)).trans ((Below.heap_alloc _ _ _ (by simp; omega)).trans (by rw [←hn]; exact heap_alloc_new w _))
 have b6:((Wb.alloc (.deferred (some []))).alloc (.loop lp)).heap[n + 1]? = some (.cells #[.int .i64 0,.nilIface] 113 (0,0)):=(e0 (n + 1) (by omega)).trans (by have:=heap_alloc_new (w.alloc (.cells #[ptr lb] 29)) (.cells #[.int .i64 0,.nilIface] 113); rw [World.size_alloc,hn] at this; exact this)
 have b7:((Wb.alloc (.deferred (some []))).alloc (.loop lp)).heap[n + 1 + 1 + 1]? = some (.cells #[ptr (n + 1 + 1)] 242 (0,0)):=(hBc.block _ (by omega)).trans (by rw [←hWb,←hs1]; exact (Below.heap_alloc _ _ _ (by simp)).trans (heap_alloc_new w1 _))
 have b8:((Wb.alloc (.deferred (some []))).alloc (.loop lp)).heap[n + 1 + 1 + 1 + 1]? = some (.cells #[.slice none 0 0] 129 (0,0)):=(hBc.block _ (by omega)).trans (by have:=heap_alloc_new (w1.alloc (.cells #[ptr (n + 1 + 1)] 242)) (.cells #[.slice none 0 0] 129); rw [World.size_alloc,hs1,hWb] at this; exact this)
 have bd:((Wb.alloc (.deferred (some []))).alloc (.loop lp)).heap[n + 5]? = some (.deferred (some [])):=(Below.heap_alloc _ _ _ (by simp; omega)).trans (by rw [←hszb]; exact World.alloc_heap_new Wb _)
 have bl:((Wb.alloc (.deferred (some []))).alloc (.loop lp)).heap[n + 5 + 1]? = some (.loop lp):=by have:=World.alloc_heap_new (Wb.alloc (.deferred (some []))) (.loop lp); rw [World.size_alloc,hszb] at this; exact this
 have hR:RunAt ((Wb.alloc (.deferred (some []))).alloc (.loop lp)) (n + 1 + 1) (ptr b) .nilFunc (.int .i64 0) .nilIface 400 (.int .i64 0) .nilIface:=(e1 _ (by omega)).trans hR1
 have hst:Stay w ((Wb.alloc (.deferred (some []))).alloc (.loop lp)):=Stay.below (by rw [hn]; exact hB)
 have hA:LAt ((Wb.alloc (.deferred (some []))).alloc (.loop lp)) lb s L:=h.st (fun k hk=>hB.block k (hLlt k hk)) hst
 refine ⟨_,rfl,⟨bl,hr,hp,b3,b7,?_,?_,?_,?_,hd.below hB h8,fun k hk=>(h.typed k hk).1⟩,⟨_,⟨L,.slice none 0 0,rfl,hA,fun k hk=>.inl hk,fun k hk=>hk,Nat.le_refl _,fun _ _ _ _ _=>rfl,b8,⟨[],World.ownsRow_nil _ _ _ _,rfl,fun i n q hn=>by simp at hn⟩,fun g hg=>(by cases hg),Lard.Nst.refl _ _,Nat.le_refl _,Nat.le_refl _,Sam.refl _ _ _⟩,?_⟩,g.below hB h8,hB,hsz,bd,b6,hR⟩
 ·have hno:∀ k,n≤k→¬ L k:=fun k h hk=>(by have:=hLlt _ hk; omega)
  exact ⟨hno (n + 5 + 1) (by omega),hno n (by omega),hno (n + 1 + 1 + 1) (by omega),hno (n + 1 + 1 + 1 + 1) (by omega),hno (n + 1 + 1) (by omega)⟩
 ·show n≠n + 1 + 1 + 1 + 1∧n + 1 + 1 + 1≠n + 1 + 1 + 1 + 1∧n + 5 + 1≠n + 1 + 1 + 1 + 1∧n + 5 + 1≠n + 1 + 1∧n≠n + 1 + 1∧n + 1 + 1 + 1≠n + 1 + 1∧n + 1 + 1 + 1 + 1≠n + 1 + 1
  omega
 ·show n + 1 + 1 + 1 + 1 < _∧n + 1 + 1 < _
  rw [hsz]; omega
 ·show 8≤n + 1 + 1 + 1 + 1∧8≤n + 1 + 1∧8≤n + 5 + 1
  omega
 ·intro k hk
  show k < ((Wb.alloc (.deferred (some []))).alloc (.loop lp)).heap.size
  rcases hk with ⟨hk,_⟩ | hk | hk
  ·exact hk
  ·have:=hLlt k hk; omega
  ·cases hk
def NL (W W':World):Prop:=W.heap.size≤W'.heap.size∧∀ (k:Nat) (o:Obj),W.heap[k]? = some o→(∀ es c,o≠.map es c)→(∀ cs t fz,o=.cells cs t fz→¬ LT t)→W'.heap[k]? = some o
theorem NL.below {W W':World} (h:Below W.heap.size W W'):NL W W':=⟨h.size,fun k o hk _ _=>(h.block k (Array.getElem?_eq_some_iff.1 hk).1).trans hk⟩
theorem NL.post {W W':World} {lb:Nat} {s s':Lard.LS} {L:Nat→Prop} (h:LAt W lb s L) (hp:LPost W lb L s' W'):NL W W':=by
 obtain ⟨L',_,_,_,hf⟩:=hp
 refine ⟨hf.size,fun k o hk h1 h2=>(hf.block k (Array.getElem?_eq_some_iff.1 hk).1 (fun hl=>?_)).trans hk⟩
 rcases (h.typed k hl).2.2 with ⟨es,c,h3⟩ | ⟨cs,t,fz,h3,h4⟩
 ·rw [hk] at h3; cases h3; exact h1 _ _ rfl
 ·rw [hk] at h3; cases h3; exact h2 _ _ _ rfl h4
structure Blk (n:Nat) (W:World) (x i:Value):Prop where
 b6:W.heap[n + 1]? = some (.cells #[.int .i64 0,.nilIface] 113 (0,0))
 b7:W.heap[n + 1 + 1 + 1]? = some (.cells #[ptr (n + 1 + 1)] 242 (0,0))
 def_:W.heap[n + 5]? = some (.deferred (some []))
 run:∃ tree y tc ti f,RunAt W (n + 1 + 1) tree y tc ti f x i
theorem Blk.nl {n:Nat} {W W':World} {x i:Value} (h:Blk n W x i) (hn:NL W W'):Blk n W' x i:=by
 obtain ⟨h1,h2,h3,tree,y,tc,ti,f,h4⟩:=h
 refine ⟨hn.2 _ _ h1 (fun _ _ e=>by cases e) (fun _ _ _ e=>by cases e; exact not_lt_worth),hn.2 _ _ h2 (fun _ _ e=>by cases e) (fun _ _ _ e=>by cases e; exact not_lt_prun),hn.2 _ _ h3 (fun _ _ e=>by cases e) (fun _ _ _ e=>by cases e),tree,y,tc,ti,f,hn.2 _ _ h4 (fun _ _ e=>by cases e) (fun _ _ _ e=>by cases e; exact not_lt_run)⟩
theorem LPost.high {w W W':World} {lb:Nat} {s:Lard.LS} {L:Nat→Prop} (h:LPost w lb L s W) (ho:W'.os=W.os) (ht:W'.tape=W.tape) (hu:W'.output=W.output) (hsz:W.heap.size≤W'.heap.size) (hlow:∀ k,k < w.heap.size→W'.heap[k]? = W.heap[k]?)
  (hl:∀ (k:Nat) (o:Obj),W.heap[k]? = some o→((∃ es c,o=.map es c)∨∃ cs t fz,o=.cells cs t fz∧LT t)→W'.heap[k]? = some o) (hst:Stay W W'):LPost w lb L s W':=by
 obtain ⟨L',h1,h2,h3,h4⟩:=h
 refine ⟨L',h1.st (fun k hk=>?_) hst,h2,h3,⟨⟨ho.trans h4.os,ht.trans h4.tape,hu.trans h4.output,Nat.le_trans h4.size hsz,fun k hk hn=>(hlow k hk).trans (h4.block k hk hn)⟩,fun k hk cs t fz hc hkt=>(hlow k (lt_of_some hc)).trans (h4.k2 k hk cs t fz hc hkt),fun hb hlt hc=>?_⟩⟩
 ·rcases (h1.typed k hk).2.2 with ⟨es,c,h5⟩ | ⟨cs,t,fz,h5,h6⟩
  ·rw [h5]; exact hl _ _ h5 (.inl ⟨_,_,rfl⟩)
  ·rw [h5]; exact hl _ _ h5 (.inr ⟨_,_,_,rfl,h6⟩)
 ·obtain ⟨h5,h6⟩:=h4.hasm hb hlt hc
  have hlb:lb < w.heap.size:=by
   refine Decidable.byContradiction fun hn=>?_
   have:w.heap[lb]? = none:=Array.getElem?_eq_none_iff.2 (by omega)
   simp [World.cell?,this] at hc
  exact ⟨(World.cell?_of_block (hlow lb hlb)).trans h5,(hlow hb hlt).trans h6⟩
theorem LPost.keepAt {w W:World} {lb kb:Nat} {s:Lard.LS} {L:Nat→Prop} {x i sl:Value} {r:Lard.Wo} {ns:List (List UInt8×Lard.Wo)} (h:LPost w lb L s W) (h8:8≤w.heap.size) (hk:W.heap[kb]? = some (.cells #[x,i,sl] 131 (0,0))) (hkb:w.heap.size≤kb) (hN:NeedsAt W ns sl) (ho:∀ g,sl.ownBlock=some g→w.heap.size≤g) (hW:IsW W r (.agg #[x,i])) (hl:ns.length≤401) :
  ∃ L2,LAt W lb s L2∧KeepAt W L2 ⟨r,ns⟩ kb∧∀ s2 w2,LPost W lb L2 s2 w2→LPost w lb L s2 w2:=by
 obtain ⟨L',⟨hb,db,vb,vr,vn,vj,h1⟩,h2,h3,h4⟩:=h
 have hm:∀ k,L' k→(L' k∨k=kb∨sl.ownBlock=some k):=fun k hk=>.inl hk
 have hlat:LAt W lb s (fun k=>L' k∨k=kb∨sl.ownBlock=some k):=⟨hb,db,vb,vr,vn,vj,{
  blk:=h1.blk
  here:=.inl h1.here
  ne:=h1.ne
  has:=h1.has.mono hm
  done:=h1.done.mono hm
  begun:=h1.begun
  ring:=h1.ring
  ran:=h1.ran
  jr:=h1.jr
  mine:=fun g hg=>.inl (h1.mine g hg)
  apart:=h1.apart
  rnil:=h1.rnil
  typed:=fun k hk'=>by
   rcases hk' with hk' | rfl | hk'
   ·exact h1.typed k hk'
   ·exact ⟨by omega,.inr ⟨_,_,_,hk,.inr (.inr (.inr (.inr (.inr (.inl rfl)))))⟩⟩
   ·obtain ⟨cs,fz,hc⟩:=hN.typed k hk'
    have:=ho k hk'
    exact ⟨by omega,.inr ⟨_,_,_,hc,.inr (.inr (.inr (.inr (.inr (.inr rfl)))))⟩⟩ }⟩
 have hw:LPost w lb L s W:=⟨_,hlat,fun k hk'=>by
  rcases hk' with hk' | rfl | hk'
  ·exact h2 k hk'
  ·exact .inr hkb
  ·exact .inr (ho k hk'),fun k hk'=>.inl (h3 k hk'),h4⟩
 refine ⟨_,hlat,⟨x,i,sl,hk,.inr (.inl rfl),hW,hN,fun g hg=>.inr (.inr hg),hl⟩,fun s2 w2 hp=>?_⟩
 obtain ⟨L2,g1,g2,g3,g4⟩:=hp
 refine ⟨L2,g1,fun k hk'=>?_,fun k hk'=>g3 k (.inl (h3 k hk')),h4.trans g4 (fun k hk'=>?_) (fun k hk'=>.inl (h3 k hk'))⟩
 ·rcases g2 k hk' with (hk' | rfl | hk') | hk'
  ·exact h2 k hk'
  ·exact .inr hkb
  ·exact .inr (ho k hk')
  ·have:=h4.size
   exact .inr (by omega)
 ·rcases hk' with hk' | rfl | hk'
  ·exact h2 k hk'
  ·exact .inr hkb
  ·exact .inr (ho k hk')
theorem run_tail {w W:World} {lb n:Nat} {s:Lard.LS} {L:Nat→Prop} {x i:Value} {r:Lard.Wo} (hn:w.heap.size=n) (hP:LPost w lb L s W) (hb:Blk n W x i) (hW:IsW W r (.agg #[x,i])) :
  W.cell? ⟨n + 1 + 1 + 1,0,none⟩=some (.pointer (some ⟨n + 1 + 1,0,none⟩)) ∧
  Calls Tryz.prog 164 #[.pointer (some ⟨n + 1 + 1,0,none⟩)] W fun e W6=>e=.returned (.agg #[x,i])∧W6.cell? ⟨n + 1,0,none⟩=some (.int .i64 0)∧W6.cell? ⟨n + 1,1,none⟩=some .nilIface∧W6.frozen? ⟨n + 1,0,none⟩=false∧W6.frozen? ⟨n + 1,1,none⟩=false ∧
   ∃ Wf,(Instr.takeDeferred (n + 5)).run Tryz.prog ((W6.setCell ⟨n + 1,0,none⟩ x).setCell ⟨n + 1,1,none⟩ i)=.ok [] Wf∧Wf.heap[n + 1]? = some (.cells #[x,i] 113 (0,0))∧LPost w lb L s Wf∧IsW Wf r (.agg #[x,i]):=by
 have hb0:=hb
 obtain ⟨h1,h2,h3,tree,y,tc,ti,f,h4⟩:=hb
 refine ⟨by simp [World.cell?,h2,ptr],(worth_any _ _ _ _ _ _ _ _ _ _ h4 hW).mono ?_⟩
 rintro e W6 ⟨rfl,hB,hs⟩
 have hb6:=hb0.nl (NL.below hB)
 have e6:=hb6.b6
 refine ⟨rfl,by simp [World.cell?,e6],by simp [World.cell?,e6],by simp [World.frozen?,e6],by simp [World.frozen?,e6],?_⟩
 have e7:((W6.setCell ⟨n + 1,0,none⟩ x).setCell ⟨n + 1,1,none⟩ i).heap[n + 1]? = some (.cells #[x,i] 113 (0,0)):=by
  have a1:=blk_cell e6 0 x
  exact blk_cell a1 1 i
 have hg:W6.grownBy ((W6.setCell ⟨n + 1,0,none⟩ x).setCell ⟨n + 1,1,none⟩ i) (some (n + 1)):=grown_set (grown_set (World.grownBy.refl W6 (some (n + 1))) 0 x) 1 i
 have e8:((W6.setCell ⟨n + 1,0,none⟩ x).setCell ⟨n + 1,1,none⟩ i).heap[n + 5]? = some (.deferred (some [])):=(hg.block (n + 5) (Array.getElem?_eq_some_iff.1 hb6.def_).1 (fun e=>by cases e)).trans hb6.def_
 have hg2:=grown_put ((W6.setCell ⟨n + 1,0,none⟩ x).setCell ⟨n + 1,1,none⟩ i) (n + 5) (.deferred none)
 have hst1:Stay W6 ((W6.setCell ⟨n + 1,0,none⟩ x).setCell ⟨n + 1,1,none⟩ i):=stay_grown hg (fun cs t fz hc=>by rw [e6] at hc; cases hc; rintro (h | h | h) <;> cases h)
 have hst2:Stay ((W6.setCell ⟨n + 1,0,none⟩ x).setCell ⟨n + 1,1,none⟩ i) (((W6.setCell ⟨n + 1,0,none⟩ x).setCell ⟨n + 1,1,none⟩ i).putObj (n + 5) (.deferred none)):=stay_grown hg2 (fun cs t fz hc=>by rw [e8] at hc; cases hc)
 have hst:Stay W (((W6.setCell ⟨n + 1,0,none⟩ x).setCell ⟨n + 1,1,none⟩ i).putObj (n + 5) (.deferred none)):=((Stay.below hB).trans hst1).trans hst2
 have hkp:∀ (k:Nat) (o:Obj),W.heap[k]? = some o→k≠n + 1→k≠n + 5→(((W6.setCell ⟨n + 1,0,none⟩ x).setCell ⟨n + 1,1,none⟩ i).putObj (n + 5) (.deferred none)).heap[k]? = some o:=fun k o hk hk1 hk5=>by
  have hlt:=(Array.getElem?_eq_some_iff.1 hk).1
  exact (World.putObj_heap_other hk5).trans ((hg.block k (Nat.lt_of_lt_of_le hlt hB.size) (fun e=>hk1 (Option.some.inj e))).trans ((hB.block k hlt).trans hk))
 have hsz:W.heap.size≤(((W6.setCell ⟨n + 1,0,none⟩ x).setCell ⟨n + 1,1,none⟩ i).putObj (n + 5) (.deferred none)).heap.size:=by
  have:=hB.size
  simp [World.setCell]
  omega
 have hwW:w.heap.size≤W.heap.size:=hP.size
 refine ⟨_,run_takeDeferred e8,(World.putObj_heap_other (by omega)).trans e7,hP.high ((hg2.os.trans hg.os).trans hB.os) ((hg2.tape.trans hg.tape).trans hB.tape) ((hg2.output.trans hg.output).trans hB.output) hsz (fun k hk=>?_) (fun k o hk ho=>?_) hst,hW.st hst⟩
 ·obtain ⟨o,ho⟩:∃ o,W.heap[k]? = some o:=⟨_,Array.getElem?_eq_getElem (by omega)⟩
  rw [ho]
  exact hkp k o ho (by omega) (by omega)
 ·refine hkp k o hk (fun e=>?_) (fun e=>?_)
  ·subst e
   rw [h1] at hk; cases hk
   rcases ho with ⟨_,_,h⟩ | ⟨_,_,_,h,h'⟩
   ·cases h
   ·cases h; exact not_lt_worth h'
  ·subst e
   rw [h3] at hk; cases hk
   rcases ho with ⟨_,_,h⟩ | ⟨_,_,_,h,_⟩ <;> cases h
def PtrOf (w:World) (lb:Nat) (key:List UInt8) (p:Nat):Prop:=∃ hb es,w.cell? ⟨lb,0,none⟩=some (.map (some hb))∧MapAt w hb es∧Lard.look es key=some (ptr p)
theorem PtrOf.frw {w W:World} {lb p:Nat} {L:Nat→Prop} {key:List UInt8} (h:PtrOf w lb key p) (hf:Frw lb L w W):PtrOf W lb key p:=by
 obtain ⟨hb,es,h1,h2,h3⟩:=h
 obtain ⟨h4,h5⟩:=hf.hasm hb h2.lt h1
 exact ⟨hb,es,h4,h2.same h5,h3⟩
theorem PtrOf.thing {W:World} {lb p:Nat} {s:Lard.LS} {L:Nat→Prop} {key:List UInt8} {th:Lard.Thing} (h:PtrOf W lb key p) (hA:LAt W lb s L) (hk:key.length≤maxLen) (hl:Lard.look s.has key=some th):ThingAt W L th p:=by
 obtain ⟨hb,es,h1,h2,h3⟩:=h
 obtain ⟨hb',db,vb,vr,vn,vj,h⟩:=hA
 have h4:W.cell? ⟨lb,0,none⟩=some (.map (some hb')):=by simp [World.cell?,h.blk]
 rw [h1] at h4
 cases h4
 obtain ⟨p',ht,hr⟩:=h.has.at hl
 have e1:=hr false hk
 have e2:=h2.look1 Tryz.underlying104 (k:=key) hk (z:=.pointer none) (by kernel_rfl)
 rw [e1,h3] at e2
 simp [ptr] at e2
 rw [←e2]
 exact ht
theorem LAt.ptrOf {w:World} {lb:Nat} {s:Lard.LS} {L:Nat→Prop} {key:List UInt8} {th:Lard.Thing} (h:LAt w lb s L) (hl:Lard.look s.has key=some th):∃ p,PtrOf w lb key p∧ThingAt w L th p:=by
 obtain ⟨hb,db,vb,vr,vn,vj,h⟩:=h
 obtain ⟨hp,h1,h2,h3,h4,h5,h6⟩:=h.has
 rw [h1,lk_thing] at hl
 cases hx:Lard.look hp key with
 |none=>rw [hx] at hl; cases hl
 |some x =>
  rw [hx] at hl
  cases hl
  refine ⟨x.2,⟨hb,_,by simp [World.cell?,h.blk],h2,by rw [lk_ptr,hx]; rfl⟩,?_⟩
  exact h4 (key,x) (Lard.look_mem' hx)
theorem run_end {w w0 W:World} {lb n f:Nat} {s:Lard.LS} {L F:Nat→Prop} {lp:Loop} {tree tc ti x i:Value} {r:Lard.Wo} {σ:Sg} {c:Rc} (hc:c=⟨lb,n + 1 + 1,n,n + 1 + 1 + 1,n + 1 + 1 + 1 + 1,n + 5 + 1,w0,L,s,lp⟩) (ok:RcOK c) (hn:w.heap.size=n) (h8:8≤n) (hB0:Below n w w0) (hsz0:w0.heap.size=n + 7)
  (hA:LAt w lb s L) (hD:w0.heap[n + 5]? = some (.deferred (some []))) (h6:w0.heap[n + 1]? = some (.cells #[.int .i64 0,.nilIface] 113 (0,0))) (hJ:JL c F σ W) (hfm:Fm 8 w0 W) (hR:RunAt W (n + 1 + 1) tree .nilFunc tc ti f x i) (hW:IsW W r (.agg #[x,i])) (gW:G W) :
  ∃ W4,(Instr.endLoop (n + 5 + 1)).run Tryz.prog W=.ok none W4∧∃ sl,LPost w lb L σ.1.1 W4∧Blk n W4 x i∧W4.heap[n]? = some (.cells #[ptr lb] 29 (0,0))∧W4.heap[n + 1 + 1 + 1 + 1]? = some (.cells #[sl] 129 (0,0))∧NeedsAt W4 σ.1.2 sl∧(∀ g,sl.ownBlock=some g→n≤g)∧IsW W4 r (.agg #[x,i])∧G W4∧Deb W4∧σ.1.2.length≤σ.2∧Lard.Nst s σ.1.1 σ.2∧Phi σ.1.1≤Phi s:=by
 subst hc
 obtain ⟨L',sl,_,h1,h2,h2',h3,h4,h5,h6',h7,h8',h9,h10,h11⟩:=hJ
 have hLw:∀ k,L k→k < n:=fun k hk=>by have:=(hA.typed k hk).2.1; omega
 have hno:∀ k,n≤k→¬ L k:=fun k hk hl=>by have:=hLw k hl; omega
 have hhas:∀ hb,w.cell? ⟨lb,0,none⟩=some (.map (some hb))→L hb:=fun hb hc=>by
  obtain ⟨hb',db,vb,vr,vn,vj,h⟩:=hA
  have h4:w.cell? ⟨lb,0,none⟩=some (.map (some hb')):=by simp [World.cell?,h.blk]
  rw [h4] at hc
  cases hc
  obtain ⟨_,_,_,_,_,_,hl⟩:=h.has
  exact hl
 have old:∀ k,n≤k→k < n + 7→k≠n + 1 + 1 + 1 + 1→k≠n + 1 + 1→W.heap[k]? = w0.heap[k]? := fun k hk hk' ha hb=>h4 k (by show k < w0.heap.size; omega) (hno k hk) ha hb
 have hl:W.heap[n + 5 + 1]? = some (.loop lp):=(old _ (by omega) (by omega) (by omega) (by omega)).trans ok.loop
 have hll:n + 5 + 1 < W.heap.size:=(Array.getElem?_eq_some_iff.1 hl).1
 have hb3:W.heap[n]? = some (.cells #[ptr lb] 29 (0,0)):=(old _ (by omega) (by omega) (by omega) (by omega)).trans ok.c3
 have hb7:W.heap[n + 1 + 1 + 1]? = some (.cells #[ptr (n + 1 + 1)] 242 (0,0)):=(old _ (by omega) (by omega) (by omega) (by omega)).trans ok.c7
 have hb6:=(old (n + 1) (by omega) (by omega) (by omega) (by omega)).trans h6
 have hbD:=(old (n + 5) (by omega) (by omega) (by omega) (by omega)).trans hD
 have hst:(Instr.endLoop (n + 5 + 1)).run Tryz.prog W=.ok none (W.putObj (n + 5 + 1) (.loop { lp with state:=.exhausted })):=by
  have h12:=ok.ready
  have h13:=ok.pend
  have:=run_endLoop (P:=Tryz.prog) hl (fun e=>by rw [show lp.state=.ready from h12] at e; cases e)
  rw [this,show lp.pending=none from h13]
 refine ⟨_,hst,sl,?_⟩
 have hg1:=grown_put W (n + 5 + 1) (.loop { lp with state:=.exhausted })
 have hkp:∀ (k:Nat) (o:Obj),W.heap[k]? = some o→k≠n + 5 + 1→(W.putObj (n + 5 + 1) (.loop { lp with state:=.exhausted })).heap[k]? = some o:=fun k o hk hne=>(World.putObj_heap_other hne).trans hk
 have hsty:Stay W (W.putObj (n + 5 + 1) (.loop { lp with state:=.exhausted })):=stay_grown hg1 (fun cs t fz hb=>by rw [hl] at hb; cases hb)
 have hB8:Below 8 W (W.putObj (n + 5 + 1) (.loop { lp with state:=.exhausted })):=⟨rfl,rfl,rfl,by simp,fun k hk=>World.putObj_heap_other (by omega)⟩
 have hdebW:Deb W:=Deb.below (show Deb w0 from ok.deb) hfm.bel (Nat.le_refl _)
 have hcellW:∀ hb,hb < n→w.cell? ⟨lb,0,none⟩=some (.map (some hb))→L hb→W.cell? ⟨lb,0,none⟩=some (.map (some hb))∧W.heap[hb]? = w.heap[hb]? := fun hb hlt hc hL=>by
  have hlb:lb < n:=by
   refine Decidable.byContradiction fun hn'=>?_
   have:w.heap[lb]? = none:=Array.getElem?_eq_none_iff.2 (by omega)
   simp [World.cell?,this] at hc
  obtain ⟨q1,q2⟩:=h11.2 hb hL ((World.cell?_of_block (hB0.block lb hlb)).trans hc)
  exact ⟨q1,q2.trans (hB0.block hb hlt)⟩
 have hpost:LPost w lb L σ.1.1 W:=by
  refine ⟨L',h1,fun k hk=>?_,h2',⟨⟨hfm.bel.os.trans hB0.os,hfm.bel.tape.trans hB0.tape,hfm.bel.output.trans hB0.output,Nat.le_trans hB0.size h3,fun k hk hnl=>?_⟩,fun k hk cs t fz hc hkt=>?_,fun hb hlt hc=>?_⟩⟩
  ·rcases h2 k hk with h | h
   ·exact .inl h
   ·have:w0.heap.size≤k:=h
    exact .inr (by omega)
  ·exact (h4 k (by show k < w0.heap.size; omega) hnl (by show k≠n + 1 + 1 + 1 + 1; omega) (by show k≠n + 1 + 1; omega)).trans (hB0.block k (by omega))
  ·exact h11.1 k hk cs t fz ((hB0.block k (hLw k hk)).trans hc) hkt
  ·exact hcellW hb (by omega) hc (hhas hb hc)
 refine ⟨hpost.high rfl rfl rfl (by simp) (fun k hk=>World.putObj_heap_other (by omega)) (fun k o hk ho=>hkp k o hk (fun e=>?_)) hsty,⟨hkp _ _ hb6 (by omega),hkp _ _ hb7 (by omega),hkp _ _ hbD (by omega),tree,.nilFunc,tc,ti,f,hkp _ _ hR (by omega)⟩,hkp _ _ hb3 (by omega),hkp _ _ h5 (by show n + 1 + 1 + 1 + 1≠n + 5 + 1; omega),h6'.st (fun g hg cs fz hb=>hkp _ _ hb (fun e=>?_)) hsty,fun g hg=>?_,hW.st hsty,gW.below hB8 (Nat.le_refl _),hdebW.below hB8 (Nat.le_refl _),h9,h8',h10⟩
 ·subst e
  rw [hl] at hk; cases hk
  rcases ho with ⟨_,_,h⟩ | ⟨_,_,_,h,_⟩ <;> cases h
 ·subst e
  rw [hl] at hb; cases hb
 ·have:w0.heap.size≤g:=(h7 g hg).1
  omega
end
section
open Go.RowKit Go.Shelf
attribute [local go_sem] Oper.semAt_some
theorem run_cnt {α:Type} (Br:List UInt8→Lard.LS→Lard.Wo×Lard.LS) (p:Lard.Pg α):∀ σ c,(p.run (needN Br) (σ,c)).1=(p.run (Lard.needL Br) σ).1∧(p.run (needN Br) (σ,c)).2.1=(p.run (Lard.needL Br) σ).2 :=
 Lard.Pg.ind (P:=fun p=>∀ σ c,(p.run (needN Br) (σ,c)).1=(p.run (Lard.needL Br) σ).1∧(p.run (needN Br) (σ,c)).2.1=(p.run (Lard.needL Br) σ).2) (fun a σ c=>⟨rfl,rfl⟩) (fun k f ih σ c=>ih _ _ _) p
theorem ev_prog (Br:List UInt8→Lard.LS→Lard.Wo×Lard.LS) (t:Lard.T) (s:Lard.LS) :
  (Lard.ev (needN Br) (Lard.hM t) t none (400,((s,[]),0))).1=((Lard.prog t).run (Lard.needL Br) (s,[])).1∧(Lard.ev (needN Br) (Lard.hM t) t none (400,((s,[]),0))).2.2.1=((Lard.prog t).run (Lard.needL Br) (s,[])).2:=by
 have h:=run_cnt Br (Lard.tr (Lard.hM t) t none 400) (s,[]) 0
 rw [Lard.ev_tr]
 unfold Lard.flat Lard.prog
 rw [Lard.Pg.run_worth]
 exact ⟨by rw [h.1],h.2⟩
theorem nst_look {s s':Lard.LS} {c:Nat} (h:Lard.Nst s s' c) {key:List UInt8} {th:Lard.Thing} (hl:Lard.look s.has key=some th):∃ th',Lard.look s'.has key=some th'∧th'.tree=th.tree:=by
 have h1:=Lard.look_strip s'.has key
 rw [h.strip,Lard.look_strip,hl] at h1
 cases hx:Lard.look s'.has key with
 |none=>rw [hx] at h1; cases h1
 |some th' =>
  rw [hx] at h1
  simp only [Option.map_some,Option.some.injEq] at h1
  refine ⟨th',rfl,?_⟩
  have:=congrArg Lard.Thing.tree h1
  exact this.symm
def TailF (w:World) (lb n:Nat) (L:Nat→Prop) (x i:Value) (r:Lard.Wo) (s:Lard.LS) (W:World):Prop :=
  W.cell? ⟨n + 1 + 1 + 1,0,none⟩=some (.pointer (some ⟨n + 1 + 1,0,none⟩)) ∧
  Calls Tryz.prog 164 #[.pointer (some ⟨n + 1 + 1,0,none⟩)] W fun e W6=>e=.returned (.agg #[x,i])∧W6.cell? ⟨n + 1,0,none⟩=some (.int .i64 0)∧W6.cell? ⟨n + 1,1,none⟩=some .nilIface∧W6.frozen? ⟨n + 1,0,none⟩=false∧W6.frozen? ⟨n + 1,1,none⟩=false ∧
   ∃ Wf,(Instr.takeDeferred (n + 5)).run Tryz.prog ((W6.setCell ⟨n + 1,0,none⟩ x).setCell ⟨n + 1,1,none⟩ i)=.ok [] Wf∧Wf.heap[n + 1]? = some (.cells #[x,i] 113 (0,0))∧LPost w lb L s Wf∧IsW Wf r (.agg #[x,i])
structure RE (w:World) (lb n:Nat) (L:Nat→Prop) (x i sl:Value) (r:Lard.Wo) (ns:List (List UInt8×Lard.Wo)) (s:Lard.LS) (W:World):Prop where
 post:LPost w lb L s W
 blk:Blk n W x i
 b3:W.heap[n]? = some (.cells #[ptr lb] 29 (0,0))
 b8:W.heap[n + 1 + 1 + 1 + 1]? = some (.cells #[sl] 129 (0,0))
 needs:NeedsAt W ns sl
 own:∀ g,sl.ownBlock=some g→n≤g
 wor:IsW W r (.agg #[x,i])
 g:G W
 deb:Deb W
theorem RE.below {w:World} {lb n:Nat} {L:Nat→Prop} {x i sl:Value} {r:Lard.Wo} {ns:List (List UInt8×Lard.Wo)} {s:Lard.LS} {W W':World} (h:RE w lb n L x i sl r ns s W) (hB:Below W.heap.size W W'):RE w lb n L x i sl r ns s W' where
 post:=h.post.trans (fun L' h'=>LPost.below h' hB)
 blk:=h.blk.nl (NL.below hB)
 b3:=(hB.block _ (lt_of_some h.b3)).trans h.b3
 b8:=(hB.block _ (lt_of_some h.b8)).trans h.b8
 needs:=h.needs.st (fun g _ cs fz hb=>(hB.block g (lt_of_some hb)).trans hb) (Stay.below hB)
 own:=h.own
 wor:=h.wor.st (Stay.below hB)
 g:=h.g.below hB h.g.size
 deb:=h.deb.below hB h.g.size
theorem RE.tail {w:World} {lb n:Nat} {L:Nat→Prop} {x i sl:Value} {r:Lard.Wo} {ns:List (List UInt8×Lard.Wo)} {s:Lard.LS} {W:World} (h:RE w lb n L x i sl r ns s W) (hn:w.heap.size=n):TailF w lb n L x i r s W:=run_tail hn h.post h.blk h.wor
theorem RE.keep {w:World} {lb n:Nat} {L:Nat→Prop} {x i sl:Value} {r:Lard.Wo} {ns:List (List UInt8×Lard.Wo)} {s:Lard.LS} {W:World} (h:RE w lb n L x i sl r ns s W) (hn:w.heap.size=n) (h8:8≤n) (hlen:ns.length≤401) (key:ByteArray) (hk:key.size≤200) {th:Lard.Thing} (hl:Lard.look s.has key.data.toList=some th) (htr:th.tree≠none) (hj:(jbytes s.jr).length≤70368744177664) :
  Calls Tryz.prog 143 #[ptr lb,.string key,ptr W.heap.size] (W.alloc (.cells #[x,i,sl] 131)) fun e w'=>e=.returned (.tuple #[])∧TailF w lb n L x i r (s.keep key.data.toList ⟨r,ns⟩) w'∧(w'.heap[n]? = some (.cells #[ptr lb] 29 (0,0))∧w'.heap[n + 1 + 1 + 1 + 1]? = some (.cells #[sl] 129 (0,0))):=by
 have hB:Below W.heap.size W (W.alloc (.cells #[x,i,sl] 131)):=(Below.refl _ _).alloc (Nat.le_refl _) _
 have h1:=h.below hB
 have hkb:=heap_alloc_new W (.cells #[x,i,sl] 131)
 obtain ⟨L2,hA,hK,hthen⟩:=h1.post.keepAt (by omega) hkb h.post.size h1.needs (fun g hg=>by have:=h.own g hg; omega) h1.wor hlen
 have hkl:=keepText_take (key:=key.data.toList) (by simpa using hk) h1.wor h1.needs ns.length (Nat.le_refl _)
 rw [List.take_length] at hkl
 have hj2:(jbytes (s.keep key.data.toList ⟨r,ns⟩).jr).length≤140737488355328:=by
  show (jbytes (s.jr++[Lard.keepText key.data.toList ⟨r,ns⟩])).length≤_
  rw [jbytes_snoc,List.length_append,line_len]
  have:=Nat.mul_le_mul_right 100202 hlen
  omega
 refine (keep_any _ lb s L2 key th ⟨r,ns⟩ _ hA h1.g h1.deb hl htr hK hk hj2).mono ?_
 rintro e w' ⟨rfl,hp⟩
 have hnl:=NL.post hA hp
 exact ⟨rfl,run_tail hn (hthen _ _ hp) (h1.blk.nl hnl) (h1.wor.keeps (hp.keeps hA)),hnl.2 _ _ h1.b3 (fun _ _ e=>by cases e) (fun _ _ _ e=>by cases e; exact not_lt_ptr),hnl.2 _ _ h1.b8 (fun _ _ e=>by cases e) (fun _ _ _ e=>by cases e; exact not_lt_needs)⟩
theorem RE.lose {w:World} {lb n:Nat} {L:Nat→Prop} {x i sl:Value} {r:Lard.Wo} {ns:List (List UInt8×Lard.Wo)} {s:Lard.LS} {W:World} (h:RE w lb n L x i sl r ns s W) (hn:w.heap.size=n) (key:ByteArray) (hk:key.size≤200) {th:Lard.Thing} (hl:Lard.look s.has key.data.toList=some th) (hj:(jbytes s.jr).length≤70368744177664) :
  Calls Tryz.prog 114 #[ptr lb,.string key] W fun e w'=>e=.returned (.tuple #[])∧TailF w lb n L x i r (s.lose key.data.toList) w':=by
 obtain ⟨L1,hA,_,hthen⟩:=h.post.then
 have hkl:key.data.toList.length≤200:=by simpa using hk
 have hj2:(jbytes (s.lose key.data.toList).jr).length≤140737488355328:=by
  show (jbytes (s.jr++[[108,111,115,101,32]++key.data.toList])).length≤_
  rw [jbytes_snoc,List.length_append,line_len,List.length_append]
  simp only [List.length_cons,List.length_nil]
  omega
 refine (lose_any _ lb s L1 key th hA h.g h.deb hl hk hj2).mono ?_
 rintro e w' ⟨rfl,hp⟩
 exact ⟨rfl,run_tail hn (hthen _ _ hp) (h.blk.nl (NL.post hA hp)) (h.wor.keeps (hp.keeps hA))⟩
theorem RE.kept {w:World} {lb n p:Nat} {L:Nat→Prop} {x i sl:Value} {r:Lard.Wo} {ns:List (List UInt8×Lard.Wo)} {s:Lard.LS} {W:World} (h:RE w lb n L x i sl r ns s W) {key:List UInt8} (hk:key.length≤200) {th:Lard.Thing} (hl:Lard.look s.has key=some th) (hp:PtrOf w lb key p) :
  (th.kept=none∧W.cell? ⟨p,3,none⟩=some (.pointer none))∨((Lard.keptOf s.has key).isSome=true∧∃ a,W.cell? ⟨p,3,none⟩=some (.pointer (some a))):=by
 obtain ⟨L',h1,h2,h3,h4⟩:=h.post
 obtain ⟨v,rr,k,hb,_,_,_,hkk⟩:=(hp.frw h4).thing h1 (by unfold maxLen; omega) hl
 rcases hkk with ⟨h5,rfl⟩ | ⟨kp,kb,h5,rfl,_⟩
 ·exact .inl ⟨h5,by simp [World.cell?,hb]⟩
 ·exact .inr ⟨by simp [Lard.keptOf,hl,h5],⟨kb,0,none⟩,by simp [World.cell?,hb]⟩
end
end Go.Proofs.YtpekpdimdelncaaGreatDoor
