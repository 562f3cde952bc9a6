/- Out of: U13, U14, U15. -/
import Derived.Test.YtpekpdimdelncaaGreatDoorP12
import Derived.Test.YtpekpdimdelncaaGreatDoorP11
set_option linter.unusedSimpArgs false
set_option linter.unusedVariables false
namespace Go.Proofs.YtpekpdimdelncaaGreatDoor
section
set_option maxRecDepth 100000
set_option maxHeartbeats 4000000
open Go.RowKit Go.Shelf
def tryE (E:Env) (n:Nat) (t:Lard.T) (it:Option Lard.V) (st:Nat×E.σ):Except Nat Lard.V×(Nat×E.σ) :=
 match Lard.ev E.N n (t.part 0) it st with
 |(.ok v,s)=>(.ok v,s)
 |(.error e,s)=>if e=7∨e=8∨e=9∨e=10 then Lard.ev E.N n (t.part 1) it s else (.error e,s)
def TryCells (w':World) (p0 p1 p2 rb b b0 m c:Nat) (q1:Addr) (xi:Value):Prop :=
 w'.cell? ⟨p0,0,none⟩=some (.pointer (some ⟨rb,0,none⟩))∧w'.cell? ⟨p1,0,none⟩=some (.pointer (some ⟨b,0,none⟩))∧w'.cell? ⟨p2,0,none⟩=some xi∧w'.cell? ⟨b,4,none⟩=some (.slice (some ⟨b0,0,none⟩) m c)∧w'.cell? ⟨b0,1,none⟩=some (.pointer (some q1))
def ImmKeeps (w w':World):Prop :=
 ∀ (k:Nat) (cs:Array Value) (t:TypeId) (fz:Nat×Nat),w.heap[k]? = some (.cells cs t fz)→ImmW t→w'.heap[k]? = some (.cells cs t fz)
theorem ImmKeeps.keeps {w w':World} (h:ImmKeeps w w'):Keeps w w':=fun k cs t fz hk ht=>h k cs t fz hk (.inl ht)
theorem ImmKeeps.below {w w':World} (h:Below w.heap.size w w'):ImmKeeps w w':=fun k _ _ _ hk _=>(h.block k (lt_of_some hk)).trans hk
theorem try_worked (E:Env) (ok:EnvOK E) (n:Nat) (ih:WorkSays E n) (t:Lard.T) (it:Option Lard.V) (b b0 m c:Nat) (i:Value) (q1:Addr) (xi:Value) (F:Nat→Prop) (st:Nat×E.σ) (w W:World) (hlen:t.parts.length=2) (h0:Lard.okT n it.isSome (t.part 0)=true) (hx:IsTree w (n + 1) t (.pointer (some ⟨b,0,none⟩))) (nd:Node w n t b i (some ⟨b0,0,none⟩) m c) (hq1:∀ w',Keeps w w'→w'.cell? ⟨b0,1,none⟩=some (.pointer (some q1))) (hi:IsOpt w it xi) (h:St E F st w)
  (hBW:Below w.heap.size w W) (hszW:W.heap.size=w.heap.size + 1 + 1 + 1)
  (d0:W.heap[w.heap.size]? = some (.cells #[.pointer (some ⟨E.rb,0,none⟩)] 242 (0,0))) (d1:W.heap[w.heap.size + 1]? = some (.cells #[.pointer (some ⟨b,0,none⟩)] 121 (0,0))) (d2:W.heap[w.heap.size + 1 + 1]? = some (.cells #[xi] 111 (0,0))) :
  Calls Tryz.prog 201 #[.func (.func 277) #[] #[.pointer (some ⟨w.heap.size,0,none⟩),.pointer (some ⟨w.heap.size + 1,0,none⟩),.pointer (some ⟨w.heap.size + 1 + 1,0,none⟩)]] W fun e w'=>∃ x F2,e=.returned x∧IsW w' (Lard.ev E.N n (t.part 0) it st).1 x∧St E F2 (Lard.ev E.N n (t.part 0) it st).2 w'∧(∀ k,F2 k→F k∨w.heap.size≤k)∧Fm E.base w w'∧(∀ w3,ImmKeeps w' w3→TryCells w3 w.heap.size (w.heap.size + 1) (w.heap.size + 1 + 1) E.rb b b0 m c q1 xi):=by
 have hbase:E.base≤w.heap.size:=Nat.le_trans ok.baser (Nat.le_of_lt h.lt)
 obtain ⟨WA,hWA⟩:∃ WA,W.alloc (.cells #[.int .i64 0,.nilIface] 113)=WA:=⟨_,rfl⟩
 have hBA:Below W.heap.size W WA:=by rw [←hWA]; exact (Below.refl _ _).alloc (Nat.le_refl _) _
 have hBwA:Below w.heap.size w WA:=hBW.trans (hBA.mono (by omega))
 have hszA:WA.heap.size=W.heap.size + 1:=by rw [←hWA]; simp
 have hk:=Keeps.below hBwA
 have e0:=(hBA.block _ (lt_of_some d0)).trans d0
 have e1:=(hBA.block _ (lt_of_some d1)).trans d1
 have e2:=(hBA.block _ (lt_of_some d2)).trans d2
 have eW:WA.heap[W.heap.size]? = some (.cells #[.int .i64 0,.nilIface] 113 (0,0)):=by rw [←hWA]; exact heap_alloc_new W _
 have h1:=try1_any E ok n ih t it b w.heap.size (w.heap.size + 1) (w.heap.size + 1 + 1) xi F st WA hlen h0 (hx.keeps hk) (hi.keeps hk) (h.below ok hBwA) e0 e1 e2
 have hHC:Calls Tryz.prog 277 #[.pointer (some ⟨w.heap.size,0,none⟩),.pointer (some ⟨w.heap.size + 1,0,none⟩),.pointer (some ⟨w.heap.size + 1 + 1,0,none⟩)] (W.alloc (.cells #[.int .i64 0,.nilIface] 113)) fun e w'=>w'.heap[W.heap.size]? = some (.cells #[.int .i64 0,.nilIface] 113 (0,0))∧PW (Ψ E F WA (Lard.ev E.N n (t.part 0) it st)) e w':=by
  rw [hWA]
  refine h1.mono fun e w3 hp=>⟨?_,hp⟩
  obtain ⟨_,⟨_,_,_,_,hf⟩,_⟩:=hp
  exact hf.imm _ _ _ _ eW (.inr (.inl rfl))
 refine (worked_any 277 (.inr rfl) _ W _ hHC).mono ?_
 rintro e w' ⟨r,x,w2,rfl,⟨rfl,F2,hst2,hF2,hfm2⟩,hg,hW'⟩
 have hFw:Fm E.base w w2:=(Fm.below hBwA hbase).trans hfm2
 have hgr:∀ k,F2 k→F k∨w.heap.size≤k:=fun k hk=>by
  rcases hF2 k hk with h' | h'
  ·exact .inl h'
  ·exact .inr (by omega)
 have hnot:¬ F2 W.heap.size:=fun hk=>by
  rcases hF2 _ hk with h' | h'
  ·have:=(ok.dom _ _ _ _ h.inv h').1; omega
  ·omega
 have hfw':Fm E.base w w':=hFw.own hg (by omega) hbase
 have keep:∀ k cs ty fz,WA.heap[k]? = some (.cells cs ty fz)→ImmW ty→k≠W.heap.size→w'.heap[k]? = some (.cells cs ty fz):=fun k cs ty fz hk ht hne=>by
  have h':=hfm2.imm k cs ty fz hk ht
  exact (hg.block k (lt_of_some h') (fun e=>hne (by cases e; rfl))).trans h'
 have f0:=keep _ _ _ _ e0 (.inr (.inr rfl)) (by omega)
 have f1:=keep _ _ _ _ e1 (.inl (.inr (.inr rfl))) (by omega)
 have f2:=keep _ _ _ _ e2 (.inl (.inl rfl)) (by omega)
 have hlt:=h.lt
 have hstay:Stay w2 w':=(keeps_grown hg (fun cs ty fz hb hi=>by
  rw [hfm2.imm _ _ _ _ eW (.inr (.inl rfl))] at hb
  cases hb
  rcases hi with h | h | h <;> cases h)).stay
 exact ⟨x,F2,rfl,hW',hst2.grown ok hg (by omega) hnot (by have:=h.g.size; omega) hstay,hgr,hfw',fun w3 hk3=>⟨by simp [World.cell?,hk3 _ _ _ _ f0 (.inr (.inr rfl))],by simp [World.cell?,hk3 _ _ _ _ f1 (.inl (.inr (.inr rfl)))],by simp [World.cell?,hk3 _ _ _ _ f2 (.inl (.inl rfl))],(nd.cells w3 (hfw'.keeps.trans hk3.keeps)).2.2.2.2,hq1 w3 (hfw'.keeps.trans hk3.keeps)⟩⟩
theorem try_any (E:Env) (ok:EnvOK E) (n:Nat) (ih:WorkSays E n) (t:Lard.T) (it:Option Lard.V) (x xi:Value) (F:Nat→Prop) (st:Nat×E.σ) (w:World) (hlen:t.parts.length=2) (h0:∀ j,j < t.parts.length→Lard.okT n it.isSome (t.part j)=true) (hx:IsTree w (n + 1) t x) (hi:IsOpt w it xi) (h:St E F st w) :
  Calls Tryz.prog 247 #[.pointer (some ⟨E.rb,0,none⟩),x,xi] w (PW (Ψ E F w (tryE E n t it st))):=by
 obtain ⟨b,i,o,m,c,rfl,nd⟩:=hx.node
 obtain ⟨b0,q1,rfl,hd1,ht1⟩:=nd.part 1 (by omega)
 have hm:=nd.len
 have hq0:(1:Int) < (m:Int):=by omega
 have hform:=hi.form
 obtain ⟨W,hW⟩:∃ W,((w.alloc (.cells #[.pointer (some ⟨E.rb,0,none⟩)] 242)).alloc (.cells #[.pointer (some ⟨b,0,none⟩)] 121)).alloc (.cells #[xi] 111)=W:=⟨_,rfl⟩
 have hBW:Below w.heap.size w W:=by rw [←hW]; exact ((((Below.refl _ w).alloc (Nat.le_refl _) _).alloc (by simp) _).alloc (by simp; omega) _)
 have b0':W.heap[w.heap.size]? = some (.cells #[.pointer (some ⟨E.rb,0,none⟩)] 242 (0,0)):=by
  rw [←hW]; exact ((Below.heap_alloc _ _ _ (by simp; omega)).trans (Below.heap_alloc _ _ _ (by simp))).trans (heap_alloc_new w _)
 have b1':W.heap[w.heap.size + 1]? = some (.cells #[.pointer (some ⟨b,0,none⟩)] 121 (0,0)):=by
  rw [←hW]; refine (Below.heap_alloc _ _ _ (by simp)).trans ?_
  have:=heap_alloc_new (w.alloc (.cells #[.pointer (some ⟨E.rb,0,none⟩)] 242)) (.cells #[.pointer (some ⟨b,0,none⟩)] 121)
  rwa [World.size_alloc] at this
 have b2':W.heap[w.heap.size + 1 + 1]? = some (.cells #[xi] 111 (0,0)):=by
  rw [←hW]
  have:=heap_alloc_new ((w.alloc (.cells #[.pointer (some ⟨E.rb,0,none⟩)] 242)).alloc (.cells #[.pointer (some ⟨b,0,none⟩)] 121)) (.cells #[xi] 111)
  rwa [World.size_alloc,World.size_alloc] at this
 have hszW:W.heap.size=w.heap.size + 1 + 1 + 1:=by rw [←hW]; simp
 have hT:=try_worked E ok n ih t it b b0 m c i q1 xi F st w W hlen (h0 0 (by omega)) hx nd hd1 hi h hBW hszW b0' b1' b2'
 clear b0' b1' b2' hBW hszW
 subst hW
 have IH:=hide ih
 have HI:=hide hi
 have HT1:=hide ht1
 have ND:=hide nd
 have hbase:E.base≤w.heap.size:=Nat.le_trans ok.baser (Nat.le_of_lt h.lt)
 clear ih hi ht1 hx nd hd1 h
 unfold tryE
 generalize Lard.ev E.N n (t.part 0) it st=q at hT ⊢
 obtain ⟨r,st1⟩:=q
 generalize hrb:E.rb=rb at hT
 have HRB:=hide hrb
 have HT:=hide hT
 clear hT hrb
 cases r with
 |ok v1 =>
  show Calls _ _ _ _ (PW (Ψ E F w (.ok v1,st1)))
  rcases hform with rfl | ⟨tx,ax,rfl⟩
  all_goals
   go_enter Tryz.func247,Tryz.ntmps247
   go_wp2_with fail
   refine HT.out.mono ?_
   rintro e w1 ⟨x,F2,rfl,hIW,hst,hF,hfm,_⟩
   rcases hIW with ⟨v,y,hv,rfl,hval⟩ | ⟨c',hc',_⟩
   ·cases hv
    obtain ⟨t1,a1,rfl⟩:=hval.one
    have hB4:∀ o,Below w1.heap.size w1 (w1.alloc o):=fun o=>(Below.refl _ w1).alloc (Nat.le_refl _) o
    have HTK:=hide (fun o=>take_worth (r:=.ok v1) (w1.alloc o) (.inl ⟨v1,_,rfl,rfl,hval.keeps (Keeps.below (hB4 o))⟩))
    clear hval HT
    go_wp2_with fail
    refine (HTK.out _).mono ?_
    rintro e w3 hpv
    have HFIN:=hide (PW.of_pv ok (hst.below ok (hB4 (Obj.cells #[.int .i64 0,.iface t1 a1] 113))) hF (hfm.trans (Fm.below (hB4 _) (Nat.le_trans ok.baser (Nat.le_of_lt hst.lt)))) hpv (fun c hc=>by cases hc))
    obtain ⟨y2,rfl,hv2⟩:=hpv.2.1 v1 rfl
    obtain ⟨t2,a2,rfl⟩:=hv2.one
    clear hpv hv2 HTK
    go_wp2_with fail
    go_ret
    exact HFIN.out
   ·cases hc'
 |error e1 =>
  by_cases he:e1=7∨e1=8∨e1=9∨e1=10
  ·show Calls _ _ _ _ (PW (Ψ E F w (if e1=7∨e1=8∨e1=9∨e1=10 then Lard.ev E.N n (t.part 1) it st1 else (.error e1,st1))))
   rw [if_pos he]
   generalize hfin:Lard.ev E.N n (t.part 1) it st1=fin
   have HFI:=hide hfin
   clear hfin
   rcases he with rfl | rfl | rfl | rfl
   all_goals
    rcases hform with rfl | ⟨tx,ax,rfl⟩
    all_goals
     go_enter Tryz.func247,Tryz.ntmps247
     go_wp2_with fail
     refine HT.out.mono ?_
     rintro e w1 ⟨x,F2,rfl,hIW,hst,hF,hfm,hcells⟩
     rcases hIW with ⟨v,y,hv,_⟩ | ⟨c',hc',rfl,hc0,hc1⟩
     ·cases hv
     ·cases hc'
      have HCELLS:=hide hcells
      clear HT hcells
      go_wp2_with fail
      generalize hw4:w1.alloc _=w4
      have hB4:Below w1.heap.size w1 w4.drew:=by rw [←hw4]; exact ((Below.refl w1.heap.size w1).alloc (Nat.le_refl _) _).drew
      have hst4:=hst.below ok hB4
      have hfm4:=hfm.trans (Fm.below hB4 (Nat.le_trans ok.baser (Nat.le_of_lt hst.lt)))
      have hcall:=IH.out (t.part 1) it _ _ F2 st1 w4.drew (h0 1 (by omega)) (HT1.out.keeps hfm4.keeps) (HI.out.keeps hfm4.keeps) hst4
      rw [HFI.out,HRB.out] at hcall
      have HC:=hide (hcall.mono (R':=fun e w3=>PW (Ψ E F w fin) e w3∧TryCells w3 w.heap.size (w.heap.size + 1) (w.heap.size + 1 + 1) rb b b0 m c q1 _) (fun e w3 hp=>⟨PW.after hF hfm4 hp,by
       obtain ⟨_,⟨_,_,_,_,hf⟩,_⟩:=hp
       exact HCELLS.out w3 (fun k cs ty fz hk ht=>hf.imm k cs ty fz (ImmKeeps.below hB4 k cs ty fz hk ht) ht)⟩))
      have hS4:=HCELLS.out w4.drew (ImmKeeps.below hB4)
      clear hcall hst4 hfm4 hst hfm HT1 HI IH HCELLS hw4
      refine wp_region_held_drew (S:=fun w'=>TryCells w' w.heap.size (w.heap.size + 1) (w.heap.size + 1 + 1) rb b b0 m c q1 _) (by kernel_rfl) hS4 (fun hHeld=>?_)
      refine wpAnyH_take (i:=0) (v:=?_) rfl (by kernel_rfl) (by kernel_rfl) (by kernel_rfl) (fun _ _ _ h=>h) (Or.inl ⟨by rfl,?_⟩) (by assumption) ?_
      rotate_left
      ·intro w' hS'
       obtain ⟨s0,s1,s2,s3,s4⟩:=hS'
       go_simp
       try rw [if_pos hq0]
       try with_reducible rfl
      simp only [Act.put,List.setIfInBounds_toArray,List.set_cons_zero,List.set_cons_succ]
      refine wpAnyH_take (i:=1) (v:=?_) rfl (by kernel_rfl) (by kernel_rfl) (by kernel_rfl) (fun _ _ _ h=>h) (Or.inl ⟨by rfl,?_⟩) (by assumption) ?_
      rotate_left
      ·intro w' hS'
       obtain ⟨s0,s1,s2,s3,s4⟩:=hS'
       go_simp
       try rw [if_pos hq0]
       try with_reducible rfl
      simp only [Act.put,List.setIfInBounds_toArray,List.set_cons_zero,List.set_cons_succ]
      refine wpAnyH_take (i:=2) (v:=?_) rfl (by kernel_rfl) (by kernel_rfl) (by kernel_rfl) (fun _ _ _ h=>h) (Or.inl ⟨by rfl,?_⟩) (by assumption) ?_
      rotate_left
      ·intro w' hS'
       obtain ⟨s0,s1,s2,s3,s4⟩:=hS'
       go_simp
       try rw [if_pos hq0]
       try with_reducible rfl
      simp only [Act.put,List.setIfInBounds_toArray,List.set_cons_zero,List.set_cons_succ]
      refine wpAnyH_take (i:=3) (v:=?_) rfl (by kernel_rfl) (by kernel_rfl) (by kernel_rfl) (fun _ _ _ h=>h) (Or.inl ⟨by rfl,?_⟩) (by assumption) ?_
      rotate_left
      ·intro w' hS'
       obtain ⟨s0,s1,s2,s3,s4⟩:=hS'
       go_simp
       try rw [if_pos hq0]
       try with_reducible rfl
      simp only [Act.put,List.setIfInBounds_toArray,List.set_cons_zero,List.set_cons_succ]
      refine wpAnyH_take (i:=4) (v:=?_) rfl (by kernel_rfl) (by kernel_rfl) (by kernel_rfl) (fun _ _ _ h=>h) (Or.inl ⟨by rfl,?_⟩) (by assumption) ?_
      rotate_left
      ·intro w' hS'
       obtain ⟨s0,s1,s2,s3,s4⟩:=hS'
       go_simp
       try rw [if_pos hq0]
       try with_reducible rfl
      simp only [Act.put,List.setIfInBounds_toArray,List.set_cons_zero,List.set_cons_succ]
      refine wpAnyH_take (i:=5) (v:=?_) rfl (by kernel_rfl) (by kernel_rfl) (by kernel_rfl) (fun _ _ _ h=>h) (Or.inl ⟨by rfl,?_⟩) (by assumption) ?_
      rotate_left
      ·intro w' hS'
       obtain ⟨s0,s1,s2,s3,s4⟩:=hS'
       go_simp
       try rw [if_pos hq0]
       try with_reducible rfl
      simp only [Act.put,List.setIfInBounds_toArray,List.set_cons_zero,List.set_cons_succ]
      refine wpAnyH_take (i:=6) (v:=?_) rfl (by kernel_rfl) (by kernel_rfl) (by kernel_rfl) (fun _ _ _ h=>h) (Or.inl ⟨by rfl,?_⟩) (by assumption) ?_
      rotate_left
      ·intro w' hS'
       obtain ⟨s0,s1,s2,s3,s4⟩:=hS'
       go_simp
       try rw [if_pos hq0]
       try with_reducible rfl
      simp only [Act.put,List.setIfInBounds_toArray,List.set_cons_zero,List.set_cons_succ]
      refine wpAnyH_take (i:=7) (v:=?_) rfl (by kernel_rfl) (by kernel_rfl) (by kernel_rfl) (fun _ _ _ h=>h) (Or.inl ⟨by rfl,?_⟩) (by assumption) ?_
      rotate_left
      ·intro w' hS'
       obtain ⟨s0,s1,s2,s3,s4⟩:=hS'
       go_simp
       try rw [if_pos hq0]
       try with_reducible rfl
      simp only [Act.put,List.setIfInBounds_toArray,List.set_cons_zero,List.set_cons_succ]
      refine wpAnyH_ready (rs:=[8]) (by kernel_rfl) (by simp) ?_
      refine AllReadyH.cons rfl (fun K hK=>?_) AllReadyH.nil
      go_simp
      refine HC.out.mono ?_
      rintro e w3 ⟨hp,hS3⟩
      have hfin:=hp
      obtain ⟨r3,_,⟨v3,y3,_,rfl,hv3⟩ | ⟨c3,_,rfl,_⟩⟩:=hp
      ·obtain ⟨t3,a3,rfl⟩:=hv3.one
       have HFIN:=hide hfin
       clear hfin hv3
       refine hK.out _ _ hS3 (fun _=>?_)
       clear hK hHeld
       refine wpAnyH_ready (rs:=[9]) (by kernel_rfl) (by simp) ?_
       refine AllReadyH.cons rfl (fun K hK=>?_) AllReadyH.nil
       go_simp
       refine hK.out _ _ hS3 (fun _=>?_)
       clear hK
       refine wpAnyH_done (by kernel_rfl) ?_ _
       go_wp2_with fail
       go_ret
       exact HFIN.out
      ·exact ⟨rfl,hfin⟩
  ·show Calls _ _ _ _ (PW (Ψ E F w (if e1=7∨e1=8∨e1=9∨e1=10 then Lard.ev E.N n (t.part 1) it st1 else (.error e1,st1))))
   rw [if_neg he]
   have n7:((e1:Int) == 7)=false:=by rw [beq_eq_false_iff_ne]; omega
   have n8:((e1:Int) == 8)=false:=by rw [beq_eq_false_iff_ne]; omega
   have n9:((e1:Int) == 9)=false:=by rw [beq_eq_false_iff_ne]; omega
   have n10:((e1:Int) == 10)=false:=by rw [beq_eq_false_iff_ne]; omega
   rcases hform with rfl | ⟨tx,ax,rfl⟩
   all_goals
    go_enter Tryz.func247,Tryz.ntmps247
    go_wp2_with fail
    refine HT.out.mono ?_
    rintro e w1 ⟨x,F2,rfl,hIW,hst,hF,hfm,_⟩
    rcases hIW with ⟨v,y,hv,_⟩ | ⟨c',hc',rfl,hc0,hc1⟩
    ·cases hv
    ·cases hc'
     have hB4:∀ o,Below w1.heap.size w1 (w1.alloc o):=fun o=>(Below.refl _ w1).alloc (Nat.le_refl _) o
     have HTK:=hide (fun o=>take_worth (r:=.error e1) (w1.alloc o) (.inr ⟨e1,rfl,rfl,hc0,hc1⟩))
     clear HT
     go_wp2_with fail
     refine (HTK.out _).mono ?_
     rintro e w3 hpv
     obtain rfl:=hpv.2.2 e1 rfl
     exact ⟨rfl,PW.of_pv ok (hst.below ok (hB4 (Obj.cells #[.int .i64 (e1:Int),.nilIface] 113))) hF (hfm.trans (Fm.below (hB4 _) (Nat.le_trans ok.baser (Nat.le_of_lt hst.lt)))) hpv (fun c hc=>by cases hc; exact ⟨hc0,hc1⟩)⟩
end
section
set_option maxRecDepth 100000
set_option maxHeartbeats 8000000
open Go.RowKit Go.Shelf
theorem okT_node {n:Nat} {b:Bool} {t:Lard.T} (h:Lard.okT (n + 1) b t=true) :
  1≤t.kind∧t.kind≤16∧(t.kind=8∨t.parts.length=Lard.partsOf t.kind)∧t.parts.length≤200∧(t.kind=1→t.op=43∨t.op=45∨t.op=42∨t.op=47∨t.op=60∨t.op=61)∧(t.kind=13→t.op=109∨t.op=120∨t.op=64)∧(t.kind=2→t.is.isSome=true)∧(t.kind=4→b=true) ∧
  (t.kind=15∨t.kind=16→Lard.okT n b (t.part 0)=true∧Lard.okT n true (t.part 1)=true)∧(t.kind≠15→t.kind≠16→∀ j,j < t.parts.length→Lard.okT n b (t.part j)=true):=by
 unfold Lard.okT at h
 simp only [Bool.and_eq_true,decide_eq_true_eq,Bool.or_eq_true,beq_iff_eq,bne_iff_ne,ne_eq] at h
 obtain ⟨⟨⟨⟨⟨⟨⟨⟨h1,h2⟩,h3⟩,h4⟩,h5⟩,h6⟩,h7⟩,h8⟩,h9⟩:=h
 refine ⟨h1,h2,h3,h4,fun hk=>?_,fun hk=>?_,fun hk=>?_,fun hk=>?_,fun hk=>?_,fun hk hk' j hj=>?_⟩
 ·rcases h5 with h5 | h5
  ·exact absurd hk h5
  ·simpa using h5
 ·rcases h6 with h6 | h6
  ·exact absurd hk h6
  ·simpa using h6
 ·rcases h7 with h7 | h7
  ·exact absurd hk h7
  ·exact h7
 ·rcases h8 with h8 | h8
  ·exact absurd hk h8
  ·exact h8
 ·rw [if_pos hk] at h9
  simpa using h9
 ·rw [if_neg (by omega)] at h9
  have hu:t.parts[j]? = some (t.part j):=by
   rw [Lard.T.part,List.getElem?_eq_getElem hj]; rfl
  exact (List.all_eq_true.1 h9) _ (List.mem_of_getElem? hu)
theorem ev_def {σ:Type} (N:List UInt8→σ→Except Nat Lard.V×σ) (n:Nat) (t:Lard.T) (it:Option Lard.V) (s:Nat×σ):Lard.ev N (n + 1) t it s =
  (if t.kind=1 then Lard.firstE N (fun u s=>Lard.ev N n u it s) t s
  else if s.1=0 then (.error 11,s)
  else if t.kind=2 then ((match t.is with | some v=>.ok v | .none=>.error 11),(s.1 - 1,s.2))
  else if t.kind=3 then Lard.needE N t.name (s.1 - 1,s.2)
  else if t.kind=4 then ((match it with | some v=>.ok v | .none=>.error 11),(s.1 - 1,s.2))
  else if t.kind=14 then
   (match Lard.ev N n (t.part 0) it (s.1 - 1,s.2) with
   |(.ok v,s)=>(.ok v,s)
   |(.error e,s)=>if e=7∨e=8∨e=9∨e=10 then Lard.ev N n (t.part 1) it s else (.error e,s))
  else if t.kind=15 then Lard.thenR (Lard.ev N n (t.part 0) it (s.1 - 1,s.2)) fun v s =>
   (match Lard.listIn v with
   |.ok l=>Lard.seqE (fun u s=>Lard.ev N n (t.part 1) (some u) s) l [] s
   |.error e=>(.error e,s))
  else if t.kind=16 then Lard.thenR (Lard.ev N n (t.part 0) it (s.1 - 1,s.2)) fun v s =>
   (match Lard.listIn v with
   |.ok l=>Lard.someE (fun u s=>Lard.ev N n (t.part 1) (some u) s) l [] s
   |.error e=>(.error e,s))
  else if t.kind=8 then Lard.seqE (fun u s=>Lard.ev N n u it s) t.parts [] (s.1 - 1,s.2)
  else Lard.firstE N (fun u s=>Lard.ev N n u it s) t (s.1 - 1,s.2)):=rfl
theorem work_zero (E:Env) (n:Nat) (t:Lard.T) (it:Option Lard.V) (x xi:Value) (F:Nat→Prop) (s:E.σ) (w:World) (h2:2≤t.kind) (h16:t.kind≤16) (hx:IsTree w (n + 1) t x) (h:St E F (0,s) w) :
  Calls Tryz.prog 203 #[.pointer (some ⟨E.rb,0,none⟩),x,xi] w (PW (Ψ E F w (Lard.ev E.N (n + 1) t it (0,s)))):=by
 obtain ⟨b,i,o,m,c,rfl,nd⟩:=hx.node
 obtain ⟨c0,_,_,_,_⟩:=nd.cells w (Keeps.refl w)
 have hev:Lard.ev E.N (n + 1) t it (0,s)=(.error 11,(0,s)):=by rw [ev_def,if_neg (by omega),if_pos rfl]
 rw [hev]
 have HS:=hide (spend_none E F s w h)
 have HFIN:=hide (show PW (Ψ E F w (.error 11,(0,s))) (broken 11) w from ⟨.error 11,⟨rfl,F,h,fun k hk=>.inl hk,Fm.refl _ _⟩,.inr ⟨11,rfl,rfl,by omega,by omega⟩⟩)
 generalize hrb:E.rb=rb at HS
 clear hrb h hx nd
 obtain hk | hk | hk | hk | hk | hk | hk | hk | hk | hk | hk | hk | hk | hk | hk:t.kind=2∨t.kind=3∨t.kind=4∨t.kind=5∨t.kind=6∨t.kind=7∨t.kind=8∨t.kind=9∨t.kind=10∨t.kind=11∨t.kind=12∨t.kind=13∨t.kind=14∨t.kind=15∨t.kind=16:=by omega
 all_goals
  rw [hk] at c0
  clear hk
  go_enter Tryz.func203,Tryz.ntmps203
  go_wp2_with fail
  refine HS.out.mono ?_
  rintro e w1 ⟨rfl,rfl⟩
  exact ⟨rfl,HFIN.out⟩
theorem work_next (E:Env) (ok:EnvOK E) (n:Nat) (t:Lard.T) (x xi:Value) (F:Nat→Prop) (f:Nat) (s:E.σ) (w:World) (hz:f≠0) (fn:FuncId) (hx:IsTree w (n + 1) t x) (hform:xi=.nilIface∨∃ tx ax,xi=.iface tx ax) (h:St E F (f,s) w) (fin:Except Nat Lard.V×(Nat×E.σ))
  (hn:∀ b,x=.pointer (some ⟨b,0,none⟩)→∀ w1,St E F (f - 1,s) w1→Fm E.base w w1→Calls Tryz.prog fn (if t.kind=3 then #[.pointer (some ⟨E.rb,0,none⟩),.string ⟨t.name.toArray⟩] else #[.pointer (some ⟨E.rb,0,none⟩),.pointer (some ⟨b,0,none⟩),xi]) w1 (PW (Ψ E F w fin)))
  (hk:((t.kind=5∨t.kind=6∨t.kind=7∨t.kind=9∨t.kind=10∨t.kind=11∨t.kind=12∨t.kind=13)∧fn=251)∨(t.kind=8∧fn=250)∨(t.kind=14∧fn=247)∨(t.kind=15∧fn=248)∨(t.kind=16∧fn=249)∨(t.kind=3∧fn=246)) :
  Calls Tryz.prog 203 #[.pointer (some ⟨E.rb,0,none⟩),x,xi] w (PW (Ψ E F w fin)):=by
 obtain ⟨b,i,o,m,c,rfl,nd⟩:=hx.node
 have NC:=hide (fun w' hk'=>(nd.cells w' hk'))
 obtain ⟨c0,_,_,_,_⟩:=nd.cells w (Keeps.refl w)
 have HS:=hide (spend_some E ok F f s w h (by omega))
 have HNEXT:=hide (hn b rfl)
 generalize hrb:E.rb=rb at HS HNEXT
 clear hrb h hx nd hn
 rcases hk with ⟨hk | hk | hk | hk | hk | hk | hk | hk,rfl⟩ | ⟨hk,rfl⟩ | ⟨hk,rfl⟩ | ⟨hk,rfl⟩ | ⟨hk,rfl⟩ | ⟨hk,rfl⟩
 all_goals
  rw [hk] at c0
  go_enter Tryz.func203,Tryz.ntmps203
  go_wp2_with fail
  refine HS.out.mono ?_
  rintro e w1 ⟨rfl,hst,hfm,_⟩
  obtain ⟨k0,k1,k2,k3,k4⟩:=NC.out w1 hfm.keeps
  have HN:=HNEXT.out w1 hst hfm
  rw [hk] at k0 HN
  have HN:=hide HN
  clear HNEXT HS NC hk
  go_wp2_with fail
  refine HN.out.mono ?_
  rintro e w3 hp
  have hfin:=hp
  obtain ⟨r3,_,⟨v3,y3,_,rfl,hv3⟩ | ⟨c3,_,rfl,_⟩⟩:=hp
  ·obtain ⟨t3,a3,rfl⟩:=hv3.one
   have HFIN:=hide hfin
   clear hfin hv3 HN
   go_wp2_with fail
   go_ret
   exact HFIN.out
  ·exact ⟨rfl,hfin⟩
theorem work_val (E:Env) (ok:EnvOK E) (n:Nat) (t:Lard.T) (x xi:Value) (F:Nat→Prop) (f:Nat) (s:E.σ) (w:World) (hz:f≠0) (hx:IsTree w (n + 1) t x) (hform:xi=.nilIface∨∃ tx ax,xi=.iface tx ax) (h:St E F (f,s) w) (vv:Lard.V)
  (hw:(t.kind=2∧t.is=some vv)∨(t.kind=4∧IsVal w 3 vv xi)) :
  Calls Tryz.prog 203 #[.pointer (some ⟨E.rb,0,none⟩),x,xi] w (PW (Ψ E F w (.ok vv,(f - 1,s)))):=by
 obtain ⟨b,i,o,m,c,rfl,nd⟩:=hx.node
 have NC:=hide (fun w' hk'=>(nd.cells w' hk'))
 obtain ⟨c0,_,_,_,_⟩:=nd.cells w (Keeps.refl w)
 have HS:=hide (spend_some E ok F f s w h (by omega))
 have hV:∀ j,IsVal w 3 vv j→∀ (w1:World) (hst:St E F (f - 1,s) w1) (hfm:Fm E.base w w1),PW (Ψ E F w (.ok vv,(f - 1,s))) (.returned j) w1:=fun j hj w1 hst hfm=>⟨.ok vv,⟨rfl,F,hst,fun k hk=>.inl hk,hfm⟩,.inl ⟨vv,_,rfl,rfl,hj.keeps hfm.keeps⟩⟩
 have hk:(t.kind=2∧IsVal w 3 vv i)∨(t.kind=4∧IsVal w 3 vv xi):=by
  rcases hw with ⟨hk,h'⟩ | hk
  ·rcases nd.is with ⟨hn,_⟩ | ⟨v2,hv2,hs⟩
   ·rw [hn] at h'; cases h'
   ·rw [h'] at hv2; cases hv2; exact .inl ⟨hk,hs⟩
  ·exact .inr hk
 generalize hrb:E.rb=rb at HS
 clear hrb h hx nd hw
 rcases hk with ⟨hk,hvv⟩ | ⟨hk,hvv⟩
 all_goals
  have HV:=hide (hV _ hvv)
  obtain ⟨tv,av,rfl⟩:=hvv.one
  clear hvv hV
  rw [hk] at c0
  go_enter Tryz.func203,Tryz.ntmps203
  go_wp2_with fail
  refine HS.out.mono ?_
  rintro e w1 ⟨rfl,hst,hfm,_⟩
  obtain ⟨k0,k1,k2,k3,k4⟩:=NC.out w1 hfm.keeps
  rw [hk] at k0
  have HFIN:=hide (HV.out w1 hst hfm)
  clear HS NC HV
  go_wp2_with fail
  go_ret
  exact HFIN.out
theorem work_1 (E:Env) (ok:EnvOK E) (n:Nat) (ih:WorkSays E n) (t:Lard.T) (it:Option Lard.V) (x xi:Value) (F:Nat→Prop) (st:Nat×E.σ) (w:World) (hk:t.kind=1) (hok:Lard.okT (n + 1) it.isSome t=true) (hx:IsTree w (n + 1) t x) (hi:IsOpt w it xi) (h:St E F st w) :
  Calls Tryz.prog 203 #[.pointer (some ⟨E.rb,0,none⟩),x,xi] w (PW (Ψ E F w (Lard.ev E.N (n + 1) t it st))):=by
 obtain ⟨_,_,hparts,h200,hop1,hop13,his,hit,hth,hpt⟩:=okT_node hok
 have hev:Lard.ev E.N (n + 1) t it st=Lard.firstE E.N (fun u s=>Lard.ev E.N n u it s) t st:=by
  rw [ev_def,hk,if_pos rfl]
 rw [hev]
 have hcall:=workFirst_operator E ok n ih t it _ xi F st w hk (by rcases hparts with h' | h'; (· omega); (· rw [h',hk]; rfl)) (hpt (by omega) (by omega)) (by have:=hop1 hk; omega) hx hi h
 obtain ⟨b,i,o,m,c,rfl,nd⟩:=hx.node
 obtain ⟨c0,_,_,_,_⟩:=nd.cells w (Keeps.refl w)
 rw [hk] at c0
 generalize Lard.firstE E.N (fun u s=>Lard.ev E.N n u it s) t st=fin at hcall ⊢
 generalize E.rb=rb at hcall ⊢
 have HN:=hide hcall
 clear hcall h hx hi nd hev ih
 go_enter Tryz.func203,Tryz.ntmps203
 go_wp2_with fail
 refine HN.out.mono ?_
 rintro e w3 hp
 have hfin:=hp
 obtain ⟨r3,_,⟨v3,y3,_,rfl,hv3⟩ | ⟨c3,_,rfl,_⟩⟩:=hp
 ·obtain ⟨t3,a3,rfl⟩:=hv3.one
  have HFIN:=hide hfin
  clear hfin hv3 HN
  go_wp2_with fail
  go_ret
  exact HFIN.out
 ·exact ⟨rfl,hfin⟩
theorem work_all (E:Env) (ok:EnvOK E):∀ n,WorkSays E n
 |0=>fun t it x xi F st w hok _ _ _=>by cases hok
 |n + 1=>fun t it x xi F st w hok hx hi h=>by
  have ih:=work_all E ok n
  obtain ⟨h1,h16,hparts,h200,hop1,hop13,his,hit,hth,hpt⟩:=okT_node hok
  by_cases hk1:t.kind=1
  ·exact work_1 E ok n ih t it x xi F st w hk1 hok hx hi h
  obtain ⟨f,s⟩:=st
  by_cases hz:f=0
  ·subst hz
   exact work_zero E n t it x xi F s w (by omega) h16 hx h
  have hP:∀ {k},t.kind=k→k≠8→t.parts.length=Lard.partsOf k:=fun e hk=>by
   rcases hparts with h' | h'
   ·exact absurd (e.symm.trans h') hk
   ·rw [h',e]
  have hA:∀ {w1:World} {fin},Fm E.base w w1→∀ e w3,PW (Ψ E F w1 fin) e w3→PW (Ψ E F w fin) e w3:=fun hfm e w3 hp=>PW.after (fun k hk=>.inl hk) hfm hp
  have hN:=work_next E ok n t x xi F f s w hz
  obtain hk | hk | hk | hk | hk | hk | hk | hk | hk | hk | hk | hk | hk | hk | hk:t.kind=2∨t.kind=3∨t.kind=4∨t.kind=5∨t.kind=6∨t.kind=7∨t.kind=8∨t.kind=9∨t.kind=10∨t.kind=11∨t.kind=12∨t.kind=13∨t.kind=14∨t.kind=15∨t.kind=16:=by omega
  all_goals rw [ev_def]; simp only [hk,hz,if_true,if_false,Nat.reduceEqDiff]
  ·cases hv:t.is with
   |none=>have:=his hk; rw [hv] at this; cases this
   |some vv=>exact work_val E ok n t x xi F f s w hz hx hi.form h vv (.inl ⟨hk,hv⟩)
  ·refine hN _ hx hi.form h _ (fun b hb w1 hst hfm=>?_) (.inr (.inr (.inr (.inr (.inr ⟨hk,rfl⟩)))))
   rw [if_pos hk]
   obtain ⟨_,_,_,_,_,_,nd⟩:=hx.node
   exact (needS_any E ok F (f - 1,s) ⟨t.name.toArray⟩ w1 hst (by show t.name.toArray.size≤200; simpa using nd.name) (by have:=h.le; show E.cnt s + (f - 1) < 400; have:E.cnt s + f≤400:=this; omega)).mono (hA hfm)
  ·rcases hi with ⟨rfl,_⟩ | ⟨vv,rfl,hs⟩
   ·have:=hit hk; cases this
   ·exact work_val E ok n t x xi F f s w hz hx (.inr hs.one) h vv (.inr ⟨hk,hs⟩)
  ·refine hN _ hx hi.form h _ (fun b hb w1 hst hfm=>?_) (.inl ⟨by omega,rfl⟩)
   rw [if_neg (by omega),←hb]
   exact (workFirst_minus E ok n ih t it _ xi F (f - 1,s) w1 hk (hP hk (by decide)) (hpt (by omega) (by omega)) (hx.keeps hfm.keeps) (hi.keeps hfm.keeps) hst).mono (hA hfm)
  ·refine hN _ hx hi.form h _ (fun b hb w1 hst hfm=>?_) (.inl ⟨by omega,rfl⟩)
   rw [if_neg (by omega),←hb]
   exact (workFirst_group E ok n ih t it _ xi F (f - 1,s) w1 hk (hP hk (by decide)) (hpt (by omega) (by omega)) (hx.keeps hfm.keeps) (hi.keeps hfm.keeps) hst).mono (hA hfm)
  ·refine hN _ hx hi.form h _ (fun b hb w1 hst hfm=>?_) (.inl ⟨by omega,rfl⟩)
   rw [if_neg (by omega),←hb]
   exact (workFirst_key E ok n ih t it _ xi F (f - 1,s) w1 hk (hP hk (by decide)) (hpt (by omega) (by omega)) (hx.keeps hfm.keeps) (hi.keeps hfm.keeps) hst (by have:E.cnt s + f≤400:=h.le; show E.cnt s + (f - 1) < 400; omega)).mono (hA hfm)
  ·refine hN _ hx hi.form h _ (fun b hb w1 hst hfm=>?_) (.inr (.inl ⟨hk,rfl⟩))
   rw [if_neg (by omega),←hb]
   exact (list_any E ok n ih t it _ xi F (f - 1,s) w1 h200 (hpt (by omega) (by omega)) (hx.keeps hfm.keeps) (hi.keeps hfm.keeps) hst).mono (hA hfm)
  ·refine hN _ hx hi.form h _ (fun b hb w1 hst hfm=>?_) (.inl ⟨by omega,rfl⟩)
   rw [if_neg (by omega),←hb]
   exact (workFirst_if E ok n ih t it _ xi F (f - 1,s) w1 hk (hP hk (by decide)) (hpt (by omega) (by omega)) (hx.keeps hfm.keeps) (hi.keeps hfm.keeps) hst).mono (hA hfm)
  ·refine hN _ hx hi.form h _ (fun b hb w1 hst hfm=>?_) (.inl ⟨by omega,rfl⟩)
   rw [if_neg (by omega),←hb]
   exact (workFirst_size E ok n ih t it _ xi F (f - 1,s) w1 hk (hP hk (by decide)) (hpt (by omega) (by omega)) (hx.keeps hfm.keeps) (hi.keeps hfm.keeps) hst).mono (hA hfm)
  ·refine hN _ hx hi.form h _ (fun b hb w1 hst hfm=>?_) (.inl ⟨by omega,rfl⟩)
   rw [if_neg (by omega),←hb]
   exact (workFirst_sum E ok n ih t it _ xi F (f - 1,s) w1 hk (hP hk (by decide)) (hpt (by omega) (by omega)) (hx.keeps hfm.keeps) (hi.keeps hfm.keeps) hst).mono (hA hfm)
  ·refine hN _ hx hi.form h _ (fun b hb w1 hst hfm=>?_) (.inl ⟨by omega,rfl⟩)
   rw [if_neg (by omega),←hb]
   exact (workFirst_word E ok n ih t it _ xi F (f - 1,s) w1 hk (hP hk (by decide)) (hpt (by omega) (by omega)) (hx.keeps hfm.keeps) (hi.keeps hfm.keeps) hst).mono (hA hfm)
  ·refine hN _ hx hi.form h _ (fun b hb w1 hst hfm=>?_) (.inl ⟨by omega,rfl⟩)
   rw [if_neg (by omega),←hb]
   exact (workFirst_both E ok n ih t it _ xi F (f - 1,s) w1 hk (hP hk (by decide)) (hpt (by omega) (by omega)) (by have:=hop13 hk; omega) (hx.keeps hfm.keeps) (hi.keeps hfm.keeps) hst).mono (hA hfm)
  ·refine hN _ hx hi.form h _ (fun b hb w1 hst hfm=>?_) (.inr (.inr (.inl ⟨hk,rfl⟩)))
   rw [if_neg (by omega),←hb]
   have:=try_any E ok n ih t it _ xi F (f - 1,s) w1 (hP hk (by decide)) (hpt (by omega) (by omega)) (hx.keeps hfm.keeps) (hi.keeps hfm.keeps) hst
   unfold tryE at this
   try dsimp only at this
   generalize Lard.ev E.N n (t.part 0) it (f - 1,s)=q at this ⊢
   obtain ⟨r,s'⟩:=q
   cases r <;> exact this.mono (hA hfm)
  ·refine hN _ hx hi.form h _ (fun b hb w1 hst hfm=>?_) (.inr (.inr (.inr (.inl ⟨hk,rfl⟩))))
   rw [if_neg (by omega),←hb]
   exact (each_any E ok n ih t it _ xi F (f - 1,s) w1 (hP hk (by decide)) (hth (.inl hk)).1 (hth (.inl hk)).2 (hx.keeps hfm.keeps) (hi.keeps hfm.keeps) hst).mono (hA hfm)
  ·refine hN _ hx hi.form h _ (fun b hb w1 hst hfm=>?_) (.inr (.inr (.inr (.inr (.inl ⟨hk,rfl⟩)))))
   rw [if_neg (by omega),←hb]
   exact (some_any E ok n ih t it _ xi F (f - 1,s) w1 (hP hk (by decide)) (hth (.inr hk)).1 (hth (.inr hk)).2 (hx.keeps hfm.keeps) (hi.keeps hfm.keeps) hst).mono (hA hfm)
end
section
set_option maxRecDepth 100000
set_option maxHeartbeats 2000000
open Go.RowKit Go.Shelf
theorem needs1_any (E:Env) (ok:EnvOK E) (n:Nat) (t:Lard.T) (p0 b:Nat) (F:Nat→Prop) (st:Nat×E.σ) (w:World) (hok:Lard.okT n false t=true) (htree:E.tree=.pointer (some ⟨b,0,none⟩)) (hx:IsTree w n t (.pointer (some ⟨b,0,none⟩))) (h:St E F st w)
  (d0:w.heap[p0]? = some (.cells #[.pointer (some ⟨E.rb,0,none⟩)] 242 (0,0))) :
  Calls Tryz.prog 202 #[.pointer (some ⟨p0,0,none⟩)] w (PW (Ψ E F w (Lard.ev E.N n t none st))):=by
 have hBd:Below w.heap.size w w.drew:=(Below.refl _ w).drew
 have hfmd:Fm E.base w w.drew:=Fm.below hBd (Nat.le_trans ok.baser (Nat.le_of_lt h.lt))
 have hcall:=(work_all E ok n t none _ .nilIface F st w.drew hok (hx.keeps hfmd.keeps) (.inl ⟨rfl,rfl⟩) (h.below ok hBd)).mono (fun e w3 hp=>PW.after (fun k hk=>.inl hk) hfmd hp)
 have cells:∀ w3 F3 st3,Fm E.base w w3→St E F3 st3 w3→w3.cell? ⟨p0,0,none⟩=some (.pointer (some ⟨E.rb,0,none⟩))∧w3.cell? ⟨E.rb,0,none⟩=some (.pointer (some ⟨b,0,none⟩)):=fun w3 F3 st3 hf hs=>by
  have f0:=hf.imm _ _ _ _ d0 (.inr (.inr rfl))
  obtain ⟨tc,ti,hr⟩:=hs.run
  rw [RunAt,htree] at hr
  exact ⟨by simp [World.cell?,f0],by simp [World.cell?,hr]⟩
 have hcall:=hcall.mono (R':=fun e w3=>PW (Ψ E F w (Lard.ev E.N n t none st)) e w3∧_) (fun e w3 hp=>⟨hp,by
  obtain ⟨_,⟨_,F3,hs,_,hf⟩,_⟩:=hp
  exact cells w3 F3 _ hf hs⟩)
 obtain ⟨d0,d1⟩:=cells w F st (Fm.refl _ _) h
 clear cells
 generalize Lard.ev E.N n t none st=q at hcall ⊢
 generalize E.rb=rb at hcall d0 d1
 have HC:=hide hcall
 clear hx h hfmd hcall
 go_enter Tryz.func202,Tryz.ntmps202
 go_wp2_with fail
 refine wp_region_held_drew (S:=fun w'=>w'.cell? ⟨p0,0,none⟩=some (.pointer (some ⟨rb,0,none⟩))∧w'.cell? ⟨rb,0,none⟩=some (.pointer (some ⟨b,0,none⟩))) (by kernel_rfl) ⟨d0,d1⟩ (fun hHeld=>?_)
 refine wpAnyH_take (i:=0) (v:=?_) rfl (by kernel_rfl) (by kernel_rfl) (by kernel_rfl) (fun _ _ _ h=>h) (Or.inl ⟨by rfl,?_⟩) (by assumption) ?_
 rotate_left
 ·intro w' hS'
  obtain ⟨s0,s1⟩:=hS'
  go_simp
  try with_reducible rfl
 simp only [Act.put,List.setIfInBounds_toArray,List.set_cons_zero,List.set_cons_succ]
 refine wpAnyH_take (i:=1) (v:=?_) rfl (by kernel_rfl) (by kernel_rfl) (by kernel_rfl) (fun _ _ _ h=>h) (Or.inl ⟨by rfl,?_⟩) (by assumption) ?_
 rotate_left
 ·intro w' hS'
  obtain ⟨s0,s1⟩:=hS'
  go_simp
  try with_reducible rfl
 simp only [Act.put,List.setIfInBounds_toArray,List.set_cons_zero,List.set_cons_succ]
 refine wpAnyH_take (i:=2) (v:=?_) rfl (by kernel_rfl) (by kernel_rfl) (by kernel_rfl) (fun _ _ _ h=>h) (Or.inl ⟨by rfl,?_⟩) (by assumption) ?_
 rotate_left
 ·intro w' hS'
  obtain ⟨s0,s1⟩:=hS'
  go_simp
  try with_reducible rfl
 simp only [Act.put,List.setIfInBounds_toArray,List.set_cons_zero,List.set_cons_succ]
 refine wpAnyH_take (i:=3) (v:=?_) rfl (by kernel_rfl) (by kernel_rfl) (by kernel_rfl) (fun _ _ _ h=>h) (Or.inl ⟨by rfl,?_⟩) (by assumption) ?_
 rotate_left
 ·intro w' hS'
  obtain ⟨s0,s1⟩:=hS'
  go_simp
  try with_reducible rfl
 simp only [Act.put,List.setIfInBounds_toArray,List.set_cons_zero,List.set_cons_succ]
 refine wpAnyH_take (i:=4) (v:=?_) rfl (by kernel_rfl) (by kernel_rfl) (by kernel_rfl) (fun _ _ _ h=>h) (Or.inl ⟨by rfl,?_⟩) (by assumption) ?_
 rotate_left
 ·intro w' hS'
  obtain ⟨s0,s1⟩:=hS'
  go_simp
  try with_reducible rfl
 simp only [Act.put,List.setIfInBounds_toArray,List.set_cons_zero,List.set_cons_succ]
 refine wpAnyH_ready (rs:=[5]) (by kernel_rfl) (by simp) ?_
 refine AllReadyH.cons rfl (fun K hK=>?_) AllReadyH.nil
 go_simp
 refine HC.out.mono ?_
 rintro e w3 ⟨hp,hS3⟩
 have hfin:=hp
 obtain ⟨r3,_,⟨v3,y3,_,rfl,hv3⟩ | ⟨c3,_,rfl,_⟩⟩:=hp
 ·obtain ⟨t3,a3,rfl⟩:=hv3.one
  have HFIN:=hide hfin
  clear hfin hv3
  refine hK.out _ _ hS3 (fun _=>?_)
  clear hK hHeld
  refine wpAnyH_ready (rs:=[6]) (by kernel_rfl) (by simp) ?_
  refine AllReadyH.cons rfl (fun K hK=>?_) AllReadyH.nil
  go_simp
  refine hK.out _ _ hS3 (fun _=>?_)
  clear hK
  refine wpAnyH_done (by kernel_rfl) ?_ _
  go_wp2_with fail
  go_ret
  exact HFIN.out
 ·exact ⟨rfl,hfin⟩
end
end Go.Proofs.YtpekpdimdelncaaGreatDoor
