/- Out of: L22, L23, Bg3, Pr. -/
import Derived.Test.YtpekpdimdelncaaGreatDoorP21
set_option linter.unusedVariables false
set_option linter.unusedSimpArgs false
namespace Go.Proofs.YtpekpdimdelncaaGreatDoor
section
set_option maxRecDepth 100000
set_option maxHeartbeats 1000000
open Go.RowKit Go.Shelf
def zCause:Array Value:=#[.string ⟨#[]⟩,.string ⟨#[]⟩,.int .i64 0,.string ⟨#[]⟩,.int .i64 0,.string ⟨#[]⟩]
theorem due_none (w:World) (lb:Nat) (key:ByteArray) :
  Calls Tryz.prog 124 #[ptr lb,.string key,.pointer none] w fun e w'=>e=.returned (.tuple #[.agg (whyCells ⟨key.data.toList,[],.error 0,.error 0⟩).toArray,.bool true])∧Below w.heap.size w w':=by
 unfold ptr
 go_enter Tryz.func124,Tryz.ntmps124
 go_wp2_with fail
 have hk:(whyCells ⟨key.data.toList,[],.error 0,.error 0⟩).toArray=#[.string key,.string ⟨#[]⟩,.int .i64 0,.string ⟨#[]⟩,.int .i64 0,.string ⟨#[]⟩]:=by
  simp [whyCells,woCells,str]
 rw [hk]
 exact bodyPost_ret (v:=.tuple #[.agg #[.string key,.string ⟨#[]⟩,.int .i64 0,.string ⟨#[]⟩,.int .i64 0,.string ⟨#[]⟩],.bool true]) (by simp [results,Tryz.results124,go_sem]) rfl ⟨rfl,(Below.refl _ w).alloc (Nat.le_refl _) _⟩
theorem sameW_O (a b:Lard.Wo):sameW a b=Lard.sameO a b:=by
 cases a <;> cases b <;> rfl
theorem due_round {w wr:World} {lb:Nat} {s s':Lard.LS} {L:Nat→Prop} {Br:List UInt8→Lard.LS→Lard.Wo×Lard.LS} {P:Lard.LS→Prop} (HB:BSays lb Br P) (h:LAt w lb s L) (g:G w) (hd:Deb w) {ns:List (List UInt8×Lard.Wo)} {sl:Value} (hN:NeedsAt w ns sl) (hown:∀ gk,sl.ownBlock=some gk→L gk)
  (hP:LPost (w.alloc (.cells zCause 61)) lb L s' wr) (hPs:P s') {k:Nat} {nd:List UInt8×Lard.Wo} (hnd:ns[k]? = some nd) :
  ∃ (g0 cp:Nat) (nk:ByteArray) (cn:Int) (yn:Value),sl=.slice (some ⟨g0,0,none⟩) ns.length cp∧nk.data.toList=nd.1∧(yn=.nilIface∨∃ t a,yn=.iface t a)∧g0 < wr.heap.size ∧
   wr.cell? ⟨g0,k * 3,none⟩=some (.string nk)∧wr.cell? ⟨g0,k * 3 + 1,none⟩=some (.int .i64 cn)∧wr.cell? ⟨g0,k * 3 + 2,none⟩=some yn ∧
   Calls Tryz.prog 49 #[.pointer (some ⟨lb,0,none⟩),.string nk] (wr.alloc (.cells #[.string nk,.int .i64 cn,yn] 133)) fun e w2=>∃ (c2:Int) (y2:Value),e=.returned (.agg #[.int .i64 c2,y2])∧(y2=.nilIface∨∃ t a,y2=.iface t a) ∧
    IsW w2 (Br nd.1 s').1 (.agg #[.int .i64 c2,y2])∧IsW w2 nd.2 (.agg #[.int .i64 cn,yn])∧w2.heap[wr.heap.size]? = some (.cells #[.string nk,.int .i64 cn,yn] 133 (0,0))∧G w2∧wr.heap.size < w2.heap.size ∧
    LPost (w.alloc (.cells zCause 61)) lb L (Br nd.1 s').2 w2∧Phi (Br nd.1 s').2≤Phi s'∧Lard.Nst s' (Br nd.1 s').2 1:=by
 have hBz:Below w.heap.size w (w.alloc (.cells zCause 61)):=(Below.refl _ _).alloc (Nat.le_refl _) _
 have hA0:LAt (w.alloc (.cells zCause 61)) lb s L:=h.st (fun k hk=>hBz.block k (h.typed k hk).2.1) (Stay.below hBz)
 have g0:=g.below hBz g.size
 have d0:=hd.below hBz g.size
 have gr:=hP.g hA0 g0
 have dr:=hP.deb hA0 g0 d0
 have hkr:=hP.keeps hA0
 obtain ⟨L',hA',h2',h3',hf⟩:=hP
 have hNr:NeedsAt wr ns sl:=hN.st (fun gk hgk cs fz hc=>hf.k2 gk (hown gk hgk) cs _ fz ((hBz.block gk (lt_of_some hc)).trans hc) (.inr rfl)) ((Stay.below hBz).trans hkr.stay)
 obtain ⟨o,cp,hsl,hcell⟩:=hNr.cell
 obtain ⟨gg,x0,y0,ho,hglt,hn200,e0,e1,e2,hWn⟩:=hcell k nd hnd
 subst ho
 obtain ⟨cn,yn,hen,hyn⟩:=hWn.form
 cases hen
 have hnk:(⟨nd.1.toArray⟩:ByteArray).data.toList=nd.1:=rfl
 refine ⟨gg,cp,⟨nd.1.toArray⟩,cn,y0,hsl,hnk,hyn,hglt,e0,e1,e2,?_⟩
 have hB1:Below wr.heap.size wr (wr.alloc (.cells #[.string ⟨nd.1.toArray⟩,.int .i64 cn,y0] 133)):=(Below.refl _ _).alloc (Nat.le_refl _) _
 have hA1:LAt (wr.alloc (.cells #[.string ⟨nd.1.toArray⟩,.int .i64 cn,y0] 133)) lb s' L':=hA'.st (fun k hk=>hB1.block k (hA'.typed k hk).2.1) (Stay.below hB1)
 refine (HB _ s' L' ⟨nd.1.toArray⟩ hA1 (gr.below hB1 gr.size) (dr.below hB1 gr.size) hPs (by rw [size_mk]; exact hn200)).mono ?_
 rintro e w2 ⟨x2,rfl,hW2,hP2,hPhi2,hN2⟩
 obtain ⟨c2,y2,rfl,hy2⟩:=hW2.form
 have hk2:=hP2.keeps hA1
 have g2:=hP2.g hA1 (gr.below hB1 gr.size)
 refine ⟨c2,y2,rfl,hy2,hW2,(hWn.keeps (Keeps.below hB1)).keeps hk2,?_,g2,?_,?_,hPhi2,hN2⟩
 ·obtain ⟨L2,p1,p2,p3,p4⟩:=hP2
  exact (p4.block wr.heap.size (by simp) (fun hl=>by have:=(hA'.typed _ hl).2.1; omega)).trans (heap_alloc_new wr _)
 ·have:=hP2.size
  rw [World.size_alloc] at this
  omega
 ·have hw1:LPost (w.alloc (.cells zCause 61)) lb L s' (wr.alloc (.cells #[.string ⟨nd.1.toArray⟩,.int .i64 cn,y0] 133)):=by
   refine ⟨L',hA1,h2',h3',hf.trans (Frw.below (L:=L') hB1) h2' h3'⟩
  obtain ⟨L2,p1,p2,p3,p4⟩:=hP2
  refine ⟨L2,p1,fun k hk=>?_,fun k hk=>p3 k (h3' k hk),(hf.trans (Frw.below (L:=L') hB1) h2' h3').trans p4 h2' h3'⟩
  rcases p2 k hk with h | h
  ·exact h2' k h
  ·have:=hf.size
   rw [World.size_alloc] at h
   exact .inr (by omega)
theorem due_fin {w wr:World} {lb:Nat} {s s':Lard.LS} {L:Nat→Prop} (h:LAt w lb s L) (hP:LPost (w.alloc (.cells zCause 61)) lb L s' wr) :
  wr.heap[w.heap.size]? = some (.cells zCause 61 (0,0))∧∀ wf,wr.grownBy wf (some w.heap.size)→LPost w lb L s' wf:=by
 obtain ⟨L',h1,h2,h3,h4⟩:=hP
 have hBz:Below w.heap.size w (w.alloc (.cells zCause 61)):=(Below.refl _ _).alloc (Nat.le_refl _) _
 have hLlt:∀ k,L k→k < w.heap.size:=fun k hk=>(h.typed k hk).2.1
 have hnL:¬ L w.heap.size:=fun hk=>by have:=hLlt _ hk; omega
 have hn:wr.heap[w.heap.size]? = some (.cells zCause 61 (0,0)):=(h4.block _ (by simp) hnL).trans (heap_alloc_new w _)
 refine ⟨hn,fun wf hg=>?_⟩
 have hnL':¬ L' w.heap.size:=fun hk=>by
  rcases h2 _ hk with h | h
  ·exact hnL h
  ·rw [World.size_alloc] at h; omega
 have hst:Stay wr wf:=stay_grown hg (fun cs t fz hb=>by rw [hn] at hb; cases hb; rintro (h | h | h) <;> cases h)
 have hsm:∀ k,k < wr.heap.size→k≠w.heap.size→wf.heap[k]? = wr.heap[k]? := fun k hk hne=>hg.block k hk (fun e=>hne (Option.some.inj e))
 have hsz0:w.heap.size≤wr.heap.size:=Nat.le_trans (by simp) h4.size
 refine ⟨L',h1.st (fun k hk=>hsm k (h1.typed k hk).2.1 (fun e=>hnL' (e ▸ hk))) hst,fun k hk=>?_,h3,⟨⟨(hg.os.trans h4.os).trans hBz.os,(hg.tape.trans h4.tape).trans hBz.tape,(hg.output.trans h4.output).trans hBz.output,Nat.le_trans hsz0 hg.size,fun k hk hnl=>?_⟩,fun k hk cs t fz hc hkt=>?_,fun hb hlt hc=>?_⟩⟩
 ·rcases h2 k hk with h | h
  ·exact .inl h
  ·simp at h
   exact .inr (by omega)
 ·exact (hsm k (by omega) (by omega)).trans ((h4.block k (by simp; omega) hnl).trans (hBz.block k hk))
 ·have hlk:=lt_of_some hc
  exact (hsm k (by omega) (by omega)).trans (h4.k2 k hk cs t fz ((hBz.block k hlk).trans hc) hkt)
 ·have hlb:lb < w.heap.size:=hLlt _ h.here
  obtain ⟨h5,h6⟩:=h4.hasm hb (by simp; omega) ((World.cell?_of_block (hBz.block lb hlb)).trans hc)
  exact ⟨(World.cell?_of_block (hsm lb (by omega) (by show lb≠_; omega))).trans h5,(hsm hb (by omega) (by omega)).trans (h6.trans (hBz.block hb hlt))⟩
end
section
set_option maxRecDepth 100000
set_option maxHeartbeats 1000000
open Go.RowKit Go.Shelf
theorem told_form (r:Lard.Wo):∃ (tc:Int) (ts:ByteArray),toldV r=.agg #[.int .i64 tc,.string ts]∧woCells r=[.int .i64 tc,.string ts]:=by
 cases r with
 |ok v=>exact ⟨_,_,rfl,rfl⟩
 |error c=>exact ⟨_,_,rfl,rfl⟩
theorem cell_third {W:World} {k:Nat} {a b c:Value} {t:TypeId} {fz:Nat×Nat} (h:W.heap[k]? = some (.cells #[a,b,c] t fz)):W.cell? ⟨k,2,none⟩=some c:=by simp [World.cell?,h]
theorem due_any (w:World) (lb kb:Nat) (key:ByteArray) (Br:List UInt8→Lard.LS→Lard.Wo×Lard.LS) (P:Lard.LS→Prop) (HB:BSays lb Br P) (s:Lard.LS) (L:Nat→Prop) (h:LAt w lb s L) (g:G w) (hd:Deb w) (kp:Lard.Keep) (hkp:KeepAt w L kp kb)
  (hP:∀ s' c,Lard.Nst s s' c→c≤401→Phi s'≤Phi s→P s') :
  Calls Tryz.prog 124 #[ptr lb,.string key,ptr kb] w fun e w'=>LPost w lb L (Lard.dueL Br key.data.toList kp.needs s).2 w'∧Phi (Lard.dueL Br key.data.toList kp.needs s).2≤Phi s∧Lard.Nst s (Lard.dueL Br key.data.toList kp.needs s).2 401 ∧
   (((Lard.dueL Br key.data.toList kp.needs s).1=none∧e=.returned (.tuple #[.agg zCause,.bool false]))∨∃ y,(Lard.dueL Br key.data.toList kp.needs s).1=some y∧e=.returned (.tuple #[.agg (whyCells y).toArray,.bool true])):=by
 obtain ⟨cw,iw,sl,hkb,hLkb,hWk,hNk,hown,hlen⟩:=hkp
 have c2:(w.alloc (.cells zCause 61)).cell? ⟨kb,2,none⟩=some sl:=(World.cell?_of_block (Below.heap_alloc w _ kb (lt_of_some hkb))).trans (by simp [World.cell?,hkb])
 obtain ⟨o,cp,rfl⟩:=hNk.len
 generalize hR:(fun (e:Ending) (w':World)=>LPost w lb L (Lard.dueL Br key.data.toList kp.needs s).2 w'∧Phi (Lard.dueL Br key.data.toList kp.needs s).2≤Phi s∧Lard.Nst s (Lard.dueL Br key.data.toList kp.needs s).2 401 ∧
   (((Lard.dueL Br key.data.toList kp.needs s).1=none∧e=.returned (.tuple #[.agg zCause,.bool false]))∨∃ y,(Lard.dueL Br key.data.toList kp.needs s).1=some y∧e=.returned (.tuple #[.agg (whyCells y).toArray,.bool true])))=R
 have hBz:Below w.heap.size w (w.alloc (.cells zCause 61)):=(Below.refl _ _).alloc (Nat.le_refl _) _
 have HA:=hide h
 have HP0:=hide (LPost.refl (h.st (fun k hk=>hBz.block k (h.typed k hk).2.1) (Stay.below hBz)))
 have HNK:=hide hNk
 have HPP:=hide hP
 have HBB:=hide HB
 clear hNk hP HB
 unfold zCause at c2
 unfold ptr
 go_enter Tryz.func124,Tryz.ntmps124
 go_wp2_with fail
 go_loopw [20] (fun i wr=>∃ (k:Nat) (s':Lard.LS),k≤kp.needs.length∧i=.int .i64 k∧Lard.dueL Br key.data.toList kp.needs s=Lard.dueL Br key.data.toList (kp.needs.drop k) s'∧LPost (w.alloc (.cells zCause 61)) lb L s' wr∧Lard.Nst s s' k∧Phi s'≤Phi s) (fun i _=>kp.needs.length - (intOf i).toNat)
 case atStart=>exact ⟨0,s,Nat.zero_le _,rfl,rfl,HP0.out,Lard.Nst.refl _ _,Nat.le_refl _⟩
 case round =>
  obtain ⟨k,s',hk',rfl,hdue,hPk,hNk',hPhik⟩:=hrel
  by_cases hlt:k < kp.needs.length
  ·obtain ⟨nd,hnd⟩:∃ nd,kp.needs[k]? = some nd:=⟨_,List.getElem?_eq_getElem hlt⟩
   obtain ⟨g0,cp',nk,cn,yn,hsl,hnk,hyn,hglt,e0,e1,e2,hbr⟩:=due_round HBB.out HA.out g hd HNK.out hown hPk (HPP.out _ _ hNk' (by omega) hPhik) hnd
   cases hsl
   have HBR:=hide hbr
   have HPk:=hide hPk
   have HWR:Hid (w.heap.size < wr.heap.size):=hide (by have:=hPk.size; rw [World.size_alloc] at this; omega)
   have hstep:Lard.dueL Br key.data.toList (kp.needs.drop k) s'=if Lard.sameO (Br nd.1 s').1 nd.2=true then Lard.dueL Br key.data.toList (kp.needs.drop (k + 1)) (Br nd.1 s').2 else (some ⟨key.data.toList,nd.1,nd.2,(Br nd.1 s').1⟩,(Br nd.1 s').2):=by
    have:kp.needs.drop k=nd :: kp.needs.drop (k + 1):=by
     rw [List.getElem?_eq_getElem hlt] at hnd
     cases hnd
     exact List.drop_eq_getElem_cons hlt
    rw [this]
    rfl
   have HST:=hide hstep
   clear hbr hPk hstep c2
   rcases hyn with rfl | ⟨tn,an,rfl⟩
   all_goals
    go_wp2_with fail
    refine HBR.out.mono ?_
    rintro e w2 ⟨c2,y2,rfl,hy2,hW2,hWn2,hbn,g2,hlt2,hP2,hPhi2,hN2⟩
    have hbn2:∀ o',(w2.alloc o').heap[wr.heap.size]? = some _:=fun o'=>(Below.heap_alloc w2 o' _ hlt2).trans hbn
    have f0:∀ o',(w2.alloc o').cell? ⟨wr.heap.size,0,none⟩=some (.string nk):=fun o'=>by simp [World.cell?,hbn2 o']
    have f1:∀ o',(w2.alloc o').cell? ⟨wr.heap.size,1,none⟩=some (.int .i64 cn):=fun o'=>by simp [World.cell?,hbn2 o']
    have f2:∀ o',(w2.alloc o').cell? ⟨wr.heap.size,2,none⟩=some _:=fun o'=>cell_third (hbn2 o')
    have hBo:∀ o',Below w2.heap.size w2 (w2.alloc o'):=fun o'=>(Below.refl _ _).alloc (Nat.le_refl _) o'
    have HSM:=hide (fun o'=>same_worth (w2.alloc o') (hW2.keeps (Keeps.below (hBo o'))) (hWn2.keeps (Keeps.below (hBo o'))))
    have HW2:=hide hW2
    have HWn2:=hide hWn2
    have HP2:=hide hP2
    clear hW2 hWn2 hP2 HBR hbn hbn2 HPk
    rcases hy2 with rfl | ⟨t2,a2,rfl⟩
    all_goals
     go_wp2_with fail
     refine (HSM.out _).mono ?_
     rintro e w4 ⟨rfl,hB4⟩
     rw [sameW_O]
     have hB24:=(hBo _).trans (hB4.mono (by simp))
     by_cases hs:Lard.sameO (Br nd.1 s').1 nd.2=true
     ·rw [hs]
      have hrel2:Lard.dueL Br key.data.toList kp.needs s=Lard.dueL Br key.data.toList (kp.needs.drop (k + 1)) (Br nd.1 s').2:=by
       rw [hdue,HST.out,if_pos hs]
      have hP4:=HP2.out.trans (fun L' h'=>LPost.below h' hB24)
      have HREL:=hide (And.intro hrel2 hP4)
      clear hrel2 hP4 HSM
      go_wp2_with fail
      refine ⟨⟨k + 1,_,by omega,by go_num,HREL.out.1,HREL.out.2,hNk'.trans hN2,Nat.le_trans hPhi2 hPhik⟩,?_⟩
      simp [intOf]; omega
     ·have hs':Lard.sameO (Br nd.1 s').1 nd.2=false:=by simpa using hs
      rw [hs']
      go_wp2_with fail
      rename_i K5 HK5
      refine wp_onlyN K5 (fun a w h=>h) ?_
      have k2:=(hB4.cell (p:=⟨wr.heap.size,2,none⟩) (by show wr.heap.size < _; simp; omega)).trans (f2 _)
      have k4:=hB4.cell (p:=⟨w2.heap.size,1,none⟩) (by show w2.heap.size < _; simp)
      simp [go_sem] at k4
      have hS4:w4.cell? ⟨wr.heap.size,0,none⟩=some (.string nk)∧w4.cell? ⟨wr.heap.size,1,none⟩=some (.int .i64 cn)∧w4.cell? ⟨wr.heap.size,2,none⟩=w4.cell? ⟨wr.heap.size,2,none⟩∧w4.cell? ⟨w2.heap.size,0,none⟩=some (.int .i64 c2)∧w4.cell? ⟨w2.heap.size,1,none⟩=w4.cell? ⟨w2.heap.size,1,none⟩:=by
       have q:=fun (i:Nat)=>hB4.cell (p:=⟨wr.heap.size,i,none⟩) (by show wr.heap.size < _; simp; omega)
       have q2:=fun (i:Nat)=>hB4.cell (p:=⟨w2.heap.size,i,none⟩) (by show w2.heap.size < _; simp)
       exact ⟨(q 0).trans (f0 _),(q 1).trans (f1 _),rfl,(q2 0).trans (by simp [go_sem]),rfl⟩
      refine wp_region_held_drew (S:=fun w'=>w'.cell? ⟨wr.heap.size,0,none⟩=some (.string nk)∧w'.cell? ⟨wr.heap.size,1,none⟩=some (.int .i64 cn)∧w'.cell? ⟨wr.heap.size,2,none⟩=w4.cell? ⟨wr.heap.size,2,none⟩∧w'.cell? ⟨w2.heap.size,0,none⟩=some (.int .i64 c2)∧w'.cell? ⟨w2.heap.size,1,none⟩=w4.cell? ⟨w2.heap.size,1,none⟩) (by kernel_rfl) hS4 (fun hHeld=>?_)
      refine wpAnyH_take (i:=0) (v:=?_) rfl (by kernel_rfl) (by kernel_rfl) (by kernel_rfl) (fun _ _ _ h=>h) (Or.inl ⟨by rfl,?_⟩) hS4 ?_
      rotate_left
      ·rintro w' ⟨a0,a1,a2,a3,a4⟩
       go_simp
       try with_reducible rfl
      simp only [Act.put,List.setIfInBounds_toArray,List.set_cons_zero,List.set_cons_succ]
      refine wpAnyH_take (i:=1) (v:=?_) rfl (by kernel_rfl) (by kernel_rfl) (by kernel_rfl) (fun _ _ _ h=>h) (Or.inl ⟨by rfl,?_⟩) hS4 ?_
      rotate_left
      ·rintro w' ⟨a0,a1,a2,a3,a4⟩
       go_simp
       try with_reducible rfl
      simp only [Act.put,List.setIfInBounds_toArray,List.set_cons_zero,List.set_cons_succ]
      refine wpAnyH_take (i:=2) (v:=?_) rfl (by kernel_rfl) (by kernel_rfl) (by kernel_rfl) (fun _ _ _ h=>h) (Or.inl ⟨by rfl,?_⟩) hS4 ?_
      rotate_left
      ·rintro w' ⟨a0,a1,a2,a3,a4⟩
       go_simp
       try with_reducible rfl
      simp only [Act.put,List.setIfInBounds_toArray,List.set_cons_zero,List.set_cons_succ]
      refine wpAnyH_take (i:=3) (v:=?_) rfl (by kernel_rfl) (by kernel_rfl) (by kernel_rfl) (fun _ _ _ h=>h) (Or.inl ⟨by rfl,?_⟩) hS4 ?_
      rotate_left
      ·rintro w' ⟨a0,a1,a2,a3,a4⟩
       go_simp
       try with_reducible rfl
      simp only [Act.put,List.setIfInBounds_toArray,List.set_cons_zero,List.set_cons_succ]
      refine wpAnyH_take (i:=4) (v:=?_) rfl (by kernel_rfl) (by kernel_rfl) (by kernel_rfl) (fun _ _ _ h=>h) (Or.inl ⟨by rfl,?_⟩) hS4 ?_
      rotate_left
      ·rintro w' ⟨a0,a1,a2,a3,a4⟩
       go_simp
       try with_reducible rfl
      simp only [Act.put,List.setIfInBounds_toArray,List.set_cons_zero,List.set_cons_succ]
      refine wpAnyH_take (i:=6) (v:=?_) rfl (by kernel_rfl) (by kernel_rfl) (by kernel_rfl) (fun _ _ _ h=>h) (Or.inl ⟨by rfl,?_⟩) hS4 ?_
      rotate_left
      ·rintro w' ⟨a0,a1,a2,a3,a4⟩
       go_simp
       try with_reducible rfl
      simp only [Act.put,List.setIfInBounds_toArray,List.set_cons_zero,List.set_cons_succ]
      refine wpAnyH_ready (rs:=[5]) (by kernel_rfl) (by simp) ?_
      refine AllReadyH.cons rfl (fun K hK=>?_) AllReadyH.nil
      go_simp
      have hB4d:Below w2.heap.size w2 w4.drew:=hB24.drew
      have g4:G w4.drew:=g2.below hB4d g2.size
      have hW4:=HW2.out.keeps (Keeps.below hB4d)
      have hWn4:=HWn2.out.keeps (Keeps.below hB4d)
      obtain ⟨tc1,ts1,ht1,hw1⟩:=told_form nd.2
      obtain ⟨tc2,ts2,ht2,hw2⟩:=told_form (Br nd.1 s').1
      have hT:=told_worth w4.drew g4 hWn4
      rw [ht1] at hT
      refine hT.mono ?_
      rintro e w5 ⟨rfl,hB5⟩
      have hS5:w5.cell? ⟨wr.heap.size,0,none⟩=some (.string nk)∧w5.cell? ⟨wr.heap.size,1,none⟩=some (.int .i64 cn)∧w5.cell? ⟨wr.heap.size,2,none⟩=w4.cell? ⟨wr.heap.size,2,none⟩∧w5.cell? ⟨w2.heap.size,0,none⟩=some (.int .i64 c2)∧w5.cell? ⟨w2.heap.size,1,none⟩=w4.cell? ⟨w2.heap.size,1,none⟩:=by
       have hl4:w2.heap.size < w4.drew.heap.size:=by have:=hB4.size; simp at this ⊢; omega
       have q:=fun (i:Nat)=>hB5.cell (p:=⟨wr.heap.size,i,none⟩) (by show wr.heap.size < _; omega)
       have q2:=fun (i:Nat)=>hB5.cell (p:=⟨w2.heap.size,i,none⟩) (by show w2.heap.size < _; omega)
       obtain ⟨s1,s2,s3,s4,s5⟩:=hS4
       exact ⟨(q 0).trans s1,(q 1).trans s2,(q 2).trans s3,(q2 0).trans s4,(q2 1).trans s5⟩
      refine hK.out _ _ hS5 (fun _=>?_)
      clear hK hHeld
      refine wpAnyH_ready (rs:=[7]) (by kernel_rfl) (by simp) ?_
      refine AllReadyH.cons rfl (fun K hK=>?_) AllReadyH.nil
      go_simp
      have hB25:Below w2.heap.size w2 w5:=hB4d.trans (hB5.mono hB4d.size)
      have hT2:=told_worth w5 (g2.below hB25 g2.size) (HW2.out.keeps (Keeps.below hB25))
      rw [ht2] at hT2
      refine hT2.mono ?_
      rintro e w6 ⟨rfl,hB6⟩
      have hB26:Below w2.heap.size w2 w6:=hB25.trans (hB6.mono hB25.size)
      have hP6:=HP2.out.trans (fun L' h'=>LPost.below h' hB26)
      obtain ⟨hn6,hfin6⟩:=due_fin HA.out hP6
      have hS6:w6.cell? ⟨wr.heap.size,0,none⟩=some (.string nk)∧w6.cell? ⟨wr.heap.size,1,none⟩=some (.int .i64 cn)∧w6.cell? ⟨wr.heap.size,2,none⟩=w4.cell? ⟨wr.heap.size,2,none⟩∧w6.cell? ⟨w2.heap.size,0,none⟩=some (.int .i64 c2)∧w6.cell? ⟨w2.heap.size,1,none⟩=w4.cell? ⟨w2.heap.size,1,none⟩:=by
       have hl5:w2.heap.size < w5.heap.size:=by have:=hB4.size; have:=hB5.size; simp at this; simp at *; omega
       have q:=fun (i:Nat)=>hB6.cell (p:=⟨wr.heap.size,i,none⟩) (by show wr.heap.size < _; omega)
       have q2:=fun (i:Nat)=>hB6.cell (p:=⟨w2.heap.size,i,none⟩) (by show w2.heap.size < _; omega)
       obtain ⟨s1,s2,s3,s4,s5⟩:=hS5
       exact ⟨(q 0).trans s1,(q 1).trans s2,(q 2).trans s3,(q2 0).trans s4,(q2 1).trans s5⟩
      have hnr:w.heap.size < wr.heap.size:=HWR.out
      have hSf:∀ wf,w6.grownBy wf (some w.heap.size)→wf.cell? ⟨wr.heap.size,0,none⟩=some (.string nk)∧wf.cell? ⟨wr.heap.size,1,none⟩=some (.int .i64 cn)∧wf.cell? ⟨wr.heap.size,2,none⟩=w4.cell? ⟨wr.heap.size,2,none⟩∧wf.cell? ⟨w2.heap.size,0,none⟩=some (.int .i64 c2)∧wf.cell? ⟨w2.heap.size,1,none⟩=w4.cell? ⟨w2.heap.size,1,none⟩:=fun wf hg=>by
       have hl6:w2.heap.size < w6.heap.size:=by have:=hB4.size; have:=hB5.size; have:=hB6.size; simp at *; omega
       have q:=fun (i:Nat)=>World.cell?_of_block (w:=w6) (w':=wf) (a:=⟨wr.heap.size,i,none⟩) (hg.block wr.heap.size (by omega) (fun e=>by have:=Option.some.inj e; omega))
       have q2:=fun (i:Nat)=>World.cell?_of_block (w:=w6) (w':=wf) (a:=⟨w2.heap.size,i,none⟩) (hg.block w2.heap.size (by omega) (fun e=>by have:=Option.some.inj e; omega))
       obtain ⟨s1,s2,s3,s4,s5⟩:=hS6
       exact ⟨(q 0).trans s1,(q 1).trans s2,(q 2).trans s3,(q2 0).trans s4,(q2 1).trans s5⟩
      have hR6:∀ wf,w6.grownBy wf (some w.heap.size)→R (.returned (.tuple #[.agg #[.string key,.string nk,.int .i64 tc1,.string ts1,.int .i64 tc2,.string ts2],.bool true])) wf:=fun wf hg=>by
       have hdd:Lard.dueL Br key.data.toList kp.needs s=(some ⟨key.data.toList,nd.1,nd.2,(Br nd.1 s').1⟩,(Br nd.1 s').2):=by rw [hdue,HST.out,if_neg hs]
       rw [←hR,hdd]
       refine ⟨hfin6 wf hg,Nat.le_trans hPhi2 hPhik,(hNk'.trans hN2).le (by omega),.inr ⟨_,rfl,?_⟩⟩
       have e1:str key.data.toList=.string key:=str_eq rfl
       have e2:str nd.1=.string nk:=str_eq hnk
       simp [whyCells,hw1,hw2,e1,e2]
      have HR6:=hide hR6
      have m0:w6.cell? ⟨w.heap.size,0,none⟩=some (.string ⟨#[]⟩):=by simp [World.cell?,hn6,zCause]
      have y0:w6.frozen? ⟨w.heap.size,0,none⟩=false:=by simp [World.frozen?,hn6,zCause]
      have m1:w6.cell? ⟨w.heap.size,1,none⟩=some (.string ⟨#[]⟩):=by simp [World.cell?,hn6,zCause]
      have y1:w6.frozen? ⟨w.heap.size,1,none⟩=false:=by simp [World.frozen?,hn6,zCause]
      have m2:w6.cell? ⟨w.heap.size,2,none⟩=some (.int .i64 0):=by simp [World.cell?,hn6,zCause]
      have y2:w6.frozen? ⟨w.heap.size,2,none⟩=false:=by simp [World.frozen?,hn6,zCause]
      have m3:w6.cell? ⟨w.heap.size,3,none⟩=some (.string ⟨#[]⟩):=by simp [World.cell?,hn6,zCause]
      have y3:w6.frozen? ⟨w.heap.size,3,none⟩=false:=by simp [World.frozen?,hn6,zCause]
      have m4:w6.cell? ⟨w.heap.size,4,none⟩=some (.int .i64 0):=by simp [World.cell?,hn6,zCause]
      have y4:w6.frozen? ⟨w.heap.size,4,none⟩=false:=by simp [World.frozen?,hn6,zCause]
      have m5:w6.cell? ⟨w.heap.size,5,none⟩=some (.string ⟨#[]⟩):=by simp [World.cell?,hn6,zCause]
      have y5:w6.frozen? ⟨w.heap.size,5,none⟩=false:=by simp [World.frozen?,hn6,zCause]
      refine hK.out _ _ hS6 (fun _=>?_)
      clear hK hR6 hfin6 hP6 hT hT2 hW4 hWn4
      refine wpAnyH_ready (rs:=[8]) (by kernel_rfl) (by simp) ?_
      refine AllReadyH.cons rfl (fun K hK=>?_) AllReadyH.nil
      go_simp
      refine hK.out _ _ hS6 (fun _=>?_)
      clear hK
      refine wpAnyH_ready (rs:=[9]) (by kernel_rfl) (by simp) ?_
      refine AllReadyH.cons rfl (fun K hK=>?_) AllReadyH.nil
      go_simp
      refine hK.out _ _ (hSf _ (grown_set (grown_set (grown_set (grown_set (grown_set (grown_set (World.grownBy.refl w6 (some w.heap.size)) _ _) _ _) _ _) _ _) _ _) _ _)) (fun _=>?_)
      clear hK
      refine wpAnyH_ready (rs:=[10]) (by kernel_rfl) (by simp) ?_
      refine AllReadyH.cons rfl (fun K hK=>?_) AllReadyH.nil
      go_simp
      refine hK.out _ _ (hSf _ (grown_set (grown_set (grown_set (grown_set (grown_set (grown_set (World.grownBy.refl w6 (some w.heap.size)) _ _) _ _) _ _) _ _) _ _) _ _)) (fun _=>?_)
      clear hK
      refine wpAnyH_done (by kernel_rfl) ?_ _
      show K5 _ _
      go_wp2_with fail
      exact bodyPost_ret (v:=.tuple #[.agg #[.string key,.string nk,.int .i64 tc1,.string ts1,.int .i64 tc2,.string ts2],.bool true]) (by simp [results,Tryz.results124,go_sem,m0,m1,m2,m3,m4,m5]) rfl (HR6.out _ (grown_set (grown_set (grown_set (grown_set (grown_set (grown_set (World.grownBy.refl w6 (some w.heap.size)) _ _) _ _) _ _) _ _) _ _) _ _))
  ·have hk2:k=kp.needs.length:=by omega
   subst hk2
   obtain ⟨hn,hfin⟩:=due_fin HA.out hPk
   have hR2:∀ wf,wr.grownBy wf (some w.heap.size)→R (.returned (.tuple #[.agg #[.string ⟨#[]⟩,.string ⟨#[]⟩,.int .i64 0,.string ⟨#[]⟩,.int .i64 0,.string ⟨#[]⟩],.bool false])) wf:=fun wf hg=>by
    rw [List.drop_length] at hdue
    rw [←hR,hdue]
    exact ⟨hfin wf hg,hPhik,hNk'.le hlen,.inl ⟨rfl,rfl⟩⟩
   have m0:wr.cell? ⟨w.heap.size,0,none⟩=some (.string ⟨#[]⟩):=by simp [World.cell?,hn,zCause]
   have m1:wr.cell? ⟨w.heap.size,1,none⟩=some (.string ⟨#[]⟩):=by simp [World.cell?,hn,zCause]
   have m2:wr.cell? ⟨w.heap.size,2,none⟩=some (.int .i64 0):=by simp [World.cell?,hn,zCause]
   have m3:wr.cell? ⟨w.heap.size,3,none⟩=some (.string ⟨#[]⟩):=by simp [World.cell?,hn,zCause]
   have m4:wr.cell? ⟨w.heap.size,4,none⟩=some (.int .i64 0):=by simp [World.cell?,hn,zCause]
   have m5:wr.cell? ⟨w.heap.size,5,none⟩=some (.string ⟨#[]⟩):=by simp [World.cell?,hn,zCause]
   have y0:wr.frozen? ⟨w.heap.size,0,none⟩=false:=by simp [World.frozen?,hn,zCause]
   have y1:wr.frozen? ⟨w.heap.size,1,none⟩=false:=by simp [World.frozen?,hn,zCause]
   have y2:wr.frozen? ⟨w.heap.size,2,none⟩=false:=by simp [World.frozen?,hn,zCause]
   have y3:wr.frozen? ⟨w.heap.size,3,none⟩=false:=by simp [World.frozen?,hn,zCause]
   have y4:wr.frozen? ⟨w.heap.size,4,none⟩=false:=by simp [World.frozen?,hn,zCause]
   have y5:wr.frozen? ⟨w.heap.size,5,none⟩=false:=by simp [World.frozen?,hn,zCause]
   have HR2:=hide hR2
   clear hR2 hfin hdue hPk hNk' hPhik hlt hk'
   go_wp2_with fail
   exact bodyPost_ret (v:=.tuple #[.agg #[.string ⟨#[]⟩,.string ⟨#[]⟩,.int .i64 0,.string ⟨#[]⟩,.int .i64 0,.string ⟨#[]⟩],.bool false]) (by simp [results,Tryz.results124,go_sem,m0,m1,m2,m3,m4,m5]) rfl (HR2.out _ (grown_set (grown_set (grown_set (grown_set (grown_set (grown_set (World.grownBy.refl wr (some w.heap.size)) _ _) _ _) _ _) _ _) _ _) _ _))
end
namespace Lard
def Un (s:LS):Nat:=((ruled s.has).filter fun k=>!s.begun.contains k).length
theorem un_begin (s:LS) (k:By) (hk:k∈ruled s.has) (hn:s.begun.contains k=false):Un { s with begun:=s.begun++[k] } + 1≤Un s:=by
 unfold Un
 have h2:((ruled s.has).filter fun x=>!(s.begun++[k]).contains x)=((ruled s.has).filter fun x=>!s.begun.contains x).filter fun x=>!(x == k):=by
  rw [List.filter_filter]
  apply List.filter_congr
  intro x _
  by_cases hx:x=k
  ·subst hx; simp
  ·simp [hx]
 show (List.filter (fun x=>!(s.begun++[k]).contains x) (ruled s.has)).length + 1≤_
 rw [h2]
 apply List.length_filter_lt_length_iff_exists.2
 exact ⟨k,List.mem_filter.2 ⟨hk,by simp only [hn]; rfl⟩,by simp⟩
theorem un_le (s:LS):Un s≤s.has.length:=by
 unfold Un ruled
 refine Nat.le_trans (List.length_filter_le _ _) ?_
 rw [List.length_map]
 exact List.length_filter_le _ _
theorem rs_le (s:LS):Rs s≤s.has.length:=by
 unfold Rs ruled
 refine Nat.le_trans (List.length_filter_le _ _) ?_
 rw [List.length_map]
 exact List.length_filter_le _ _
theorem Nst.un {s s':LS} {c:Nat} (h:Nst s s' c):Un s'=Un s:=by
 unfold Un
 rw [h.ruled,h.begun]
theorem work_own (n:Nat) (key:By) (s:LS) (hk:KB s.has) {th:Thing} (hl:look s.has key=some th) {t:T} (ht:th.tree=some t):Own s (workL (bring n) key s).2:=by
 have hw:workL (bring n) key s=ruleL (bring n) key t th.kept s:=by simp only [workL,hl,ht]
 rw [hw]
 have hB:∀ k s,KB s.has→Nst s (bring n k s).2 1:=fun k s hk=>bring_nst n k s hk
 cases hkp:th.kept with
 |none=>exact own_run hB key t ⟨key,[],.error 0,.error 0⟩ s s hk (Nst.refl s 401)
 |some kp =>
  have h401:kp.needs.length≤401:=hk _ (look_mem' hl) kp hkp
  have hd:=due_nst hB key kp.needs s hk
  have hdue:ruleL (bring n) key t (some kp) s=match dueL (bring n) key kp.needs s with | (.none,s)=>(kp.worth,s) | (.some y,s)=>runL (bring n) key t y s:=rfl
  rw [hdue]
  generalize dueL (bring n) key kp.needs s=q at hd
  obtain ⟨o,s2⟩:=q
  simp only at hd
  cases o with
  |none=>exact ⟨hd.strip,hd.kb,hd.begun,hd.mono,hd.dn,by have:=hd.psi; show s2.done.length + 1000 * Rs s2≤_; omega,by have:=hd.ran; show s2.ran.length + Rs s2≤_; omega⟩
  |some y=>exact own_run hB key t y s2 s (hd.kb hk) (hd.le h401)
theorem strip_ran (key:By) (q:Wo×(LS×List (By×Wo))):strip (ranL key q).2.has=strip q.2.1.has∧(ranL key q).2.done=q.2.1.done:=by
 unfold ranL
 by_cases h:isRound q.1=true
 ·simp only [h,if_true]
  split
  ·exact ⟨strip_setKept _ _ _,rfl⟩
  ·exact ⟨rfl,rfl⟩
 ·simp only [h]
  exact ⟨strip_setKept _ _ _,rfl⟩
end Lard
section
open Go.RowKit Go.Shelf
structure Pre (n:Nat) (s:Lard.LS):Prop where
 kb:Lard.KB s.has
 un:Lard.Un s < n
 begun:s.begun.length + n≤200
 psi:s.done.length + 1000 * Lard.Rs s + 1000 * n≤1000000
 ran:s.ran.length + Lard.Rs s + n≤1000
 phi:Phi s≤70368744177664
structure PreW (n:Nat) (s:Lard.LS):Prop where
 kb:Lard.KB s.has
 un:Lard.Un s < n
 begun:s.begun.length + n≤200
 psi:s.done.length + 1000 * Lard.Rs s + 1000 * (n + 1)≤1000000
 ran:s.ran.length + Lard.Rs s + n + 1≤1000
 phi:Phi s≤70368744177664
theorem phi_same {s s':Lard.LS} (h1:s'.jr=s.jr) (h2:s'.has=s.has) (h3:s'.done=s.done):Phi s'=Phi s:=by
 unfold Phi Lard.Rs
 rw [h1,h2,h3]
theorem PreW.due {n:Nat} {s s':Lard.LS} {c:Nat} (h:PreW n s) (hN:Lard.Nst s s' c) (hc:c≤401) (hp:Phi s'≤Phi s):Pre n s' where
 kb:=hN.kb h.kb
 un:=by rw [hN.un]; exact h.un
 begun:=by rw [hN.begun]; exact h.begun
 psi:=by have:=h.psi; have:=hN.psi; omega
 ran:=by have:=h.ran; have:=hN.ran; omega
 phi:=Nat.le_trans hp h.phi
theorem PreW.run {n:Nat} {s s1 s':Lard.LS} {c:Nat} (h:PreW n s) (hN1:Lard.Nst s s1 401) (hp1:Phi s1≤Phi s) (y:Lard.Why) (hN:Lard.Nst { s1 with ran:=s1.ran++[y] } s' c) (hc:c≤400) (hp:Phi s'≤Phi { s1 with ran:=s1.ran++[y] }):Pre n s':=by
 have hr:Lard.Rs { s1 with ran:=s1.ran++[y] }=Lard.Rs s1:=rfl
 have hph:Phi { s1 with ran:=s1.ran++[y] }=Phi s1:=phi_same rfl rfl rfl
 have hu:Lard.Un { s1 with ran:=s1.ran++[y] }=Lard.Un s1:=rfl
 have a:=hN.psi
 have b:=hN.ran
 rw [hr] at a b
 have a:s'.done.length + 1000 * Lard.Rs s'≤s1.done.length + 1000 * Lard.Rs s1 + c:=a
 have b:s'.ran.length + Lard.Rs s'≤(s1.ran++[y]).length + Lard.Rs s1:=b
 rw [List.length_append] at b
 simp only [List.length_cons,List.length_nil] at b
 exact {
  kb:=hN.kb (hN1.kb h.kb)
  un:=by rw [hN.un,hu,hN1.un]; exact h.un
  begun:=by have:=hN.begun; rw [this]; show s1.begun.length + n≤_; rw [hN1.begun]; exact h.begun
  psi:=by have:=h.psi; have:=hN1.psi; omega
  ran:=by have:=h.ran; have:=hN1.ran; omega
  phi:=by have:=h.phi; omega }
theorem Pre.work {n:Nat} {s:Lard.LS} (h:Pre (n + 1) s) {key:List UInt8} {th:Lard.Thing} {t:Lard.T} (hl:Lard.look s.has key=some th) (ht:th.tree=some t) (hb:s.begun.contains key=false):PreW n { s with begun:=s.begun++[key] } where
 kb:=h.kb
 un:=by have:=Lard.un_begin s key (Lard.mem_ruled hl (by rw [ht]; rfl)) hb; have:=h.un; omega
 begun:=by have:=h.begun; show (s.begun++[key]).length + n≤200; simp; omega
 psi:=h.psi
 ran:=h.ran
 phi:=h.phi
theorem phi_ran {w:World} {lb:Nat} {L:Nat→Prop} {key:List UInt8} (hk:key.length≤200) (q:Lard.Wo×(Lard.LS×List (List UInt8×Lard.Wo))) {th:Lard.Thing} (hl:Lard.look q.2.1.has key=some th) (hA:LAt w lb (Lard.ranL key q).2 L):Phi (Lard.ranL key q).2≤Phi q.2.1 + LM:=by
 obtain ⟨r,s,ns⟩:=q
 have hRs:Lard.Rs (Lard.ranL key (r,s,ns)).2=Lard.Rs s:=Lard.rs_same (Lard.strip_ran key (r,s,ns)).1 (Lard.strip_ran key (r,s,ns)).2
 have hj:(jbytes (Lard.ranL key (r,s,ns)).2.jr).length≤(jbytes s.jr).length + LM:=by
  cases hrd:Lard.isRound r with
  |true =>
   cases hkn:(Lard.keptOf s.has key).isSome with
   |true =>
    simp only [Lard.ranL,hrd,hkn,if_true]
    show (jbytes (s.jr++[[108,111,115,101,32]++key])).length≤_
    rw [jbytes_snoc,List.length_append,line_len,List.length_append]
    simp only [List.length_cons,List.length_nil]
    unfold LM
    omega
   |false =>
    simp only [Lard.ranL,hrd,hkn,if_true]
    exact Nat.le_add_right _ _
  |false =>
   have e1:(Lard.ranL key (r,s,ns)).2=s.keep key ⟨r,ns⟩:=by simp only [Lard.ranL,hrd]; rfl
   rw [e1] at hA ⊢
   have hl2:Lard.look (s.keep key ⟨r,ns⟩).has key=some { th with kept:=some ⟨r,ns⟩ }:=by
    show Lard.look (Lard.setKept s.has key _) key=_
    rw [Lard.look_setKept,if_pos rfl]
    have:Lard.look s.has key=some th:=hl
    rw [this]
    rfl
   obtain ⟨p,_,hth⟩:=hA.ptrOf hl2
   obtain ⟨v,rr,k,_,_,_,_,hkk⟩:=hth
   rcases hkk with ⟨h5,_⟩ | ⟨kp,kb,h5,_,hKA⟩
   ·cases h5
   ·cases h5
    obtain ⟨c,i,sl,_,_,hW,hN,_,hlen⟩:=hKA
    have hkl:=keepText_take hk hW hN ns.length (Nat.le_refl _)
    have hlen:ns.length≤401:=hlen
    rw [List.take_length] at hkl
    show (jbytes (s.jr++[Lard.keepText key ⟨r,ns⟩])).length≤_
    rw [jbytes_snoc,List.length_append,line_len]
    have:=Nat.mul_le_mul_right 100202 hlen
    have hkl:(Lard.keepText key ⟨r,ns⟩).length≤100206 + ns.length * 100202:=hkl
    unfold LM
    omega
 unfold Phi
 rw [hRs]
 show _≤(jbytes s.jr).length + LM * Lard.Rs s + LM
 omega
theorem phi_done {s:Lard.LS} {key:List UInt8} (hr:key∈Lard.ruled s.has) (hd:Lard.look s.done key=none) (b:List (List UInt8)) (r:Lard.Wo):Phi { s with begun:=b,done:=Lard.put s.done key r } + LM≤Phi s:=by
 have h:Lard.Rs { s with begun:=b,done:=Lard.put s.done key r } + 1≤Lard.Rs s:=Lard.rs_put_lt s key r hr hd
 unfold Phi
 have h2:=Nat.mul_le_mul_left LM h
 rw [Nat.mul_add] at h2
 show (jbytes s.jr).length + _ + _≤_
 omega
theorem phi_put {s:Lard.LS} {key:List UInt8} (b:List (List UInt8)) (r:Lard.Wo):Phi { s with begun:=b,done:=Lard.put s.done key r }≤Phi s:=by
 have h:Lard.Rs { s with begun:=b,done:=Lard.put s.done key r }≤Lard.Rs s:=Lard.rs_put s key r
 unfold Phi
 have h2:=Nat.mul_le_mul_left LM h
 show (jbytes s.jr).length + _≤_
 omega
end
end Go.Proofs.YtpekpdimdelncaaGreatDoor
