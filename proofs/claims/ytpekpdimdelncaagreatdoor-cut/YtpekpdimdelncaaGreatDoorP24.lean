/- Out of: L27, L28, L29. -/
import Derived.Test.YtpekpdimdelncaaGreatDoorP23
set_option linter.unusedVariables false
set_option linter.unusedSimpArgs false
namespace Go.Proofs.YtpekpdimdelncaaGreatDoor
section
set_option maxRecDepth 100000
set_option maxHeartbeats 1000000
open Go.RowKit Go.Shelf
theorem box6 (w2:World) (t:TypeId) (u0 u1 u2 u3 u4 u5:Value):Below w2.heap.size w2 (w2.alloc (.cells #[u0,u1,u2,u3,u4,u5] t)) ∧
  (w2.alloc (.cells #[u0,u1,u2,u3,u4,u5] t)).cell? ⟨w2.heap.size,0,none⟩=some u0∧(w2.alloc (.cells #[u0,u1,u2,u3,u4,u5] t)).cell? ⟨w2.heap.size,1,none⟩=some u1∧(w2.alloc (.cells #[u0,u1,u2,u3,u4,u5] t)).cell? ⟨w2.heap.size,2,none⟩=some u2∧(w2.alloc (.cells #[u0,u1,u2,u3,u4,u5] t)).cell? ⟨w2.heap.size,3,none⟩=some u3∧(w2.alloc (.cells #[u0,u1,u2,u3,u4,u5] t)).cell? ⟨w2.heap.size,4,none⟩=some u4∧(w2.alloc (.cells #[u0,u1,u2,u3,u4,u5] t)).cell? ⟨w2.heap.size,5,none⟩=some u5:=by
 exact ⟨(Below.refl _ w2).alloc (Nat.le_refl _) _,by simp [go_sem],by simp [go_sem],by simp [go_sem],by simp [go_sem],by simp [go_sem],by simp [go_sem]⟩
theorem work_rule (n:Nat) (w:World) (lb:Nat) (key:ByteArray) (HB:BSays lb (Lard.bring n) (Pre n)) (s:Lard.LS) (L:Nat→Prop) (h:LAt w lb s L) (g:G w) (hd:Deb w) (hk:key.size≤200) (hbg:key.data.toList∈s.begun) (hpre:PreW n s) (th:Lard.Thing) (t:Lard.T) (hl:Lard.look s.has key.data.toList=some th) (ht:th.tree=some t) :
  Calls Tryz.prog 85 #[ptr lb,.string key] w fun e w'=>∃ x,e=.returned x∧IsW w' (Lard.ruleL (Lard.bring n) key.data.toList t th.kept s).1 x∧LPost w lb L (Lard.ruleL (Lard.bring n) key.data.toList t th.kept s).2 w'∧Phi (Lard.ruleL (Lard.bring n) key.data.toList t th.kept s).2≤Phi s + LM:=by
 have hA1:=h.alloc (.cells #[.int .i64 0,.nilIface] 113)
 have hBz:Below w.heap.size w (w.alloc (.cells #[.int .i64 0,.nilIface] 113)):=(Below.refl _ _).alloc (Nat.le_refl _) _
 have g1:=g.below hBz g.size
 have d1:=hd.below hBz g.size
 have hkl:key.data.toList.length≤maxLen:=by rw [←size_data]; unfold maxLen; omega
 obtain ⟨p,hp,hth⟩:=hA1.ptrOf hl
 have hp':=hp
 obtain ⟨hb,es,c0,hm,hlook⟩:=hp'
 have hr:=hm.look Tryz.underlying104 (k:=key.data.toList) hkl (z:=.pointer none) (by kernel_rfl)
 rw [hlook,str_bytes] at hr
 simp only at hr
 obtain ⟨v0,r0,k0,hb0,_,_,h4,h5⟩:=hth
 have hr0:∃ a,r0=.pointer (some a):=by
  rcases h4 with ⟨h6,_⟩ | ⟨t',a,_,h6,_⟩
  ·rw [ht] at h6; cases h6
  ·exact ⟨a,h6⟩
 obtain ⟨a,rfl⟩:=hr0
 have hk0:∃ q,k0=.pointer q:=by
  rcases h5 with ⟨_,h6⟩ | ⟨_,kb,_,h6,_⟩
  ·exact ⟨_,h6⟩
  ·exact ⟨_,h6⟩
 have hDue:=due_f n _ lb p key HB s L hA1 g1 d1 hk hbg hpre th t hl ht hp k0 h5
 unfold DueF at hDue
 obtain ⟨q,rfl⟩:=hk0
 have e1:(w.alloc (.cells #[.int .i64 0,.nilIface] 113)).cell? ⟨p,1,none⟩=some (.pointer (some a)):=by simp [World.cell?,hb0]
 have e3:(w.alloc (.cells #[.int .i64 0,.nilIface] 113)).cell? ⟨p,3,none⟩=some (.pointer q):=by simp [World.cell?,hb0]
 generalize Lard.ruleL (Lard.bring n) key.data.toList t th.kept s=res at hDue ⊢
 have HD:=hide hDue
 clear hDue
 generalize hR:(fun (e:Ending) (w':World)=>∃ x,e=.returned x∧IsW w' res.1 x∧LPost w lb L res.2 w'∧Phi res.2≤Phi s + LM)=R
 have hfin:∀ (wr:World) (c:Int) (i:Value),LPost (w.alloc (.cells #[.int .i64 0,.nilIface] 113)) lb L res.2 wr→IsW wr res.1 (.agg #[.int .i64 c,i])→Phi res.2≤Phi s + LM→wr.cell? ⟨w.heap.size,0,none⟩=some (.int .i64 0)∧wr.cell? ⟨w.heap.size,1,none⟩=some .nilIface∧wr.frozen? ⟨w.heap.size,0,none⟩=false∧wr.frozen? ⟨w.heap.size,1,none⟩=false∧((wr.setCell ⟨w.heap.size,0,none⟩ (.int .i64 c)).setCell ⟨w.heap.size,1,none⟩ i).cell? ⟨w.heap.size,0,none⟩=some (.int .i64 c)∧((wr.setCell ⟨w.heap.size,0,none⟩ (.int .i64 c)).setCell ⟨w.heap.size,1,none⟩ i).cell? ⟨w.heap.size,1,none⟩=some i∧R (.returned (.agg #[.int .i64 c,i])) ((wr.setCell ⟨w.heap.size,0,none⟩ (.int .i64 c)).setCell ⟨w.heap.size,1,none⟩ i):=fun wr c i hP hW hph=>by
  obtain ⟨b0,b1,z0,z1,hP',hW',d0,d1⟩:=box_worth h hP hW
  rw [←hR]
  exact ⟨b0,b1,z0,z1,d0,d1,_,rfl,hW',hP',hph⟩
 have HFIN:=hide hfin
 clear hfin hR hA1 h h4 h5 hb0 hp hm hlook hl ht
 unfold ptr at hr ⊢
 go_enter Tryz.func85,Tryz.ntmps85
 go_wp2_with fail
 refine HD.out.mono ?_
 clear HD hr c0 e1 e3
 rintro e w2 (⟨y,he,-,vn,hall⟩ | ⟨rfl,kb,c,i,hi,hall⟩)
 ·obtain ⟨k',n',c1,s1,c2,s2,hy⟩:=why_form y
  rw [hy] at he hall
  subst he
  obtain ⟨hBe,q0,q1,q2,q3,q4,q5⟩:=box6 w2 61 (.string k') (.string n') (.int .i64 c1) (.string s1) (.int .i64 c2) (.string s2)
  obtain ⟨b4,⟨on,mn,cn,rfl⟩,-⟩:=hall _ hBe
  obtain ⟨b2,-,-⟩:=hall _ (Below.refl _ w2)
  obtain ⟨-,-,g',cap,m',w3,hrun,f4,z4,hkeep,hcall⟩:=hall _ hBe.drew
  have HCALL:=hide hcall
  have HRUN:=hide hrun
  clear hall hcall hrun
  unfold ptr at HCALL
  have hltl:lb < w2.heap.size:=by
   refine Decidable.byContradiction fun hn=>?_
   have:w2.heap[lb]? = none:=Array.getElem?_eq_none_iff.2 (by omega)
   simp [World.cell?,this] at b2
  clear b2
  go_wp2_with fail
  rename_i K5 HK5
  refine wp_onlyN K5 (fun a w h=>h) ?_
  generalize hwe:w2.alloc (.cells #[.string k',.string n',.int .i64 c1,.string s1,.int .i64 c2,.string s2] 61)=we at *
  have hlt2:w2.heap.size < we.heap.size:=by rw [←hwe]; simp
  have hS:we.cell? ⟨w2.heap.size,0,none⟩=some (.string k')∧we.cell? ⟨w2.heap.size,1,none⟩=some (.string n')∧we.cell? ⟨w2.heap.size,2,none⟩=some (.int .i64 c1)∧we.cell? ⟨w2.heap.size,3,none⟩=some (.string s1)∧we.cell? ⟨w2.heap.size,4,none⟩=some (.int .i64 c2)∧we.cell? ⟨w2.heap.size,5,none⟩=some (.string s2):=⟨q0,q1,q2,q3,q4,q5⟩
  have hSa:∀ w',Below we.heap.size we w'→w'.cell? ⟨w2.heap.size,0,none⟩=some (.string k')∧w'.cell? ⟨w2.heap.size,1,none⟩=some (.string n')∧w'.cell? ⟨w2.heap.size,2,none⟩=some (.int .i64 c1)∧w'.cell? ⟨w2.heap.size,3,none⟩=some (.string s1)∧w'.cell? ⟨w2.heap.size,4,none⟩=some (.int .i64 c2)∧w'.cell? ⟨w2.heap.size,5,none⟩=some (.string s2):=fun w' hB'=>by
   obtain ⟨s0,s1',s2',s3,s5,s6⟩:=hS
   have q:=fun (i:Nat)=>hB'.cell (p:=⟨w2.heap.size,i,none⟩) hlt2
   exact ⟨(q 0).trans s0,(q 1).trans s1',(q 2).trans s2',(q 3).trans s3,(q 4).trans s5,(q 5).trans s6⟩
  have hS3:w3.cell? ⟨w2.heap.size,0,none⟩=some (.string k')∧w3.cell? ⟨w2.heap.size,1,none⟩=some (.string n')∧w3.cell? ⟨w2.heap.size,2,none⟩=some (.int .i64 c1)∧w3.cell? ⟨w2.heap.size,3,none⟩=some (.string s1)∧w3.cell? ⟨w2.heap.size,4,none⟩=some (.int .i64 c2)∧w3.cell? ⟨w2.heap.size,5,none⟩=some (.string s2):=by
   obtain ⟨s0,s1',s2',s3,s5,s6⟩:=hS
   have q:=fun (i:Nat)=>World.cell?_of_block (w:=we) (w':=w3) (a:=⟨w2.heap.size,i,none⟩) (hkeep w2.heap.size (Nat.le_refl _) hlt2)
   exact ⟨(q 0).trans s0,(q 1).trans s1',(q 2).trans s2',(q 3).trans s3,(q 4).trans s5,(q 5).trans s6⟩
  have hS4:(w3.setCell ⟨lb,4,none⟩ (.slice (some ⟨g',0,none⟩) m' cap)).cell? ⟨w2.heap.size,0,none⟩=some (.string k')∧(w3.setCell ⟨lb,4,none⟩ (.slice (some ⟨g',0,none⟩) m' cap)).cell? ⟨w2.heap.size,1,none⟩=some (.string n')∧(w3.setCell ⟨lb,4,none⟩ (.slice (some ⟨g',0,none⟩) m' cap)).cell? ⟨w2.heap.size,2,none⟩=some (.int .i64 c1)∧(w3.setCell ⟨lb,4,none⟩ (.slice (some ⟨g',0,none⟩) m' cap)).cell? ⟨w2.heap.size,3,none⟩=some (.string s1)∧(w3.setCell ⟨lb,4,none⟩ (.slice (some ⟨g',0,none⟩) m' cap)).cell? ⟨w2.heap.size,4,none⟩=some (.int .i64 c2)∧(w3.setCell ⟨lb,4,none⟩ (.slice (some ⟨g',0,none⟩) m' cap)).cell? ⟨w2.heap.size,5,none⟩=some (.string s2):=by
   obtain ⟨s0,s1',s2',s3,s5,s6⟩:=hS3
   have q:=fun (i:Nat)=>World.cell?_of_block (w:=w3) (w':=w3.setCell ⟨lb,4,none⟩ (.slice (some ⟨g',0,none⟩) m' cap)) (a:=⟨w2.heap.size,i,none⟩) (Below.heap_setCell w3 _ _ _ (by show w2.heap.size≠lb; omega))
   exact ⟨(q 0).trans s0,(q 1).trans s1',(q 2).trans s2',(q 3).trans s3,(q 4).trans s5,(q 5).trans s6⟩
  clear q0 q1 q2 q3 q4 q5
  have d4:we.drew.cell? ⟨lb,4,none⟩=some (.slice on mn cn):=b4
  have e4:(we.alloc (.cells #[.string k',.string n',.int .i64 c1,.string s1,.int .i64 c2,.string s2] 61)).cell? ⟨lb,4,none⟩=some (.slice on mn cn):=(World.cell?_of_block (Below.heap_alloc we _ lb (by omega))).trans b4
  refine wp_region_held_drew (S:=fun w'=>w'.cell? ⟨w2.heap.size,0,none⟩=some (.string k')∧w'.cell? ⟨w2.heap.size,1,none⟩=some (.string n')∧w'.cell? ⟨w2.heap.size,2,none⟩=some (.int .i64 c1)∧w'.cell? ⟨w2.heap.size,3,none⟩=some (.string s1)∧w'.cell? ⟨w2.heap.size,4,none⟩=some (.int .i64 c2)∧w'.cell? ⟨w2.heap.size,5,none⟩=some (.string s2)) (by kernel_rfl) hS (fun hHeld=>?_)
  refine wpAnyH_take (i:=0) (v:=?_) rfl (by kernel_rfl) (by kernel_rfl) (by kernel_rfl) (fun _ _ _ h=>h) (Or.inl ⟨by rfl,?_⟩) hS ?_
  rotate_left
  ·rintro w' ⟨s0,s1,s2,s3,s5,s6⟩
   go_simp
   try with_reducible rfl
  simp only [Act.put,List.setIfInBounds_toArray,List.set_cons_zero,List.set_cons_succ]
  refine wpAnyH_take (i:=1) (v:=?_) rfl (by kernel_rfl) (by kernel_rfl) (by kernel_rfl) (fun _ _ _ h=>h) (Or.inl ⟨by rfl,?_⟩) hS ?_
  rotate_left
  ·rintro w' ⟨s0,s1,s2,s3,s5,s6⟩
   go_simp
   try with_reducible rfl
  simp only [Act.put,List.setIfInBounds_toArray,List.set_cons_zero,List.set_cons_succ]
  refine wpAnyH_take (i:=2) (v:=?_) rfl (by kernel_rfl) (by kernel_rfl) (by kernel_rfl) (fun _ _ _ h=>h) (Or.inl ⟨by rfl,?_⟩) hS ?_
  rotate_left
  ·rintro w' ⟨s0,s1,s2,s3,s5,s6⟩
   go_simp
   try with_reducible rfl
  simp only [Act.put,List.setIfInBounds_toArray,List.set_cons_zero,List.set_cons_succ]
  refine wpAnyH_take (i:=3) (v:=?_) rfl (by kernel_rfl) (by kernel_rfl) (by kernel_rfl) (fun _ _ _ h=>h) (Or.inl ⟨by rfl,?_⟩) hS ?_
  rotate_left
  ·rintro w' ⟨s0,s1,s2,s3,s5,s6⟩
   go_simp
   try with_reducible rfl
  simp only [Act.put,List.setIfInBounds_toArray,List.set_cons_zero,List.set_cons_succ]
  refine wpAnyH_take (i:=5) (v:=?_) rfl (by kernel_rfl) (by kernel_rfl) (by kernel_rfl) (fun _ _ _ h=>h) (Or.inl ⟨by rfl,?_⟩) hS ?_
  rotate_left
  ·rintro w' ⟨s0,s1,s2,s3,s5,s6⟩
   go_simp
   try with_reducible rfl
  simp only [Act.put,List.setIfInBounds_toArray,List.set_cons_zero,List.set_cons_succ]
  refine wpAnyH_ready (rs:=[4,6]) (by kernel_rfl) (by simp) ?_
  refine AllReadyH.cons rfl (fun K hK=>?_) (AllReadyH.cons rfl (fun K hK=>?_) AllReadyH.nil)
  ·go_simp
   refine hK.out _ _ (hSa _ ((Below.refl _ we).drew)) (fun _=>?_)
   clear hK
   refine wpAnyH_ready (rs:=[6]) (by kernel_rfl) (by simp) ?_
   refine AllReadyH.cons rfl (fun K hK=>?_) AllReadyH.nil
   go_simp
   refine hK.out _ _ (hSa _ (((Below.refl _ we).drew).alloc (Nat.le_refl _) _)) (fun _=>?_)
   clear hK hHeld d4 e4 b4
   refine wpAnyH_ready (rs:=[7]) (by kernel_rfl) (by simp) ?_
   refine AllReadyH.cons rfl (fun K hK=>?_) AllReadyH.nil
   refine step_run_append rfl (.tmp 56) (.tmp 58) 55 55 rfl _ _ _ _ rfl rfl HRUN.out ?_
   simp only [Act.put,List.setIfInBounds_toArray,List.set_cons_zero,List.set_cons_succ]
   refine hK.out _ _ hS3 (fun _=>?_)
   clear hK HRUN
   refine wpAnyH_ready (rs:=[8]) (by kernel_rfl) (by simp) ?_
   refine AllReadyH.cons rfl (fun K hK=>?_) AllReadyH.nil
   go_simp
   refine hK.out _ _ hS3 (fun _=>?_)
   clear hK
   refine wpAnyH_ready (rs:=[9]) (by kernel_rfl) (by simp) ?_
   refine AllReadyH.cons rfl (fun K hK=>?_) AllReadyH.nil
   go_simp
   refine hK.out _ _ hS3 (fun _=>?_)
   clear hK
   refine wpAnyH_ready (rs:=[10]) (by kernel_rfl) (by simp) ?_
   refine AllReadyH.cons rfl (fun K hK=>?_) AllReadyH.nil
   go_simp
   refine hK.out _ _ hS4 (fun _=>?_)
   clear hK
   refine wpAnyH_done (by kernel_rfl) ?_ _
   show K5 _ _
   clear hS hSa hS3 hS4 f4 z4 hkeep hBe
   go_wp2_with fail
   refine HCALL.out.mono ?_
   rintro e w5 ⟨c,i,rfl,hi,hW5,hP5,hph5⟩
   obtain ⟨b0,b1,z0,z1,d0,d1,hR5⟩:=HFIN.out _ c i hP5 hW5 hph5
   have HR:=hide hR5
   clear hR5 hP5 hW5 hph5 HFIN HCALL
   rcases hi with rfl | ⟨ti,ai,rfl⟩
   ·go_wp2_with fail
    exact bodyPost_ret (v:=.agg #[.int .i64 c,.nilIface]) (by simp [results,Tryz.results85,go_sem,d0,d1]) rfl HR.out
   ·go_wp2_with fail
    exact bodyPost_ret (v:=.agg #[.int .i64 c,.iface ti ai]) (by simp [results,Tryz.results85,go_sem,d0,d1]) rfl HR.out
  ·go_simp
   refine hK.out _ _ (hSa _ (((Below.refl _ we).drew).alloc (Nat.le_refl _) _)) (fun _=>?_)
   clear hK
   refine wpAnyH_ready (rs:=[4]) (by kernel_rfl) (by simp) ?_
   refine AllReadyH.cons rfl (fun K hK=>?_) AllReadyH.nil
   go_simp
   refine hK.out _ _ (hSa _ (((Below.refl _ we).drew).alloc (Nat.le_refl _) _)) (fun _=>?_)
   clear hK hHeld d4 e4 b4
   refine wpAnyH_ready (rs:=[7]) (by kernel_rfl) (by simp) ?_
   refine AllReadyH.cons rfl (fun K hK=>?_) AllReadyH.nil
   refine step_run_append rfl (.tmp 56) (.tmp 58) 55 55 rfl _ _ _ _ rfl rfl HRUN.out ?_
   simp only [Act.put,List.setIfInBounds_toArray,List.set_cons_zero,List.set_cons_succ]
   refine hK.out _ _ hS3 (fun _=>?_)
   clear hK HRUN
   refine wpAnyH_ready (rs:=[8]) (by kernel_rfl) (by simp) ?_
   refine AllReadyH.cons rfl (fun K hK=>?_) AllReadyH.nil
   go_simp
   refine hK.out _ _ hS3 (fun _=>?_)
   clear hK
   refine wpAnyH_ready (rs:=[9]) (by kernel_rfl) (by simp) ?_
   refine AllReadyH.cons rfl (fun K hK=>?_) AllReadyH.nil
   go_simp
   refine hK.out _ _ hS3 (fun _=>?_)
   clear hK
   refine wpAnyH_ready (rs:=[10]) (by kernel_rfl) (by simp) ?_
   refine AllReadyH.cons rfl (fun K hK=>?_) AllReadyH.nil
   go_simp
   refine hK.out _ _ hS4 (fun _=>?_)
   clear hK
   refine wpAnyH_done (by kernel_rfl) ?_ _
   show K5 _ _
   clear hS hSa hS3 hS4 f4 z4 hkeep hBe
   go_wp2_with fail
   refine HCALL.out.mono ?_
   rintro e w5 ⟨c,i,rfl,hi,hW5,hP5,hph5⟩
   obtain ⟨b0,b1,z0,z1,d0,d1,hR5⟩:=HFIN.out _ c i hP5 hW5 hph5
   have HR:=hide hR5
   clear hR5 hP5 hW5 hph5 HFIN HCALL
   rcases hi with rfl | ⟨ti,ai,rfl⟩
   ·go_wp2_with fail
    exact bodyPost_ret (v:=.agg #[.int .i64 c,.nilIface]) (by simp [results,Tryz.results85,go_sem,d0,d1]) rfl HR.out
   ·go_wp2_with fail
    exact bodyPost_ret (v:=.agg #[.int .i64 c,.iface ti ai]) (by simp [results,Tryz.results85,go_sem,d0,d1]) rfl HR.out
 ·unfold zCause
  obtain ⟨hBe,q0,q1,q2,q3,q4,q5⟩:=box6 w2 61 (.string ⟨#[]⟩) (.string ⟨#[]⟩) (.int .i64 0) (.string ⟨#[]⟩) (.int .i64 0) (.string ⟨#[]⟩)
  obtain ⟨a1,a2,a3,a4,a5,a6⟩:=hall _ hBe
  obtain ⟨b0,b1,z0,z1,d0,d1,hR⟩:=HFIN.out _ c i a5 a4 a6
  have HR:=hide hR
  clear hR a4 a5 a6 hall HFIN q0 q1 q2 q3 q4 q5
  unfold ptr at a1
  rcases hi with rfl | ⟨ti,ai,rfl⟩
  ·go_wp2_with fail
   exact bodyPost_ret (v:=.agg #[.int .i64 c,.nilIface]) (by simp [results,Tryz.results85,go_sem,d0,d1]) rfl HR.out
  ·go_wp2_with fail
   exact bodyPost_ret (v:=.agg #[.int .i64 c,.iface ti ai]) (by simp [results,Tryz.results85,go_sem,d0,d1]) rfl HR.out
theorem work_any (n:Nat) (w:World) (lb:Nat) (key:ByteArray) (HB:BSays lb (Lard.bring n) (Pre n)) (s:Lard.LS) (L:Nat→Prop) (h:LAt w lb s L) (g:G w) (hd:Deb w) (hk:key.size≤200) (hbg:key.data.toList∈s.begun) (hpre:∀ th t,Lard.look s.has key.data.toList=some th→th.tree=some t→PreW n s) :
  Calls Tryz.prog 85 #[ptr lb,.string key] w fun e w'=>∃ x,e=.returned x∧IsW w' (Lard.workL (Lard.bring n) key.data.toList s).1 x∧LPost w lb L (Lard.workL (Lard.bring n) key.data.toList s).2 w'∧Phi (Lard.workL (Lard.bring n) key.data.toList s).2≤Phi s + LM:=by
 cases hl:Lard.look s.has key.data.toList with
 |none =>
  have hw:Lard.workL (Lard.bring n) key.data.toList s=(.error 7,s):=by unfold Lard.workL; rw [hl]
  rw [hw]
  refine (work_absent w lb key s L h hk hl).mono ?_
  rintro e w' ⟨x,rfl,h1,h2⟩
  exact ⟨x,rfl,h1,h2,Nat.le_add_right _ _⟩
 |some th =>
  cases ht:th.tree with
  |none =>
   have hw:Lard.workL (Lard.bring n) key.data.toList s=(.ok th.value,s):=by unfold Lard.workL; rw [hl]; simp only; rw [ht]
   rw [hw]
   refine (work_value w lb key s L h hk th hl ht).mono ?_
   rintro e w' ⟨x,rfl,h1,h2⟩
   exact ⟨x,rfl,h1,h2,Nat.le_add_right _ _⟩
  |some t =>
   have hw:Lard.workL (Lard.bring n) key.data.toList s=Lard.ruleL (Lard.bring n) key.data.toList t th.kept s:=by unfold Lard.workL; rw [hl]; simp only; rw [ht]
   rw [hw]
   exact work_rule n w lb key HB s L h g hd hk hbg (hpre th t hl ht) th t hl ht
end
section
open Go.RowKit Go.Shelf
theorem LP.rowBegun {w:World} {lb:Nat} {s:Lard.LS} {L:Nat→Prop} {hb db:Nat} {vb vr vn vj:Value} (h:LP w lb s L hb db vb vr vn vj):(vb=.slice none 0 0∧s.begun=[])∨∃ g c,vb=.slice (some ⟨g,0,none⟩) s.begun.length c∧s.begun.length≤c:=by
 rcases h.begun.2 with ⟨rfl,h2⟩ | ⟨g,cap,cur,rfl,h3,h4,h5,_⟩
 ·exact .inl ⟨rfl,List.eq_nil_of_length_eq_zero h2⟩
 ·exact .inr ⟨_,_,rfl,h5⟩
theorem idx_any {w:World} {lb:Nat} {s:Lard.LS} {L:Nat→Prop} {hb db:Nat} {vb vr vn vj:Value} (h:LP w lb s L hb db vb vr vn vj) (hlen:s.begun.length≤1000) (key:ByteArray) :
  Calls Tryz.prog 83 #[vb,.string key] w fun e w'=>w'=w∧((s.begun.contains key.data.toList=false∧e=.returned (.int .i64 (-1)))∨∃ j,j < s.begun.length∧s.begun.contains key.data.toList=true∧e=.returned (.int .i64 (j:Nat))∧Lard.fromKey s.begun key.data.toList=s.begun.drop j):=by
 rcases h.rowBegun with ⟨rfl,hb0⟩ | ⟨g,c,rfl,hc⟩
 ·refine (Tryz.slices_Index_string_empty none 0 key w).mono ?_
  rintro e w' ⟨rfl,rfl⟩
  refine ⟨rfl,.inl ⟨by rw [hb0]; rfl,rfl⟩⟩
 ·have hz:(bas s.begun).length=s.begun.length:=by unfold bas; rw [List.length_map]
  have hcl:=bas_cells h.begun 0
  rw [List.drop_zero] at hcl
  refine (Tryz.slices_Index_string g 0 s.begun.length c (bas s.begun) key w (by omega) (by omega) hcl).mono ?_
  rintro e w' ⟨rfl,rfl⟩
  refine ⟨rfl,?_⟩
  rw [List.take_of_length_le (by omega)]
  have e1:Lib.idxOfS (bas s.begun) key=Lib.idxFromS (bas s.begun) key 0:=rfl
  rw [e1]
  rcases idx_begun key s.begun 0 with ⟨h1,h2⟩ | ⟨j,h1,h2,h3,h4⟩
  ·exact .inl ⟨h1,by rw [h2]⟩
  ·exact .inr ⟨j,h1,h2,by rw [h3,Nat.zero_add],h4⟩
theorem begun_append {w w1:World} {lb:Nat} {s:Lard.LS} {L:Nat→Prop} {hb db:Nat} {vb vr vn vj:Value} (h:LP w lb s L hb db vb vr vn vj) (gg:G w) (hB:Below w.heap.size w w1) (key:ByteArray) (hlen:s.begun.length≤1000) :
  ∃ g' cap w3,(Builtin.append_ #[40,40] 40 #[vb,.slice (some ⟨w1.heap.size,0,none⟩) 1 1]).run Tryz.prog (w1.alloc (.cells #[.string key] 9))=.ok (.slice (some ⟨g',0,none⟩) (s.begun.length + 1) cap) w3 ∧
   w3.cell? ⟨lb,2,none⟩=some vb∧w3.frozen? ⟨lb,2,none⟩=false∧LPost w lb L { s with begun:=s.begun++[key.data.toList] } (w3.setCell ⟨lb,2,none⟩ (.slice (some ⟨g',0,none⟩) (s.begun.length + 1) cap)):=by
 have hB2:Below w.heap.size w (w1.alloc (.cells #[.string key] 9)):=hB.alloc hB.size _
 have h2:LP (w1.alloc (.cells #[.string key] 9)) lb s L hb db vb vr vn vj:=h.st (fun k hk=>hB2.block k (h.lt hk)) (Stay.below hB2)
 have g2:=gg.below hB2 gg.size
 have hnew:=heap_alloc_new w1 (.cells #[.string key] 9)
 have hkey:str key.data.toList=.string key:=str_eq rfl
 obtain ⟨g',cap,w3,hr,ho,hg,hloc,hold⟩:=append_row 40 40 9 _ 1 16 Tryz.underlying40 strInfo rfl (by decide) _ s.begun.length (s.begun.map str) h2.begun ⟨w1.heap.size,0,none⟩ 1 [str key.data.toList] rfl (fun j u hj=>by
  rw [addr_add,Nat.zero_add]
  simp only [World.cell?,hnew]
  match j,hj with
  |0,hj=>simp at hj; rw [←hj,hkey]; rfl) (fun u hu=>by
  simp at hu
  rw [hu,hkey]
  rfl) (by omega) (by unfold maxLen; omega) (Nat.le_trans gg.size hB2.size)
 have hblk3:=(Tn.mk (e0:=9) hg (fun b hb=>row_typed h2.begun hb)).cells h2.blk (by decide)
 refine ⟨g',cap,w3,hr,by simp [World.cell?,hblk3],by simp [World.frozen?,hblk3],?_⟩
 have ho':w3.ownsRow 8 9 1 (.slice (some ⟨g',0,none⟩) (s.begun.length + 1) cap) (s.begun.length + 1) ((s.begun++[key.data.toList]).map str):=by
  rw [List.map_append]
  simpa using ho
 obtain ⟨L',k1,k2,k3,k4⟩:=h2.begunTo g2 key.data.toList hg (by simp) ho' hloc hold
 refine ⟨L',k1,fun k hk=>?_,k3,(Frw.below hB2).trans k4 (fun k hk=>.inl hk) (fun k hk=>hk)⟩
 rcases k2 k hk with h | h
 ·exact .inl h
 ·have:=hB2.size
  exact .inr (by omega)
theorem pop_one {W:World} {lb:Nat} {s5:Lard.LS} {L5:Nat→Prop} (hA:LAt W lb s5 L5) (g:G W) {b0:List (List UInt8)} {k0:List UInt8} (hb:s5.begun=b0++[k0]) :
  ∃ gb cb,W.cell? ⟨lb,2,none⟩=some (.slice (some ⟨gb,0,none⟩) (b0.length + 1) cb)∧b0.length + 1≤cb∧W.frozen? ⟨lb,2,none⟩=false∧LPost W lb L5 { s5 with begun:=b0 } (W.setCell ⟨lb,2,none⟩ (.slice (some ⟨gb,0,none⟩) b0.length cb)):=by
 obtain ⟨hb',db,vb,vr,vn,vj,h⟩:=hA
 have hlen:s5.begun.length=b0.length + 1:=by rw [hb]; simp
 rcases h.rowBegun with ⟨_,h0⟩ | ⟨gb,cb,rfl,hc⟩
 ·rw [h0] at hlen; simp at hlen
 ·have hP:=h.popTo g
  have e1:s5.begun.dropLast=b0:=by rw [hb]; simp
  rw [e1,hlen] at hP
  refine ⟨gb,cb,by simp [World.cell?,h.blk,hlen],by omega,by simp [World.frozen?,h.blk],?_⟩
  exact hP
theorem done_one {W:World} {lb:Nat} {s6:Lard.LS} {L6:Nat→Prop} (hA:LAt W lb s6 L6) (hdl:s6.done.length≤1000000) (key:ByteArray) (hk:key.size≤200) {r:Lard.Wo} {v:Value} (hW:IsW W r v) :
  ∃ db w7,W.cell? ⟨lb,1,none⟩=some (.map (some db))∧(Instr.mapUpdate 105 (.map (some db)) (.string key) v).run Tryz.prog W=.ok () w7∧LPost W lb L6 { s6 with done:=Lard.put s6.done key.data.toList r } w7 ∧
   (∀ (k:Nat) (cs:Array Value) (t:TypeId) (fz:Nat×Nat),W.heap[k]? = some (.cells cs t fz)→w7.heap[k]? = some (.cells cs t fz)):=by
 obtain ⟨hb',db,vb,vr,vn,vj,h⟩:=hA
 obtain ⟨w7,h1,h2,h3⟩:=h.doneTo (key:=key.data.toList) hW (by rw [←size_data]; unfold maxLen; omega) (by unfold maxLen; omega)
 rw [str_bytes] at h1
 exact ⟨db,w7,by simp [World.cell?,h.blk],h1,h2,h3⟩
theorem LAt.drew {w:World} {lb:Nat} {s:Lard.LS} {L:Nat→Prop} (h:LAt w lb s L):LAt w.drew lb s L:=h.st (fun k _=>rfl) (Stay.below ((Below.refl _ w).drew))
end
section
set_option maxRecDepth 100000
set_option maxHeartbeats 1000000
open Go.RowKit Go.Shelf
theorem LPost.pre {w w2 w':World} {lb:Nat} {s:Lard.LS} {L:Nat→Prop} (hB:Below w.heap.size w w2) (h:LPost w2 lb L s w'):LPost w lb L s w':=by
 obtain ⟨L',h1,h2,h3,h4⟩:=h
 refine ⟨L',h1,fun k hk=>?_,h3,(Frw.below hB).trans h4 (fun k hk=>.inl hk) (fun k hk=>hk)⟩
 rcases h2 k hk with h | h
 ·exact .inl h
 ·have:=hB.size
  exact .inr (by omega)
theorem bring_done (w:World) (lb:Nat) (key:ByteArray) (s:Lard.LS) (L:Nat→Prop) (h:LAt w lb s L) (hk:key.size≤200) (r:Lard.Wo) (hl:Lard.look s.done key.data.toList=some r) :
  Calls Tryz.prog 49 #[ptr lb,.string key] w fun e w'=>∃ x,e=.returned x∧IsW w' r x∧LPost w lb L s w':=by
 have hA1:=h.alloc (.cells #[.int .i64 0,.nilIface] 113)
 have hkl:key.data.toList.length≤maxLen:=by rw [←size_data]; unfold maxLen; omega
 obtain ⟨hb,db,vb,vr,vn,vj,h1⟩:=hA1
 have c1:(w.alloc (.cells #[.int .i64 0,.nilIface] 113)).cell? ⟨lb,1,none⟩=some (.map (some db)):=by simp [World.cell?,h1.blk]
 rcases h1.done.look (key:=key.data.toList) hkl with ⟨h2,_⟩ | ⟨r',v,h2,hW,hr⟩
 ·rw [hl] at h2; cases h2
 rw [hl] at h2
 cases h2
 rw [str_bytes] at hr
 obtain ⟨c,i,rfl,hi⟩:=hW.form
 have hA2:∀ o,LPost (w.alloc (.cells #[.int .i64 0,.nilIface] 113)) lb L s ((w.alloc (.cells #[.int .i64 0,.nilIface] 113)).alloc o)∧IsW ((w.alloc (.cells #[.int .i64 0,.nilIface] 113)).alloc o) r (.agg #[.int .i64 c,i]):=fun o=>by
  have hB:=(Below.refl _ (w.alloc (.cells #[.int .i64 0,.nilIface] 113))).alloc (Nat.le_refl _) o
  exact ⟨LPost.below ⟨hb,db,vb,vr,vn,vj,h1⟩ hB,hW.keeps (Keeps.below hB)⟩
 obtain ⟨b0,b1,z0,z1,hP,hWf,d0,d1⟩:=box_worth h (hA2 (.cells #[.int .i64 c,i] 113)).1 (hA2 _).2
 have hEq:(((w.alloc (.cells #[.int .i64 0,.nilIface] 113)).alloc (.cells #[.int .i64 c,i] 113)).setCell ⟨w.heap.size,0,none⟩ (.int .i64 c)).setCell ⟨w.heap.size,1,none⟩ i=(w.alloc (.cells #[.int .i64 c,i] 113)).alloc (.cells #[.int .i64 c,i] 113):=by simp [go_sem]
 rw [hEq] at hP hWf
 have HP:=hide (And.intro hP hWf)
 clear hP hWf hA2 hW h1 h hl hEq b0 b1 z0 z1 d0 d1
 unfold ptr
 rcases hi with rfl | ⟨ti,ai,rfl⟩
 all_goals
  go_enter Tryz.func49,Tryz.ntmps49
  go_wp2_with fail
 ·exact bodyPost_ret (v:=.agg #[.int .i64 c,.nilIface]) (by simp [results,Tryz.results49,go_sem]) rfl ⟨_,rfl,HP.out.2,HP.out.1⟩
 ·exact bodyPost_ret (v:=.agg #[.int .i64 c,.iface ti ai]) (by simp [results,Tryz.results49,go_sem]) rfl ⟨_,rfl,HP.out.2,HP.out.1⟩
theorem bring_met (w:World) (lb:Nat) (key:ByteArray) (s:Lard.LS) (L:Nat→Prop) (h:LAt w lb s L) (g:G w) (hk:key.size≤200) (hl:Lard.look s.done key.data.toList=none) (hc:s.begun.contains key.data.toList=true) (hlen:s.begun.length≤1000) :
  Calls Tryz.prog 49 #[ptr lb,.string key] w fun e w'=>∃ x,e=.returned x∧IsW w' (.error 12) x∧LPost w lb L (s.meet key.data.toList) w':=by
 have hA1:=h.alloc (.cells #[.int .i64 0,.nilIface] 113)
 have hA2:=hA1.alloc (.cells #[.int .i64 0,.nilIface] 113)
 have hkl:key.data.toList.length≤maxLen:=by rw [←size_data]; unfold maxLen; omega
 have hB1:=(Below.refl _ w).alloc (Nat.le_refl _) (.cells #[.int .i64 0,.nilIface] 113)
 have hB2:=(Below.refl _ (w.alloc (.cells #[.int .i64 0,.nilIface] 113))).alloc (Nat.le_refl _) (.cells #[.int .i64 0,.nilIface] 113)
 have hP2:LPost (w.alloc (.cells #[.int .i64 0,.nilIface] 113)) lb L s _:=LPost.below hA1 hB2
 have g2:=(g.below hB1 g.size).below hB2 (g.below hB1 g.size).size
 obtain ⟨hb,db,vb,vr,vn,vj,h1⟩:=hA1
 have c1:(w.alloc (.cells #[.int .i64 0,.nilIface] 113)).cell? ⟨lb,1,none⟩=some (.map (some db)):=by simp [World.cell?,h1.blk]
 have hr:(Instr.lookup 105 (.map (some db)) (.string key) true).run Tryz.prog (w.alloc (.cells #[.int .i64 0,.nilIface] 113))=.ok (.tuple #[.agg #[.int .i64 0,.nilIface],.bool false]) (w.alloc (.cells #[.int .i64 0,.nilIface] 113)):=by
  rcases h1.done.look (key:=key.data.toList) hkl with ⟨_,h3⟩ | ⟨r',v,h2,_⟩
  ·rw [str_bytes] at h3; exact h3
  ·rw [hl] at h2; cases h2
 clear h1
 obtain ⟨hb2,db2,vb2,vr2,vn2,vj2,h2⟩:=hA2
 have c2:((w.alloc (.cells #[.int .i64 0,.nilIface] 113)).alloc (.cells #[.int .i64 0,.nilIface] 113)).cell? ⟨lb,2,none⟩=some vb2:=by simp [World.cell?,h2.blk]
 have hI:=idx_any h2 hlen key
 rcases h2.rowBegun with ⟨_,hb0⟩ | ⟨gb,cb,rfl,hcb⟩
 ·rw [hb0] at hc; cases hc
 have hM:∀ j,j < s.begun.length→Lard.fromKey s.begun key.data.toList=s.begun.drop j→Calls Tryz.prog 84 #[ptr lb,.slice (some ⟨gb,j,none⟩) (s.begun.length - j) (cb - j)] ((w.alloc (.cells #[.int .i64 0,.nilIface] 113)).alloc (.cells #[.int .i64 0,.nilIface] 113)) fun e w'=>e=.returned (.tuple #[])∧LPost (w.alloc (.cells #[.int .i64 0,.nilIface] 113)) lb L (s.meet key.data.toList) w':=fun j hj hf=>by
  refine (meet_any _ lb s L hb2 db2 vr2 vn2 vj2 gb j cb h2 g2 hj hlen).mono ?_
  rintro e w' ⟨rfl,hP⟩
  refine ⟨rfl,?_⟩
  unfold Lard.LS.meet
  rw [hf]
  exact LPost.pre hB2 hP
 have hfin:∀ wr,LPost (w.alloc (.cells #[.int .i64 0,.nilIface] 113)) lb L (s.meet key.data.toList) wr→_:=fun wr hP=>box_worth (r:=.error 12) (x:=.int .i64 12) (i:=.nilIface) h hP (.inr ⟨12,rfl,rfl,by omega,by omega⟩)
 have HM:=hide hM
 have HI:=hide hI
 have HF:=hide hfin
 clear hM hI hfin h2 hP2 h hl g2
 unfold ptr
 go_enter Tryz.func49,Tryz.ntmps49
 go_wp2_with fail
 refine HI.out.mono ?_
 rintro e w' ⟨hw',⟨hc',_⟩ | ⟨j,hj,_,rfl,hfk⟩⟩
 ·rw [hc] at hc'; cases hc'
 ·subst hw'
  have HMj:=hide (HM.out j hj hfk)
  unfold ptr at HMj
  clear HM HI
  go_wp2_with fail
  refine HMj.out.mono ?_
  rintro e wr ⟨rfl,hPr⟩
  obtain ⟨b0,b1,z0,z1,hP,hWf,d0,d1⟩:=HF.out wr hPr
  have HP:=hide (And.intro hP hWf)
  clear hP hWf HF HMj hPr c1 c2 hr
  go_wp2_with fail
  exact bodyPost_ret (v:=.agg #[.int .i64 12,.nilIface]) (by simp [results,Tryz.results49,go_sem,d0,d1]) rfl ⟨_,rfl,HP.out.2,HP.out.1⟩
end
end Go.Proofs.YtpekpdimdelncaaGreatDoor
