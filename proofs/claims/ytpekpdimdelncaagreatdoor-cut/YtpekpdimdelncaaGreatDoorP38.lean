/- Out of: E6, E7, E8, E9, E11, J2, St. -/
import Derived.Test.YtpekpdimdelncaaGreatDoorP37
import Derived.Deep.RegionWith
import Derived.BigQuiet
import Derived.Deep.SlicePairs
import Derived.OpenShut
import Derived.Test.YtpekpdimdelncaaGreatDoorP14
import Derived.Lib.SlBytesRow
import Derived.Lib.BufferRead
import Derived.Test.YtpekpdimdelncaaGreatDoorP28
set_option linter.unusedVariables false
set_option linter.unusedSimpArgs false
namespace Go.Proofs.YtpekpdimdelncaaGreatDoor
section
set_option maxRecDepth 100000
set_option maxHeartbeats 4000000
open Go.RowKit Go.Shelf
theorem wp_nrm {P:Program} {C:Code} {Q:Exit→Act→World→Prop} {a:Act} {w:World} (h:C.wp P (onlyN (fun a w=>Q .normal a w)) a w):C.wp P Q a w:=wp_onlyN _ (fun _ _ h=>h) h
theorem onlyN_is {K:Act→World→Prop} {a:Act} {w:World} (h:K a w):onlyN K .normal a w:=h
theorem does_x (X:Nat→Prop) (w0 w:World) (lb hb:Nat) (s:Lard.LS) (L:Nat→Prop) (N:Nat) (H:Nat→Nat×List UInt8) (kd ky wi:Int) (hkd:-9223372036854775808≤kd∧kd≤9223372036854775807) (hky:-9223372036854775808≤ky∧ky≤9223372036854775807) (hwi:-9223372036854775808≤wi∧wi≤9223372036854775807) (hN:N≤10000000000000) (h:HX X w0 w lb hb s L N H) {cp:Nat} :
  Calls Tryz.prog 17 #[ptr lb,.slice (some ⟨hb,0,none⟩) 8 cp,.agg #[.int .i64 kd,.int .i64 ky,.int .i64 wi]] w fun e w'=>e=.returned (.bool true)∧∃ L',HX X w0 w' lb hb (stepS s kd ky wi) L' (N + 2000000000) (stepH H kd ky wi):=by
 generalize hRR:(fun (e:Ending) (w':World)=>e=.returned (.bool true)∧∃ L',HX X w0 w' lb hb (stepS s kd ky wi) L' (N + 2000000000) (stepH H kd ky wi))=RR
 have HF:Hid (∀ w' L',HX X w0 w' lb hb (stepS s kd ky wi) L' (N + 2000000000) (stepH H kd ky wi)→RR (.returned (.bool true)) w'):=hide (fun w' L' hl=>by rw [←hRR]; exact ⟨rfl,L',hl⟩)
 clear hRR
 have HPK:=hide (fun w=>pick_any kd 9 w hkd.1 hkd.2 (by omega) (by omega))
 have HPY:=hide (fun w=>pick_any ky 8 w hky.1 hky.2 (by omega) (by omega))
 have HPV:=hide (fun w=>value_any wi w hwi.1 hwi.2)
 have HPR:=hide (fun w=>rule_any wi w hwi.1 hwi.2)
 have hpk:pickN kd 9 < 9:=Nat.mod_lt _ (by omega)
 have hpy:pickN ky 8 < 8:=Nat.mod_lt _ (by omega)
 unfold stepS stepH at HF
 generalize pickN kd 9=k at HPK hpk HF
 generalize pickN ky 8=n at HPY hpy HF
 have hB0:Below w.heap.size w (w.alloc (.cells #[.int .i64 kd,.int .i64 ky,.int .i64 wi] 34)):=(Below.refl _ w).alloc (Nat.le_refl _) _
 have HH:=hide (h.below hB0)
 have d0:(w.alloc (.cells #[.int .i64 kd,.int .i64 ky,.int .i64 wi] 34)).cell? ⟨w.heap.size,0,none⟩=some (.int .i64 kd):=by simp [go_sem]
 have d1:(w.alloc (.cells #[.int .i64 kd,.int .i64 ky,.int .i64 wi] 34)).cell? ⟨w.heap.size,1,none⟩=some (.int .i64 ky):=by simp [go_sem]
 have d2:(w.alloc (.cells #[.int .i64 kd,.int .i64 ky,.int .i64 wi] 34)).cell? ⟨w.heap.size,2,none⟩=some (.int .i64 wi):=by simp [go_sem]
 have HYN:=hide (fun w=>key_any n w (by omega))
 have hname:=keyB_name n (by omega)
 clear h hB0 hkd hky hwi
 unfold ptr
 go_enter Tryz.func17,Tryz.ntmps17
 go_wp2_with fail
 refine (HPY.out _).mono ?_
 rintro e w' ⟨rfl,hw'⟩
 obtain rfl:=hw'.symm
 dsimp only
 go_wp2_with fail
 refine (HPK.out _).mono ?_
 rintro e w' ⟨rfl,hw'⟩
 obtain rfl:=hw'.symm
 dsimp only
 clear HPK HPY d0 d1
 generalize w.alloc (.cells #[.int .i64 kd,.int .i64 ky,.int .i64 wi] 34)=w1 at HH d2 ⊢
 have hk:k=0∨k=1∨k=2∨k=3∨k=4∨k=5∨k=6∨k=7∨k=8:=by omega
 have hni:(n:Int) < 8:=by omega
 rcases hk with rfl | rfl | rfl | rfl | rfl | rfl | rfl | rfl | rfl
 ·go_wp2_with fail
  refine (HPV.out _).mono ?_
  rintro e w2 ⟨rfl,hB2⟩
  dsimp only
  have HH2:=hide (HH.out.below hB2)
  have c1:=HH2.out.hm.what hpy
  have c2:=HH2.out.hm.text hpy
  have f1:=HM.frozen HH2.out.hm (n * 2)
  have f2:=HM.frozen HH2.out.hm (n * 2 + 1)
  clear HPV HPR d2 HH hB2
  have HNT:=hide (HH2.out.note hpy (1,Lard.valueText (pickN wi 12)))
  have hstr:str (Lard.valueText (pickN wi 12))=.string (txB (Lard.valueText (pickN wi 12))):=rfl
  rw [hstr] at HNT
  go_wp2_with fail
  obtain ⟨w3,hw3⟩:∃ w3,(w2.setCell ⟨hb,n * 2,none⟩ (.int .i64 1)).setCell ⟨hb,n * 2 + 1,none⟩ (.string (txB (Lard.valueText (pickN wi 12))))=w3:=⟨_,rfl⟩
  have HNT3:Hid (La w3 lb s L N∧HM w3 hb (Lard.updH H n (1,Lard.valueText (pickN wi 12)))∧KpX X w0 w3):=hide (by rw [←hw3]; exact HNT.out)
  rw [hw3]
  clear hw3 HNT c1 c2 f1 f2
  have c3:w3.cell? ⟨hb,n * 2 + 1,none⟩=some (.string (txB (Lard.valueText (pickN wi 12)))):=by
   have:=HNT3.out.2.1.text hpy
   unfold Lard.updH at this
   rw [if_pos rfl] at this
   exact this
  have HPUT:=hide (fun (w4:World) (hB4:Below w3.heap.size w3 w4)=>(la_put (HNT3.out.1.below hB4) (keyB n) (txB (Lard.valueText (pickN wi 12))) (valOf wi) hname (by rw [txB_list]; exact (valOf_rd wi).1) (by have:=HH2.out.ok.len; omega) (by rw [txB_size]; exact (valOf_rd wi).2) hN).mono (fun e w5 (hp:_∧_)=>(⟨hp.1,by
   have h2:=hp.2
   rw [keyB_list] at h2
   obtain ⟨L',hl⟩:=HH2.out.put hpy wi (HNT3.out.1.below hB4) HH2.out.off (HNT3.out.2.1.same (hB4.block _ HNT3.out.2.1.lt)) (HNT3.out.2.2.below hB4) h2
   exact ⟨L',hl.le (by omega)⟩⟩:e=.returned (.int .i64 0)∧∃ L',HX X w0 w5 lb hb (s.gv (Lard.keyText n) ⟨valOf wi,none,[],none⟩) L' (N + 2000000000) (Lard.updH H n (1,Lard.valueText (pickN wi 12))))))
  unfold ptr at HPUT
  clear HH2 HNT3 hstr
  generalize txB (Lard.valueText (pickN wi 12))=tx at c3 HPUT ⊢
  refine wp_nrm ?_
  go_region_with (first | (go_at_call 19; refine (HYN.out _).mono ?_; rintro e w4 ⟨rfl,hB4⟩; have hB4':=((Below.refl _ w3).drew).trans hB4; have c4:=cell_later hB4' c3) | (go_at_call 23; refine (HPUT.out _ (by assumption)).mono ?_; rintro e w5 ⟨rfl,L5,h5⟩))
  all_goals
   have HE:=hide (HF.out w5 L5 h5)
   refine onlyN_is ?_
   apply_assumption
   simp only [Act.put,List.setIfInBounds_toArray,List.set_cons_zero,List.set_cons_succ]
   clear HF h5 HPUT HYN
   go_wp2_with fail
   exact HE.out
 ·go_wp2_with fail
  refine (HPV.out _).mono ?_
  rintro e w2 ⟨rfl,hB2⟩
  dsimp only
  have HH2:=hide (HH.out.below hB2)
  have c1:=HH2.out.hm.what hpy
  have c2:=HH2.out.hm.text hpy
  have f1:=HM.frozen HH2.out.hm (n * 2)
  have f2:=HM.frozen HH2.out.hm (n * 2 + 1)
  clear HPV HPR d2 HH hB2
  have HNT:=hide (HH2.out.note hpy (1,Lard.valueText (pickN wi 12)))
  have hstr:str (Lard.valueText (pickN wi 12))=.string (txB (Lard.valueText (pickN wi 12))):=rfl
  rw [hstr] at HNT
  go_wp2_with fail
  obtain ⟨w3,hw3⟩:∃ w3,(w2.setCell ⟨hb,n * 2,none⟩ (.int .i64 1)).setCell ⟨hb,n * 2 + 1,none⟩ (.string (txB (Lard.valueText (pickN wi 12))))=w3:=⟨_,rfl⟩
  have HNT3:Hid (La w3 lb s L N∧HM w3 hb (Lard.updH H n (1,Lard.valueText (pickN wi 12)))∧KpX X w0 w3):=hide (by rw [←hw3]; exact HNT.out)
  rw [hw3]
  clear hw3 HNT c1 c2 f1 f2
  have c3:w3.cell? ⟨hb,n * 2 + 1,none⟩=some (.string (txB (Lard.valueText (pickN wi 12)))):=by
   have:=HNT3.out.2.1.text hpy
   unfold Lard.updH at this
   rw [if_pos rfl] at this
   exact this
  have HPUT:=hide (fun (w4:World) (hB4:Below w3.heap.size w3 w4)=>(la_put (HNT3.out.1.below hB4) (keyB n) (txB (Lard.valueText (pickN wi 12))) (valOf wi) hname (by rw [txB_list]; exact (valOf_rd wi).1) (by have:=HH2.out.ok.len; omega) (by rw [txB_size]; exact (valOf_rd wi).2) hN).mono (fun e w5 (hp:_∧_)=>(⟨hp.1,by
   have h2:=hp.2
   rw [keyB_list] at h2
   obtain ⟨L',hl⟩:=HH2.out.put hpy wi (HNT3.out.1.below hB4) HH2.out.off (HNT3.out.2.1.same (hB4.block _ HNT3.out.2.1.lt)) (HNT3.out.2.2.below hB4) h2
   exact ⟨L',hl.le (by omega)⟩⟩:e=.returned (.int .i64 0)∧∃ L',HX X w0 w5 lb hb (s.gv (Lard.keyText n) ⟨valOf wi,none,[],none⟩) L' (N + 2000000000) (Lard.updH H n (1,Lard.valueText (pickN wi 12))))))
  unfold ptr at HPUT
  clear HH2 HNT3 hstr
  generalize txB (Lard.valueText (pickN wi 12))=tx at c3 HPUT ⊢
  refine wp_nrm ?_
  go_region_with (first | (go_at_call 19; refine (HYN.out _).mono ?_; rintro e w4 ⟨rfl,hB4⟩; have hB4':=((Below.refl _ w3).drew).trans hB4; have c4:=cell_later hB4' c3) | (go_at_call 23; refine (HPUT.out _ (by assumption)).mono ?_; rintro e w5 ⟨rfl,L5,h5⟩))
  all_goals
   have HE:=hide (HF.out w5 L5 h5)
   refine onlyN_is ?_
   apply_assumption
   simp only [Act.put,List.setIfInBounds_toArray,List.set_cons_zero,List.set_cons_succ]
   clear HF h5 HPUT HYN
   go_wp2_with fail
   exact HE.out
 ·go_wp2_with fail
  refine (HPR.out _).mono ?_
  rintro e w2 ⟨rfl,hB2⟩
  dsimp only
  have HH2:=hide (HH.out.below hB2)
  have c1:=HH2.out.hm.what hpy
  have c2:=HH2.out.hm.text hpy
  have f1:=HM.frozen HH2.out.hm (n * 2)
  have f2:=HM.frozen HH2.out.hm (n * 2 + 1)
  clear HPR HPV d2 HH hB2
  have HNT:=hide (HH2.out.note hpy (2,ruleOf wi))
  have hstr:str (ruleOf wi)=.string (txB (ruleOf wi)):=rfl
  rw [hstr] at HNT
  go_wp2_with fail
  obtain ⟨w3,hw3⟩:∃ w3,(w2.setCell ⟨hb,n * 2,none⟩ (.int .i64 2)).setCell ⟨hb,n * 2 + 1,none⟩ (.string (txB (ruleOf wi)))=w3:=⟨_,rfl⟩
  have HNT3:Hid (La w3 lb s L N∧HM w3 hb (Lard.updH H n (2,ruleOf wi))∧KpX X w0 w3):=hide (by rw [←hw3]; exact HNT.out)
  rw [hw3]
  clear hw3 HNT c1 c2 f1 f2
  have c3:w3.cell? ⟨hb,n * 2 + 1,none⟩=some (.string (txB (ruleOf wi))):=by
   have:=HNT3.out.2.1.text hpy
   unfold Lard.updH at this
   rw [if_pos rfl] at this
   exact this
  have HSET:=hide (fun (w4:World) (hB4:Below w3.heap.size w3 w4)=>(la_set (HNT3.out.1.below hB4) (keyB n) (txB (ruleOf wi)) (Lard.treeOf (ruleOf wi)) hname (by rw [txB_list]; exact ruleOf_T wi) (by have:=HH2.out.ok.len; omega) hN).mono (fun e w5 (hp:_∧_)=>(⟨hp.1,by
   have h2:=hp.2
   rw [keyB_list,txB_list] at h2
   obtain ⟨L',hl⟩:=HH2.out.set hpy wi (HNT3.out.1.below hB4) HH2.out.off (HNT3.out.2.1.same (hB4.block _ HNT3.out.2.1.lt)) (HNT3.out.2.2.below hB4) h2
   exact ⟨L',hl.le (by omega)⟩⟩:e=.returned (.tuple #[.int .i64 0,.int .i64 0])∧∃ L',HX X w0 w5 lb hb (s.gv (Lard.keyText n) ⟨Lard.vn 0,some (Lard.treeOf (ruleOf wi)),ruleOf wi,none⟩) L' (N + 2000000000) (Lard.updH H n (2,ruleOf wi)))))
  unfold ptr at HSET
  clear HH2 HNT3 hstr
  generalize txB (ruleOf wi)=tx at c3 HSET ⊢
  refine wp_nrm ?_
  go_region_with (first | (go_at_call 19; refine (HYN.out _).mono ?_; rintro e w4 ⟨rfl,hB4⟩; have hB4':=((Below.refl _ w3).drew).trans hB4; have c4:=cell_later hB4' c3) | (go_at_call 25; refine (HSET.out _ (by assumption)).mono ?_; rintro e w5 ⟨rfl,L5,h5⟩))
  all_goals
   have HE:=hide (HF.out w5 L5 h5)
   refine onlyN_is ?_
   apply_assumption
   simp only [Act.put,List.setIfInBounds_toArray,List.set_cons_zero,List.set_cons_succ]
   clear HF h5 HSET HYN
   go_wp2_with fail
   exact HE.out
 ·go_wp2_with fail
  refine (HPR.out _).mono ?_
  rintro e w2 ⟨rfl,hB2⟩
  dsimp only
  have HH2:=hide (HH.out.below hB2)
  have c1:=HH2.out.hm.what hpy
  have c2:=HH2.out.hm.text hpy
  have f1:=HM.frozen HH2.out.hm (n * 2)
  have f2:=HM.frozen HH2.out.hm (n * 2 + 1)
  clear HPR HPV d2 HH hB2
  have HNT:=hide (HH2.out.note hpy (2,ruleOf wi))
  have hstr:str (ruleOf wi)=.string (txB (ruleOf wi)):=rfl
  rw [hstr] at HNT
  go_wp2_with fail
  obtain ⟨w3,hw3⟩:∃ w3,(w2.setCell ⟨hb,n * 2,none⟩ (.int .i64 2)).setCell ⟨hb,n * 2 + 1,none⟩ (.string (txB (ruleOf wi)))=w3:=⟨_,rfl⟩
  have HNT3:Hid (La w3 lb s L N∧HM w3 hb (Lard.updH H n (2,ruleOf wi))∧KpX X w0 w3):=hide (by rw [←hw3]; exact HNT.out)
  rw [hw3]
  clear hw3 HNT c1 c2 f1 f2
  have c3:w3.cell? ⟨hb,n * 2 + 1,none⟩=some (.string (txB (ruleOf wi))):=by
   have:=HNT3.out.2.1.text hpy
   unfold Lard.updH at this
   rw [if_pos rfl] at this
   exact this
  have HSET:=hide (fun (w4:World) (hB4:Below w3.heap.size w3 w4)=>(la_set (HNT3.out.1.below hB4) (keyB n) (txB (ruleOf wi)) (Lard.treeOf (ruleOf wi)) hname (by rw [txB_list]; exact ruleOf_T wi) (by have:=HH2.out.ok.len; omega) hN).mono (fun e w5 (hp:_∧_)=>(⟨hp.1,by
   have h2:=hp.2
   rw [keyB_list,txB_list] at h2
   obtain ⟨L',hl⟩:=HH2.out.set hpy wi (HNT3.out.1.below hB4) HH2.out.off (HNT3.out.2.1.same (hB4.block _ HNT3.out.2.1.lt)) (HNT3.out.2.2.below hB4) h2
   exact ⟨L',hl.le (by omega)⟩⟩:e=.returned (.tuple #[.int .i64 0,.int .i64 0])∧∃ L',HX X w0 w5 lb hb (s.gv (Lard.keyText n) ⟨Lard.vn 0,some (Lard.treeOf (ruleOf wi)),ruleOf wi,none⟩) L' (N + 2000000000) (Lard.updH H n (2,ruleOf wi)))))
  unfold ptr at HSET
  clear HH2 HNT3 hstr
  generalize txB (ruleOf wi)=tx at c3 HSET ⊢
  refine wp_nrm ?_
  go_region_with (first | (go_at_call 19; refine (HYN.out _).mono ?_; rintro e w4 ⟨rfl,hB4⟩; have hB4':=((Below.refl _ w3).drew).trans hB4; have c4:=cell_later hB4' c3) | (go_at_call 25; refine (HSET.out _ (by assumption)).mono ?_; rintro e w5 ⟨rfl,L5,h5⟩))
  all_goals
   have HE:=hide (HF.out w5 L5 h5)
   refine onlyN_is ?_
   apply_assumption
   simp only [Act.put,List.setIfInBounds_toArray,List.set_cons_zero,List.set_cons_succ]
   clear HF h5 HSET HYN
   go_wp2_with fail
   exact HE.out
 ·go_wp2_with fail
  refine (HPR.out _).mono ?_
  rintro e w2 ⟨rfl,hB2⟩
  dsimp only
  have HH2:=hide (HH.out.below hB2)
  have c1:=HH2.out.hm.what hpy
  have c2:=HH2.out.hm.text hpy
  have f1:=HM.frozen HH2.out.hm (n * 2)
  have f2:=HM.frozen HH2.out.hm (n * 2 + 1)
  clear HPR HPV d2 HH hB2
  have HNT:=hide (HH2.out.note hpy (2,ruleOf wi))
  have hstr:str (ruleOf wi)=.string (txB (ruleOf wi)):=rfl
  rw [hstr] at HNT
  go_wp2_with fail
  obtain ⟨w3,hw3⟩:∃ w3,(w2.setCell ⟨hb,n * 2,none⟩ (.int .i64 2)).setCell ⟨hb,n * 2 + 1,none⟩ (.string (txB (ruleOf wi)))=w3:=⟨_,rfl⟩
  have HNT3:Hid (La w3 lb s L N∧HM w3 hb (Lard.updH H n (2,ruleOf wi))∧KpX X w0 w3):=hide (by rw [←hw3]; exact HNT.out)
  rw [hw3]
  clear hw3 HNT c1 c2 f1 f2
  have c3:w3.cell? ⟨hb,n * 2 + 1,none⟩=some (.string (txB (ruleOf wi))):=by
   have:=HNT3.out.2.1.text hpy
   unfold Lard.updH at this
   rw [if_pos rfl] at this
   exact this
  have HSET:=hide (fun (w4:World) (hB4:Below w3.heap.size w3 w4)=>(la_set (HNT3.out.1.below hB4) (keyB n) (txB (ruleOf wi)) (Lard.treeOf (ruleOf wi)) hname (by rw [txB_list]; exact ruleOf_T wi) (by have:=HH2.out.ok.len; omega) hN).mono (fun e w5 (hp:_∧_)=>(⟨hp.1,by
   have h2:=hp.2
   rw [keyB_list,txB_list] at h2
   obtain ⟨L',hl⟩:=HH2.out.set hpy wi (HNT3.out.1.below hB4) HH2.out.off (HNT3.out.2.1.same (hB4.block _ HNT3.out.2.1.lt)) (HNT3.out.2.2.below hB4) h2
   exact ⟨L',hl.le (by omega)⟩⟩:e=.returned (.tuple #[.int .i64 0,.int .i64 0])∧∃ L',HX X w0 w5 lb hb (s.gv (Lard.keyText n) ⟨Lard.vn 0,some (Lard.treeOf (ruleOf wi)),ruleOf wi,none⟩) L' (N + 2000000000) (Lard.updH H n (2,ruleOf wi)))))
  unfold ptr at HSET
  clear HH2 HNT3 hstr
  generalize txB (ruleOf wi)=tx at c3 HSET ⊢
  refine wp_nrm ?_
  go_region_with (first | (go_at_call 19; refine (HYN.out _).mono ?_; rintro e w4 ⟨rfl,hB4⟩; have hB4':=((Below.refl _ w3).drew).trans hB4; have c4:=cell_later hB4' c3) | (go_at_call 25; refine (HSET.out _ (by assumption)).mono ?_; rintro e w5 ⟨rfl,L5,h5⟩))
  all_goals
   have HE:=hide (HF.out w5 L5 h5)
   refine onlyN_is ?_
   apply_assumption
   simp only [Act.put,List.setIfInBounds_toArray,List.set_cons_zero,List.set_cons_succ]
   clear HF h5 HSET HYN
   go_wp2_with fail
   exact HE.out
 ·go_wp2_with fail
  refine (HYN.out _).mono ?_
  rintro e w2 ⟨rfl,hB2⟩
  dsimp only
  have HH2:=hide (HH.out.below hB2)
  clear HPV HPR d2 HH hB2 HYN
  have HD:=hide (la_drop HH2.out.la (keyB n) hname hN)
  unfold ptr at HD
  go_wp2_with fail
  refine HD.out.mono ?_
  rintro e w3 ⟨c,s',rfl,hs',hP⟩
  dsimp only
  rw [keyB_list] at hs'
  clear HD
  obtain ⟨hm3,L3,h3⟩:=HH2.out.drop hpy (by
   rcases hs' with ⟨_,h1,h2⟩ | ⟨_,h1,h2⟩
   ·exact .inl ⟨h1,h2⟩
   ·exact .inr ⟨h1,h2⟩) hP
  have c1:=hm3.what hpy
  have c2:=hm3.text hpy
  have f1:=HM.frozen hm3 (n * 2)
  have f2:=HM.frozen hm3 (n * 2 + 1)
  have hlk:=HH2.out.ok.look hpy (HH2.out.oki n hpy)
  have HHS:=hide hs'
  have H3:=hide h3
  clear hs' h3 hP hm3 HH2
  by_cases hc:0 < (H n).1
  ·have hci:(0:Int) < ((H n).1:Int):=by omega
   rw [decide_eq_true hc] at hlk
   obtain ⟨rfl,-,hs2⟩:c=0∧_∧s'=s.drop (Lard.keyText n):=by
    rcases HHS.out with h | ⟨_,h1,_⟩
    ·exact h
    ·rw [hlk] at h1; cases h1
   have HE:=hide (HF.out _ L3 (by
    simp only [hlk]
    rw [←hs2]
    exact H3.out.le (by omega)))
   clear HF H3 HHS hlk hs2
   go_wp2_with fail
   exact HE.out
  ·have hci:¬ (0:Int) < ((H n).1:Int):=by omega
   rw [decide_eq_false hc] at hlk
   obtain ⟨rfl,-,hs2⟩:c=7∧_∧s'=s:=by
    rcases HHS.out with ⟨_,h1,_⟩ | h
    ·rw [hlk] at h1; cases h1
    ·exact h
   have HE:=hide (HF.out _ L3 (by
    simp only [hlk]
    rw [←hs2]
    exact H3.out.le (by omega)))
   clear HF H3 HHS hlk hs2
   go_wp2_with fail
   exact HE.out
 ·go_wp2_with fail
  refine (HYN.out _).mono ?_
  rintro e w2 ⟨rfl,hB2⟩
  dsimp only
  have HH2:=hide (HH.out.below hB2)
  clear HPV HPR d2 HH hB2 HYN
  have HA:=hide (la_ask HH2.out.la (keyB n) hname hN)
  unfold ptr at HA
  go_wp2_with fail
  refine HA.out.mono ?_
  rintro e w3 ⟨v,tc,ts,rfl,htv,hP,o,cp,rfl,-⟩
  dsimp only
  rw [keyB_list] at htv hP ⊢
  clear HA
  obtain ⟨L3,h3⟩:=HH2.out.post hP (HH2.out.ok.ask _) rfl
  have HE:=hide (HF.out _ L3 h3)
  have hec:=HH2.out.la.sound.ec (Lard.keyText n)
  have hrg:=fun h=>(Lard.ask_ring HH2.out.la.sound (Lard.keyText n) h).1
  clear HF h3 hP HH2
  generalize (s.ask (Lard.keyText n)).1=r at htv hec hrg
  generalize (s.ask (Lard.keyText n)).2.ring=l at hrg ⊢
  rcases r with cd | v
  ·obtain ⟨hc7,hc12⟩:=hec cd rfl
   have e1:toldV (.error cd)=.agg #[.int .i64 (cd:Int),.string ⟨#[]⟩]:=rfl
   rw [e1] at htv
   cases htv
   by_cases h12:cd=12
   ·subst h12
    have hpos:0 < l.length:=List.length_pos_iff.2 (hrg rfl)
    have hl:(if ((12:Nat):Int)=12 then l else []).length=l.length:=rfl
    rw [hl]
    have hli:(0:Int) < (l.length:Int):=by omega
    generalize l.length=len at hli ⊢
    clear hrg hec e1 hl
    go_wp2_with fail
    exact HE.out
   ·have hl:(if (cd:Int)=12 then l else []).length=0:=by
     rw [if_neg (by omega)]
     rfl
    rw [hl]
    have h1:((cd:Int) == 12)=false:=beq_eq_false_iff_ne.2 (by omega)
    have h2:((cd:Int) == 0)=false:=beq_eq_false_iff_ne.2 (by omega)
    clear hrg hec e1 hl
    go_wp2_with fail
    exact HE.out
  ·have e1:toldV (.ok v)=.agg #[.int .i64 0,.string ⟨(Lard.wr 3 v).toArray⟩]:=rfl
   rw [e1] at htv
   have hne:=wr_ne v
   cases htv
   have hl:(if (0:Int)=12 then l else []).length=0:=rfl
   rw [hl]
   have h1:(⟨(Lard.wr 3 v).toArray⟩:ByteArray).toList.isEmpty=false:=by
    rw [Lib.toList_data]
    simpa using hne
   generalize (⟨(Lard.wr 3 v).toArray⟩:ByteArray)=ts at h1
   clear hrg hec e1 hl hne
   go_wp2_with fail
   exact HE.out
 ·go_wp2_with fail
  refine (HYN.out _).mono ?_
  rintro e w2 ⟨rfl,hB2⟩
  dsimp only
  have HH2:=hide (HH.out.below hB2)
  clear HPV HPR d2 HH hB2 HYN
  have HA:=hide (la_ask HH2.out.la (keyB n) hname hN)
  unfold ptr at HA
  go_wp2_with fail
  refine HA.out.mono ?_
  rintro e w3 ⟨v,tc,ts,rfl,htv,hP,o,cp,rfl,-⟩
  dsimp only
  rw [keyB_list] at htv hP ⊢
  clear HA
  obtain ⟨L3,h3⟩:=HH2.out.post hP (HH2.out.ok.ask _) rfl
  have HE:=hide (HF.out _ L3 h3)
  have hec:=HH2.out.la.sound.ec (Lard.keyText n)
  have hrg:=fun h=>(Lard.ask_ring HH2.out.la.sound (Lard.keyText n) h).1
  clear HF h3 hP HH2
  generalize (s.ask (Lard.keyText n)).1=r at htv hec hrg
  generalize (s.ask (Lard.keyText n)).2.ring=l at hrg ⊢
  rcases r with cd | v
  ·obtain ⟨hc7,hc12⟩:=hec cd rfl
   have e1:toldV (.error cd)=.agg #[.int .i64 (cd:Int),.string ⟨#[]⟩]:=rfl
   rw [e1] at htv
   cases htv
   by_cases h12:cd=12
   ·subst h12
    have hpos:0 < l.length:=List.length_pos_iff.2 (hrg rfl)
    have hl:(if ((12:Nat):Int)=12 then l else []).length=l.length:=rfl
    rw [hl]
    have hli:(0:Int) < (l.length:Int):=by omega
    generalize l.length=len at hli ⊢
    clear hrg hec e1 hl
    go_wp2_with fail
    exact HE.out
   ·have hl:(if (cd:Int)=12 then l else []).length=0:=by
     rw [if_neg (by omega)]
     rfl
    rw [hl]
    have h1:((cd:Int) == 12)=false:=beq_eq_false_iff_ne.2 (by omega)
    have h2:((cd:Int) == 0)=false:=beq_eq_false_iff_ne.2 (by omega)
    clear hrg hec e1 hl
    go_wp2_with fail
    exact HE.out
  ·have e1:toldV (.ok v)=.agg #[.int .i64 0,.string ⟨(Lard.wr 3 v).toArray⟩]:=rfl
   rw [e1] at htv
   have hne:=wr_ne v
   cases htv
   have hl:(if (0:Int)=12 then l else []).length=0:=rfl
   rw [hl]
   have h1:(⟨(Lard.wr 3 v).toArray⟩:ByteArray).toList.isEmpty=false:=by
    rw [Lib.toList_data]
    simpa using hne
   generalize (⟨(Lard.wr 3 v).toArray⟩:ByteArray)=ts at h1
   clear hrg hec e1 hl hne
   go_wp2_with fail
   exact HE.out
 ·go_wp2_with fail
  refine (HYN.out _).mono ?_
  rintro e w2 ⟨rfl,hB2⟩
  dsimp only
  have HH2:=hide (HH.out.below hB2)
  clear HPV HPR d2 HH hB2 HYN
  have HA:=hide (la_ask HH2.out.la (keyB n) hname hN)
  unfold ptr at HA
  go_wp2_with fail
  refine HA.out.mono ?_
  rintro e w3 ⟨v,tc,ts,rfl,htv,hP,o,cp,rfl,-⟩
  dsimp only
  rw [keyB_list] at htv hP ⊢
  clear HA
  obtain ⟨L3,h3⟩:=HH2.out.post hP (HH2.out.ok.ask _) rfl
  have HE:=hide (HF.out _ L3 h3)
  have hec:=HH2.out.la.sound.ec (Lard.keyText n)
  have hrg:=fun h=>(Lard.ask_ring HH2.out.la.sound (Lard.keyText n) h).1
  clear HF h3 hP HH2
  generalize (s.ask (Lard.keyText n)).1=r at htv hec hrg
  generalize (s.ask (Lard.keyText n)).2.ring=l at hrg ⊢
  rcases r with cd | v
  ·obtain ⟨hc7,hc12⟩:=hec cd rfl
   have e1:toldV (.error cd)=.agg #[.int .i64 (cd:Int),.string ⟨#[]⟩]:=rfl
   rw [e1] at htv
   cases htv
   by_cases h12:cd=12
   ·subst h12
    have hpos:0 < l.length:=List.length_pos_iff.2 (hrg rfl)
    have hl:(if ((12:Nat):Int)=12 then l else []).length=l.length:=rfl
    rw [hl]
    have hli:(0:Int) < (l.length:Int):=by omega
    generalize l.length=len at hli ⊢
    clear hrg hec e1 hl
    go_wp2_with fail
    exact HE.out
   ·have hl:(if (cd:Int)=12 then l else []).length=0:=by
     rw [if_neg (by omega)]
     rfl
    rw [hl]
    have h1:((cd:Int) == 12)=false:=beq_eq_false_iff_ne.2 (by omega)
    have h2:((cd:Int) == 0)=false:=beq_eq_false_iff_ne.2 (by omega)
    clear hrg hec e1 hl
    go_wp2_with fail
    exact HE.out
  ·have e1:toldV (.ok v)=.agg #[.int .i64 0,.string ⟨(Lard.wr 3 v).toArray⟩]:=rfl
   rw [e1] at htv
   have hne:=wr_ne v
   cases htv
   have hl:(if (0:Int)=12 then l else []).length=0:=rfl
   rw [hl]
   have h1:(⟨(Lard.wr 3 v).toArray⟩:ByteArray).toList.isEmpty=false:=by
    rw [Lib.toList_data]
    simpa using hne
   generalize (⟨(Lard.wr 3 v).toArray⟩:ByteArray)=ts at h1
   clear hrg hec e1 hl hne
   go_wp2_with fail
   exact HE.out
theorem does_any (w0 w:World) (lb hb:Nat) (s:Lard.LS) (L:Nat→Prop) (N:Nat) (H:Nat→Nat×List UInt8) (kd ky wi:Int) (hkd:-9223372036854775808≤kd∧kd≤9223372036854775807) (hky:-9223372036854775808≤ky∧ky≤9223372036854775807) (hwi:-9223372036854775808≤wi∧wi≤9223372036854775807) (hN:N≤10000000000000) (h:HL w0 w lb hb s L N H) :
  Calls Tryz.prog 17 #[ptr lb,.slice (some ⟨hb,0,none⟩) 8 8,.agg #[.int .i64 kd,.int .i64 ky,.int .i64 wi]] w fun e w'=>e=.returned (.bool true)∧∃ L',HL w0 w' lb hb (stepS s kd ky wi) L' (N + 2000000000) (stepH H kd ky wi) :=
 (does_x _ w0 w lb hb s L N H kd ky wi hkd hky hwi hN h.hx).mono (fun e w' ⟨h1,L',h2⟩=>⟨h1,L',h2.hl⟩)
end
section
set_option maxRecDepth 100000
set_option maxHeartbeats 1000000
open Go.RowKit Go.Shelf
theorem asks_any (w:World) (kd ky wi:Int) (hkd:-9223372036854775808≤kd∧kd≤9223372036854775807):Calls Tryz.prog 18 #[.agg #[.int .i64 kd,.int .i64 ky,.int .i64 wi]] w fun e w'=>e=.returned (.bool (decide (5 < pickN kd 9)))∧Below w.heap.size w w':=by
 have HPK:=hide (fun w=>pick_any kd 9 w hkd.1 hkd.2 (by omega) (by omega))
 have HB:=hide ((Below.refl _ w).alloc (Nat.le_refl _) (.cells #[.int .i64 kd,.int .i64 ky,.int .i64 wi] 34))
 have d0:(w.alloc (.cells #[.int .i64 kd,.int .i64 ky,.int .i64 wi] 34)).cell? ⟨w.heap.size,0,none⟩=some (.int .i64 kd):=by simp [go_sem]
 generalize pickN kd 9=k at HPK ⊢
 go_enter Tryz.func18,Tryz.ntmps18
 go_wp2_with fail
 refine (HPK.out _).mono ?_
 rintro e w' ⟨rfl,hw'⟩
 obtain rfl:=hw'.symm
 dsimp only
 clear HPK d0
 have hi:((5:Int) < (k:Int))↔5 < k:=by omega
 by_cases h:5 < k
 ·have h':=hi.2 h
  clear hi
  go_wp2_with fail
  go_ret
  exact ⟨by simp [h],HB.out⟩
 ·have h':¬ (5:Int) < (k:Int):=fun e=>h (hi.1 e)
  clear hi
  go_wp2_with fail
  go_ret
  exact ⟨by simp [h],HB.out⟩
structure FW (w0 w:World) (lb:Nat) (f:Lard.LS) (L:Nat→Prop) (N i:Nat) (H:Nat→Nat×List UInt8):Prop where
 la:La w lb f L N
 off:∀ k,L k→w0.heap.size≤k
 bel:Below w0.heap.size w0 w
 ok:Lard.HasOk f H i
section
variable {w0 w w':World} {lb:Nat} {f f':Lard.LS} {L:Nat→Prop} {N M i:Nat} {H:Nat→Nat×List UInt8}
theorem FW.below (h:FW w0 w lb f L N i H) (hB:Below w.heap.size w w'):FW w0 w' lb f L N i H:=⟨h.la.below hB,h.off,h.bel.trans (hB.mono h.bel.size),h.ok⟩
theorem FW.post (h:FW w0 w lb f L N i H) (hP:LaPost w lb L f' M w') {j:Nat} (hok:Lard.HasOk f' H j):∃ L',FW w0 w' lb f' L' M j H:=by
 obtain ⟨L',h1,h2,h3,h4⟩:=hP
 have hb0:=h.bel.size
 refine ⟨L',h1,fun k hk=>?_,?_,hok⟩
 ·rcases h2 k hk with h5 | h5
  ·exact h.off k h5
  ·omega
 ·exact h.bel.trans ⟨h4.os,h4.tape,h4.output,h4.size,fun k hk=>h4.block k (by omega) (fun hl=>by have:=h.off k hl; omega)⟩
end
end
section
open Go.RowKit Go.Shelf
structure TW (w0 w:World) (lb hb lb2:Nat) (s f:Lard.LS) (L L2:Nat→Prop) (N M:Nat) (H:Nat→Nat×List UInt8):Prop where
 hl:HL w0 w lb hb s L N H
 la2:La w lb2 f L2 M
 ok2:Lard.HasOk f H 8
 dis:∀ k,L k→¬ L2 k
 hb2:¬ L2 hb
 lo2:∀ k,L2 k→w0.heap.size≤k
theorem la_imm {w:World} {lb:Nat} {s:Lard.LS} {L:Nat→Prop} {N:Nat} (h:La w lb s L N):∀ k,L k→∀ (cs:Array Value) (t:TypeId) (fz:Nat×Nat),w.heap[k]? = some (.cells cs t fz)→¬ Imm t:=by
 intro k hk cs t fz hc hi
 rcases (h.lat.typed k hk).2.2 with ⟨es,c,h1⟩ | ⟨cs',t',fz',h1,h2⟩
 ·rw [h1] at hc
  cases hc
 ·rw [h1] at hc
  cases hc
  exact h2.imm (.inl hi)
section
variable {w0 w w':World} {lb hb lb2:Nat} {s f s' f':Lard.LS} {L L2:Nat→Prop} {N M N':Nat} {H:Nat→Nat×List UInt8}
theorem HL.two (h:HL w0 w lb hb s L N H) (hf:FW w w' lb2 f L2 M 8 H):TW w0 w' lb hb lb2 s f L L2 N M H where
 hl:=h.below hf.bel
 la2:=hf.la
 ok2:=hf.ok
 dis k hk hk2:=by
  have h1:=(h.la.lat.lt hk).2
  have h2:=hf.off k hk2
  omega
 hb2 hk:=by
  have h1:=h.hm.lt
  have h2:=hf.off hb hk
  omega
 lo2 k hk:=Nat.le_trans h.bel.size (hf.off k hk)
theorem TW.below (h:TW w0 w lb hb lb2 s f L L2 N M H) (hB:Below w.heap.size w w'):TW w0 w' lb hb lb2 s f L L2 N M H :=
 ⟨h.hl.below hB,h.la2.below hB,h.ok2,h.dis,h.hb2,h.lo2⟩
theorem TW.le (h:TW w0 w lb hb lb2 s f L L2 N M H) {N1 M1:Nat} (h1:N≤N1) (h2:M≤M1):TW w0 w lb hb lb2 s f L L2 N1 M1 H :=
 ⟨h.hl.le h1,h.la2.le h2,h.ok2,h.dis,h.hb2,h.lo2⟩
end
theorem told_same2 {r:Lard.Wo} {tc tc':Int} {ts ts':ByteArray} (h:toldV r=.agg #[.int .i64 tc,.string ts]) (h':toldV r=.agg #[.int .i64 tc',.string ts']):tc=tc'∧ts=ts':=by
 rw [h] at h'
 cases h'
 exact ⟨rfl,rfl⟩
end
section
open Go.RowKit Go.Shelf
def StepsAt (w:World) (o:Option Addr) (len:Nat) (K Y Z:Nat→Int):Prop :=
 ∀ i,i < len→∃ ab ao,o=some ⟨ab,ao,none⟩∧w.cell? ⟨ab,ao + i * 3,none⟩=some (.int .i64 (K i))∧w.cell? ⟨ab,ao + i * 3 + 1,none⟩=some (.int .i64 (Y i))∧w.cell? ⟨ab,ao + i * 3 + 2,none⟩=some (.int .i64 (Z i)) ∧
  (-9223372036854775808≤K i∧K i≤9223372036854775807)∧(-9223372036854775808≤Y i∧Y i≤9223372036854775807)∧(-9223372036854775808≤Z i∧Z i≤9223372036854775807)
def hasZero:Array Value:=#[.int .i64 0,.string ⟨#[]⟩,.int .i64 0,.string ⟨#[]⟩,.int .i64 0,.string ⟨#[]⟩,.int .i64 0,.string ⟨#[]⟩,.int .i64 0,.string ⟨#[]⟩,.int .i64 0,.string ⟨#[]⟩,.int .i64 0,.string ⟨#[]⟩,.int .i64 0,.string ⟨#[]⟩]
theorem make_has (w:World):(Instr.makeSlice 31 (.int .i64 8) (.int .i64 8)).run Tryz.prog w=.ok (.slice (some ⟨w.heap.size,0,none⟩) 8 8) (w.alloc (.cells hasZero 69)):=by kernel_rfl
theorem hm_zero (w:World):HM (w.alloc (.cells hasZero 69)) w.heap.size (fun _=>(0,[])):=by
 refine ⟨16,hasF (fun _=>(0,[])),Nat.le_refl _,⟨hasZero,heap_alloc_new w _,rfl,fun i hi=>?_⟩,fun j hj=>rfl⟩
 have:∀ i,i < 16→hasZero[i]? = some (if i % 2=0 then Value.int .i64 ((0:Nat):Int) else str []):=by
  intro i hi
  match i,hi with
  |0,_=>rfl
  |1,_=>rfl
  |2,_=>rfl
  |3,_=>rfl
  |4,_=>rfl
  |5,_=>rfl
  |6,_=>rfl
  |7,_=>rfl
  |8,_=>rfl
  |9,_=>rfl
  |10,_=>rfl
  |11,_=>rfl
  |12,_=>rfl
  |13,_=>rfl
  |14,_=>rfl
  |15,_=>rfl
  |n + 16,h=>omega
 exact this i hi
def tailS:Nat→Code→Code
 |0,c=>c
 |n + 1,.seq _ y=>tailS n y
 |_,c=>c
end
section
set_option maxRecDepth 100000
open Go.ChangeShapes Go.WideShapes Go.RowKit Go.Deep
theorem cells34:Tryz.prog.cellsOf 34=3:=by kernel_rfl
theorem cells3i:Tryz.prog.cellsOf 3=1:=by kernel_rfl
theorem steps_open {H:Type} {enc:TypeId×Value→H} {w:World} {base fuel:Nat} {spare:Nat→Bool} {held:Bool} {cs:List Value} {x:DataW H×List MemPlace} (h:DataW.trod enc Tryz.prog w base spare held fuel 27 cs=some x) :
  ∃ o len cap K Y Z,cs=[.slice o len cap]∧StepsAt w o len K Y Z:=by
 rcases open_slice Tryz.underlying27 h with ⟨h0,_⟩ | ⟨a,len,cap,m,n,D,Pl,rfl,hb,hl,hm,hmm,rfl,hx⟩
 ·exact ⟨none,0,0,fun _=>0,fun _=>0,fun _=>0,h0,fun i hi=>by omega⟩
 ·have hlm:len≤m:=by rw [hmm]; split <;> omega
  have each:∀ i,i < len→∃ q:Int×Int×Int,w.cell? (a.add (i * 3))=some (.int .i64 q.1)∧w.cell? (a.add (i * 3 + 1))=some (.int .i64 q.2.1)∧w.cell? (a.add (i * 3 + 2))=some (.int .i64 q.2.2)∧(Lit.int .i64 q.1).wf=true∧(Lit.int .i64 q.2.1).wf=true∧(Lit.int .i64 q.2.2).wf=true:=by
   intro i hi
   obtain ⟨cs',h1,h2⟩:=hx i (by omega)
   rw [cells34] at h1
   obtain ⟨_,hlen,hcell⟩:=World.cells?_some h1
   obtain ⟨xs,k,hk,hxy,_,hxl,hf⟩:=DataW.trod_struct Tryz.underlying34 h2
   match xs,hxl,cs',hlen with
   |[y0,y1,y2],_,[v0,v1,v2],_ =>
    have g0:=hf 0 _ rfl
    have g1:=hf 1 _ rfl
    have g2:=hf 2 _ rfl
    simp [cells3i] at g0 g1 g2
    have e0:=hcell 0 (by omega)
    have e1:=hcell 1 (by omega)
    have e2:=hcell 2 (by omega)
    rw [add_add] at e0 e1 e2
    obtain ⟨n0,k0,_,w0⟩:=DataW.trod_int Tryz.underlying3 g0
    obtain ⟨n1,k1,_,w1⟩:=DataW.trod_int Tryz.underlying3 g1
    obtain ⟨n2,k2,_,w2⟩:=DataW.trod_int Tryz.underlying3 g2
    simp at k0 k1 k2
    subst k0
    subst k1
    subst k2
    exact ⟨(n0,n1,n2),by simpa using e0,by simpa using e1,by simpa using e2,w0,w1,w2⟩
  obtain ⟨q,hq⟩:=choose_lt each
  refine ⟨some a,len,cap,fun i=>(q i).1,fun i=>(q i).2.1,fun i=>(q i).2.2,rfl,fun i hi=>?_⟩
  obtain ⟨h1,h2,h3,b1,b2,b3⟩:=hq i hi
  obtain ⟨ab,ao,ap⟩:=a
  have hspot:ap=none:=by
   obtain ⟨h1',_⟩:=hq 0 (by omega)
   simpa [Addr.add] using World.cell?_spot h1'
  subst hspot
  rw [add_plain] at h1 h2 h3
  exact ⟨ab,ao,rfl,h1,by rw [Nat.add_assoc]; exact h2,by rw [Nat.add_assoc]; exact h3,bounds_i64 b1,bounds_i64 b2,bounds_i64 b3⟩
end
section
set_option maxRecDepth 100000
set_option maxHeartbeats 1000000
open Go.RowKit Go.Shelf
theorem bytes_str {w:World} {g:Nat} {s:ByteArray} {base n:Nat} {v:Value} {c:Nat} (h:w.ownsRow base 5 1 (.slice (some ⟨g,0,none⟩) n c) n (Lib.strCells s)):Lib.Bytes w g 0 s:=by
 intro i hi
 have:=World.ownsRow.cells h (g:=g) rfl i (.int .u8 (s[i].toNat:Int)) (by
  unfold Lib.strCells
  rw [List.getElem?_map,byte_at s i hi]
  rfl)
 have e:(⟨g,0,none⟩:Addr).add i=⟨g,i,none⟩:=by unfold Addr.add; split <;> simp_all
 rw [e] at this
 rw [Nat.zero_add]
 exact this
theorem journal_any (w:World) (lb:Nat) (s:Lard.LS) (L:Nat→Prop) (h:LAt w lb s L) :
  Calls Tryz.prog 33 #[ptr lb] w fun e w'=>e=.returned (str (jbytes s.jr))∧w'=w:=by
 obtain ⟨hb,db,vb,vr,vn,vj,h0⟩:=h
 have c5:w.cell? ⟨lb,5,none⟩=some vj:=by simp [World.cell?,h0.blk]
 have hcv:(convert 106 9 vj).run Tryz.prog w=.ok (str (jbytes s.jr)) w:=by
  have hj:=h0.jr
  rcases hj.2 with ⟨e,hz⟩ | ⟨g,cap,cur,e,_⟩
  ·rw [e]
   have:jbytes s.jr=[]:=List.length_eq_zero_iff.1 hz
   rw [this]
   exact Lib.run_convert_nil_bytes w _ _ _ 0 Tryz.underlying106 Tryz.underlying5 Tryz.underlying9
  ·rw [e] at hj ⊢
   have hsz:(⟨(jbytes s.jr).toArray⟩:ByteArray).size=(jbytes s.jr).length:=by rw [Lib.size_eq]
   have:=Lib.run_convert_whole (P:=Tryz.prog) w _ _ _ Tryz.underlying106 Tryz.underlying5 Tryz.underlying9 g 0 ⟨(jbytes s.jr).toArray⟩ (bytes_str (v:=vj) hj) cap
   rw [hsz] at this
   exact this
 clear h0
 unfold ptr
 go_enter Tryz.func33,Tryz.ntmps33
 go_wp2_with fail
 go_ret
 exact ⟨rfl,rfl⟩
end
namespace Lard
/-! What is kept. -/
theorem Sound.lose {s:LS} (h:Sound s) (key:By):Sound (s.lose key) where
 ef:=by
  show EF (srcOf (setKept s.has key none))
  rw [srcOf_setKept]
  exact h.ef
 hon k t kp h1 h2:=by
  have h1:srcOf (setKept s.has key none) k=_:=h1
  have h2:keptOf (setKept s.has key none) k=_:=h2
  rw [srcOf_setKept] at h1
  rw [keptOf_setKept] at h2
  split at h2
  ·cases hl:look s.has k <;> rw [hl] at h2 <;> cases h2
  ·exact h.hon k t kp h1 h2
 only k kp h2:=by
  have h2:keptOf (setKept s.has key none) k=_:=h2
  show ∃ t,srcOf (setKept s.has key none) k=_
  rw [srcOf_setKept]
  rw [keptOf_setKept] at h2
  split at h2
  ·cases hl:look s.has k <;> rw [hl] at h2 <;> cases h2
  ·exact h.only k kp h2
 fine k kp h2:=by
  have h2:keptOf (setKept s.has key none) k=_:=h2
  rw [keptOf_setKept] at h2
  split at h2
  ·cases hl:look s.has k <;> rw [hl] at h2 <;> cases h2
  ·exact h.fine k kp h2
 begun:=h.begun
 kb:=kb_setKept h.kb (fun kp e=>by cases e)
 len:=by
  show (setKept s.has key none).length≤40
  unfold setKept
  rw [List.length_map]
  exact h.len
end Lard
end Go.Proofs.YtpekpdimdelncaaGreatDoor
