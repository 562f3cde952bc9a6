/- Out of: X13, X14, W15, W16. -/
import Derived.Test.YtpekpdimdelncaaGreatDoorP32
import Derived.Test.YtpekpdimdelncaaGreatDoorP09
import Derived.Lib.ParseIntBTie
import Derived.Defers
import Derived.Recover
set_option linter.unusedSimpArgs false
set_option linter.unusedVariables false
namespace Go.Proofs.YtpekpdimdelncaaGreatDoor
section
set_option maxRecDepth 100000
set_option maxHeartbeats 1000000
open Go.RowKit
theorem upToT_list (s:ByteArray) (pb i deep its:Nat) (t:List UInt8) (hs:s.size≤200) (hpb:8≤pb) (r:Lard.RT) (H:ConT s 89 pb deep its i r) (hr:∀ j ts,r=.ok (j,ts)→j≤s.size) :
  ∀ w,G w→PAt w s pb i deep its→Calls Tryz.prog 294 #[.pointer (some ⟨pb,0,none⟩),.string ⟨t.toArray⟩] w (PostT s pb deep its w.heap.size w (Lard.thenT r (Lard.expT s.data.toList t))) :=
 fun w g h=>by
  have:=upToT_any s pb i deep its ⟨t.toArray⟩ w g h (by omega) hpb r H hr
  simpa using this
theorem seqT_in {s:ByteArray} {r:Lard.RT} {t:List UInt8} {i k:Nat} {us:List Lard.T} (ht:t≠[]) (hr:∀ j ts,r=.ok (j,ts)→i≤j∧j≤s.size) (h:Lard.thenT r (Lard.expT s.data.toList t)=.ok (k,us)):i + 1≤k∧k≤s.size:=by
 rcases r with x | ⟨j,ts⟩
 ·cases h
 have a:=hr j ts rfl
 have h2:Lard.expect s.data.toList t j=.ok k:=by
  rw [←Lard.place_exp s.data.toList t j ts,show Lard.expT s.data.toList t j ts=.ok (k,us) from h]; rfl
 have b:=Lard.expect_prog h2 ht (by simpa using a.2)
 have c:k≤s.size:=by simpa using b.2
 omega
theorem partsT_both (s:ByteArray) (pb n deep its i k:Nat) (hk:k=13∨k=14) (hs:s.size≤200) (hpb:8≤pb) (hi:i≤s.size) (hd:deep≤20) (hits:its≤deep) (hfuel:8 * (s.size - i) + 4≤n)
  (H:∀ m,m≤n→CTT s pb m 0 89) (w:World) (g:G w) (h:PAt w s pb i deep its) :
  Calls Tryz.prog 263 #[.pointer (some ⟨pb,0,none⟩),.int .i64 (k:Int)] w (PostTS s pb deep its w (partsTAt s.data.toList n deep its k i)):=by
 have hr:partsTAt s.data.toList n deep its k i=Lard.thenT (Lard.expT s.data.toList [40] i []) fun j _=>Lard.thenT (Lard.thenT (Lard.PT s.data.toList n 0 deep its j []) (Lard.expT s.data.toList [44])) fun j ts=>Lard.thenT (Lard.thenT (Lard.PT s.data.toList n 0 deep its j []) (Lard.expT s.data.toList [41])) fun j us=>.ok (j,ts++us):=by
  rcases hk with rfl | rfl <;> rfl
 have he:=expect_any s pb i deep its ⟨#[40]⟩ w g h (by omega) hi
 rw [hr]
 rcases exp_cases s.data.toList [40] i with ⟨hx,hxT⟩ | ⟨j,hx,hxT⟩
 all_goals rw [hxT]
 ·generalize ((3,i):Nat×Nat)=x at hx
  show Calls _ _ _ _ (PostTS s pb deep its w (.error x))
  have hx':Lard.expect s.data.toList (⟨#[40]⟩:ByteArray).data.toList i=.error x:=hx
  have HE:=hide he
  have HX:=hide hx'
  clear hr H he hx hx' hxT hfuel
  rcases hk with rfl | rfl
  all_goals
   go_enter Tryz.func263,Tryz.ntmps263
   go_wp2_with fail
   refine HE.out.mono ?_
   rintro e w1 ⟨f1,_,h3⟩
   have he:=h3 x HX.out
   subst he
   exact ⟨rfl,PostTS.mkErr f1⟩
 ·have hj:=Lard.expect_prog hx (by simp) (by simpa using hi)
  have hj1:=hj.1
  have hj2:j≤s.size:=by simpa using hj.2
  have h1:=H n (Nat.le_refl _) deep its j hj2 hd (by omega) (by simp [Lard.nd]; omega)
  have hx':Lard.expect s.data.toList (⟨#[40]⟩:ByteArray).data.toList i=.ok j:=hx
  have hu:=upToT_list s pb j deep its [44] hs hpb _ h1 (fun j' ts' hj'=>(PT_in rfl hj' hj2).2)
  have hpr2:=fun k us=>seqT_in (s:=s) (t:=[44]) (i:=j) (k:=k) (us:=us) (r:=Lard.PT s.data.toList n 0 deep its j []) (by simp) (fun j' ts' hj'=>PT_in rfl hj' hj2)
  show Calls _ _ _ _ (PostTS s pb deep its w (Lard.thenT (Lard.thenT (Lard.PT s.data.toList n 0 deep its j []) (Lard.expT s.data.toList [44])) fun j ts=>Lard.thenT (Lard.thenT (Lard.PT s.data.toList n 0 deep its j []) (Lard.expT s.data.toList [41])) fun j us=>.ok (j,ts++us)))
  generalize Lard.thenT (Lard.PT s.data.toList n 0 deep its j []) (Lard.expT s.data.toList [44])=r2 at hu hpr2
  have HE:=hide he
  have HX:=hide hx'
  have HU:=hide hu
  rcases r2 with x | ⟨j3,ts2⟩
  ·show Calls _ _ _ _ (PostTS s pb deep its w (.error x))
   clear hr H he hx hx' hxT hfuel h1 hu hj hj1 hpr2
   rcases hk with rfl | rfl
   all_goals
    go_enter Tryz.func263,Tryz.ntmps263
    go_wp2_with fail
    refine HE.out.mono ?_
    rintro e w1 ⟨f1,h2,_⟩
    obtain ⟨rfl,hp1⟩:=h2 j HX.out
    clear h2 HE HX
    go_wp2_with fail
    refine (HU.out _ (g.fr f1 hpb) hp1).mono ?_
    rintro e w2 hp
    obtain ⟨f2,rfl⟩:=PostT.err hp
    exact ⟨rfl,PostTS.mkErr (Fr.trans f1 f2)⟩
  ·obtain ⟨hj3,hj4⟩:=hpr2 j3 ts2 rfl
   have h4:=H n (Nat.le_refl _) deep its j3 hj4 hd hits (by simp [Lard.nd]; omega)
   have hv:=upToT_list s pb j3 deep its [41] hs hpb _ h4 (fun j' ts' hj'=>(PT_in rfl hj' hj4).2)
   show Calls _ _ _ _ (PostTS s pb deep its w (Lard.thenT (Lard.thenT (Lard.PT s.data.toList n 0 deep its j3 []) (Lard.expT s.data.toList [41])) fun j us=>.ok (j,ts2++us)))
   generalize Lard.thenT (Lard.PT s.data.toList n 0 deep its j3 []) (Lard.expT s.data.toList [41])=r3 at hv
   have HV:=hide hv
   clear hr H he hx hx' hxT hfuel h1 hu hj hj1 hpr2 h4 hv
   rcases hk with rfl | rfl
   all_goals
    go_enter Tryz.func263,Tryz.ntmps263
    go_wp2_with fail
    refine HE.out.mono ?_
    rintro e w1 ⟨f1,h2,_⟩
    obtain ⟨rfl,hp1⟩:=h2 j HX.out
    clear h2 HE HX
    go_wp2_with fail
    refine (HU.out _ (g.fr f1 hpb) hp1).mono ?_
    rintro e w2 hp
    obtain ⟨f2,⟨q2,t2,rfl,rfl,ht2⟩,hp2⟩:=PostT.ok hp
    have HT2:=hide ht2
    clear hp HU ht2
    go_wp2_with fail
    refine (HV.out _ ((g.fr f1 hpb).fr f2 hpb) hp2).mono ?_
    rintro e w3 hp
    rcases r3 with x | ⟨j,ts3⟩
    ·obtain ⟨f3,rfl⟩:=PostT.err hp
     exact ⟨rfl,PostTS.mkErr (Fr.trans (Fr.trans f1 f2) f3)⟩
    ·obtain ⟨f3,⟨q3,t3,rfl,rfl,ht3⟩,hp3⟩:=PostT.ok hp
     have HT3:=hide ht3
     clear hp HV ht3
     go_wp2_with fail
     go_ret
     have hz1:=f1.size
     have hz2:=f2.size
     have hz3:=f3.size
     exact PostTS.mkOk (Fr.alloc (Fr.trans (Fr.trans f1 f2) f3) _) (hp3.alloc _) (TFs.lay 2 rfl ((TL.one ((HT2.out.keeps (hp2.kp f3)).mono (by omega))).append (TL.one (HT3.out.mono (by omega)))) (by omega))
theorem partsT_each (s:ByteArray) (pb n deep its i k:Nat) (hk:k=15∨k=16) (hs:s.size≤200) (hpb:8≤pb) (hi:i≤s.size) (hd:deep≤20) (hits:its + 1≤deep) (hfuel:8 * (s.size - i) + 4≤n)
  (H:∀ m,m≤n→CTT s pb m 0 89) (w:World) (g:G w) (h:PAt w s pb i deep its) :
  Calls Tryz.prog 263 #[.pointer (some ⟨pb,0,none⟩),.int .i64 (k:Int)] w (PostTS s pb deep its w (partsTAt s.data.toList n deep its k i)):=by
 have hr:partsTAt s.data.toList n deep its k i=Lard.thenT (Lard.expT s.data.toList [40] i []) fun j _=>Lard.thenT (Lard.thenT (Lard.PT s.data.toList n 0 deep its j []) (Lard.expT s.data.toList [44])) fun j ts=>Lard.thenT (Lard.thenT (Lard.PT s.data.toList n 0 deep (its + 1) j []) (Lard.expT s.data.toList [41])) fun j us=>.ok (j,ts++us):=by
  rcases hk with rfl | rfl <;> rfl
 have he:=expect_any s pb i deep its ⟨#[40]⟩ w g h (by omega) hi
 rw [hr]
 rcases exp_cases s.data.toList [40] i with ⟨hx,hxT⟩ | ⟨j,hx,hxT⟩
 all_goals rw [hxT]
 ·generalize ((3,i):Nat×Nat)=x at hx
  show Calls _ _ _ _ (PostTS s pb deep its w (.error x))
  have hx':Lard.expect s.data.toList (⟨#[40]⟩:ByteArray).data.toList i=.error x:=hx
  have HE:=hide he
  have HX:=hide hx'
  clear hr H he hx hx' hxT hfuel
  rcases hk with rfl | rfl
  all_goals
   go_enter Tryz.func263,Tryz.ntmps263
   go_wp2_with fail
   refine HE.out.mono ?_
   rintro e w1 ⟨f1,_,h3⟩
   have he:=h3 x HX.out
   subst he
   exact ⟨rfl,PostTS.mkErr f1⟩
 ·have hj:=Lard.expect_prog hx (by simp) (by simpa using hi)
  have hj1:=hj.1
  have hj2:j≤s.size:=by simpa using hj.2
  have h1:=H n (Nat.le_refl _) deep its j hj2 hd (by omega) (by simp [Lard.nd]; omega)
  have hx':Lard.expect s.data.toList (⟨#[40]⟩:ByteArray).data.toList i=.ok j:=hx
  have hu:=upToT_list s pb j deep its [44] hs hpb _ h1 (fun j' ts' hj'=>(PT_in rfl hj' hj2).2)
  have hpr2:=fun k us=>seqT_in (s:=s) (t:=[44]) (i:=j) (k:=k) (us:=us) (r:=Lard.PT s.data.toList n 0 deep its j []) (by simp) (fun j' ts' hj'=>PT_in rfl hj' hj2)
  show Calls _ _ _ _ (PostTS s pb deep its w (Lard.thenT (Lard.thenT (Lard.PT s.data.toList n 0 deep its j []) (Lard.expT s.data.toList [44])) fun j ts=>Lard.thenT (Lard.thenT (Lard.PT s.data.toList n 0 deep (its + 1) j []) (Lard.expT s.data.toList [41])) fun j us=>.ok (j,ts++us)))
  generalize Lard.thenT (Lard.PT s.data.toList n 0 deep its j []) (Lard.expT s.data.toList [44])=r2 at hu hpr2
  have HE:=hide he
  have HX:=hide hx'
  have HU:=hide hu
  rcases r2 with x | ⟨j3,ts2⟩
  ·show Calls _ _ _ _ (PostTS s pb deep its w (.error x))
   clear hr H he hx hx' hxT hfuel h1 hu hj hj1 hpr2
   rcases hk with rfl | rfl
   all_goals
    go_enter Tryz.func263,Tryz.ntmps263
    go_wp2_with fail
    refine HE.out.mono ?_
    rintro e w1 ⟨f1,h2,_⟩
    obtain ⟨rfl,hp1⟩:=h2 j HX.out
    clear h2 HE HX
    go_wp2_with fail
    refine (HU.out _ (g.fr f1 hpb) hp1).mono ?_
    rintro e w2 hp
    obtain ⟨f2,rfl⟩:=PostT.err hp
    exact ⟨rfl,PostTS.mkErr (Fr.trans f1 f2)⟩
  ·obtain ⟨hj3,hj4⟩:=hpr2 j3 ts2 rfl
   have h4:=H n (Nat.le_refl _) deep (its + 1) j3 hj4 hd (by omega) (by simp [Lard.nd]; omega)
   have hv:=fun w g h=>withItT_any s pb j3 deep its w g h (by omega) hpb (by omega) _ h4 (fun j' ts' hj'=>(PT_in rfl hj' hj4).2)
   show Calls _ _ _ _ (PostTS s pb deep its w (Lard.thenT (Lard.thenT (Lard.PT s.data.toList n 0 deep (its + 1) j3 []) (Lard.expT s.data.toList [41])) fun j us=>.ok (j,ts2++us)))
   generalize Lard.thenT (Lard.PT s.data.toList n 0 deep (its + 1) j3 []) (Lard.expT s.data.toList [41])=r3 at hv
   have HV:=hide hv
   clear hr H he hx hx' hxT hfuel h1 hu hj hj1 hpr2 h4 hv
   rcases hk with rfl | rfl
   all_goals
    go_enter Tryz.func263,Tryz.ntmps263
    go_wp2_with fail
    refine HE.out.mono ?_
    rintro e w1 ⟨f1,h2,_⟩
    obtain ⟨rfl,hp1⟩:=h2 j HX.out
    clear h2 HE HX
    go_wp2_with fail
    refine (HU.out _ (g.fr f1 hpb) hp1).mono ?_
    rintro e w2 hp
    obtain ⟨f2,⟨q2,t2,rfl,rfl,ht2⟩,hp2⟩:=PostT.ok hp
    have HT2:=hide ht2
    clear hp HU ht2
    go_wp2_with fail
    refine (HV.out _ ((g.fr f1 hpb).fr f2 hpb) hp2).mono ?_
    rintro e w3 hp
    rcases r3 with x | ⟨j,ts3⟩
    ·obtain ⟨f3,rfl⟩:=PostT.err hp
     exact ⟨rfl,PostTS.mkErr (Fr.trans (Fr.trans f1 f2) f3)⟩
    ·obtain ⟨f3,⟨q3,t3,rfl,rfl,ht3⟩,hp3⟩:=PostT.ok hp
     have HT3:=hide ht3
     clear hp HV ht3
     go_wp2_with fail
     go_ret
     have hz1:=f1.size
     have hz2:=f2.size
     have hz3:=f3.size
     exact PostTS.mkOk (Fr.alloc (Fr.trans (Fr.trans f1 f2) f3) _) (hp3.alloc _) (TFs.lay 2 rfl ((TL.one ((HT2.out.keeps (hp2.kp f3)).mono (by omega))).append (TL.one (HT3.out.mono (by omega)))) (by omega))
theorem partsT_if (s:ByteArray) (pb n deep its i:Nat) (hs:s.size≤200) (hpb:8≤pb) (hi:i≤s.size) (hd:deep≤20) (hits:its≤deep) (hfuel:8 * (s.size - i) + 4≤n)
  (H:∀ m,m≤n→CTT s pb m 0 89) (H3:CTT s pb n 3 212) (w:World) (g:G w) (h:PAt w s pb i deep its) :
  Calls Tryz.prog 263 #[.pointer (some ⟨pb,0,none⟩),.int .i64 9] w (PostTS s pb deep its w (partsTAt s.data.toList n deep its 9 i)):=by
 have hr:partsTAt s.data.toList n deep its 9 i=Lard.thenT (Lard.thenT (Lard.PT s.data.toList n 0 deep its i []) (Lard.expT s.data.toList [116,104,101,110])) fun j ts=>Lard.thenT (Lard.thenT (Lard.PT s.data.toList n 0 deep its j []) (Lard.expT s.data.toList [101,108,115,101])) fun j us=>Lard.thenT (Lard.PT s.data.toList n 3 deep its j []) fun j vs=>.ok (j,ts++(us++vs)):=rfl
 rw [hr]
 have h1:=H n (Nat.le_refl _) deep its i hi hd hits hfuel
 have hu:=upToT_list s pb i deep its [116,104,101,110] hs hpb _ h1 (fun j' ts' hj'=>(PT_in rfl hj' hi).2)
 have hpr:=fun k us=>seqT_in (s:=s) (t:=[116,104,101,110]) (i:=i) (k:=k) (us:=us) (r:=Lard.PT s.data.toList n 0 deep its i []) (by simp) (fun j' ts' hj'=>PT_in rfl hj' hi)
 generalize Lard.thenT (Lard.PT s.data.toList n 0 deep its i []) (Lard.expT s.data.toList [116,104,101,110])=r1 at hu hpr
 have HU:=hide hu
 rcases r1 with x | ⟨j,ts1⟩
 ·show Calls _ _ _ _ (PostTS s pb deep its w (.error x))
  clear hr H H3 h1 hu hpr hfuel
  go_enter Tryz.func263,Tryz.ntmps263
  go_wp2_with fail
  refine (HU.out _ g h).mono ?_
  rintro e w1 hp
  obtain ⟨f1,rfl⟩:=PostT.err hp
  exact ⟨rfl,PostTS.mkErr f1⟩
 ·obtain ⟨hj1,hj2⟩:=hpr j ts1 rfl
  have h2:=H n (Nat.le_refl _) deep its j hj2 hd hits (by simp [Lard.nd]; omega)
  have hv:=upToT_list s pb j deep its [101,108,115,101] hs hpb _ h2 (fun j' ts' hj'=>(PT_in rfl hj' hj2).2)
  have hpr2:=fun k us=>seqT_in (s:=s) (t:=[101,108,115,101]) (i:=j) (k:=k) (us:=us) (r:=Lard.PT s.data.toList n 0 deep its j []) (by simp) (fun j' ts' hj'=>PT_in rfl hj' hj2)
  show Calls _ _ _ _ (PostTS s pb deep its w (Lard.thenT (Lard.thenT (Lard.PT s.data.toList n 0 deep its j []) (Lard.expT s.data.toList [101,108,115,101])) fun j us=>Lard.thenT (Lard.PT s.data.toList n 3 deep its j []) fun j vs=>.ok (j,ts1++(us++vs))))
  generalize Lard.thenT (Lard.PT s.data.toList n 0 deep its j []) (Lard.expT s.data.toList [101,108,115,101])=r2 at hv hpr2
  have HV:=hide hv
  rcases r2 with x | ⟨j3,ts2⟩
  ·show Calls _ _ _ _ (PostTS s pb deep its w (.error x))
   clear hr H H3 h1 hu hpr hfuel h2 hv hpr2 hj1
   go_enter Tryz.func263,Tryz.ntmps263
   go_wp2_with fail
   refine (HU.out _ g h).mono ?_
   rintro e w1 hp
   obtain ⟨f1,⟨q1,t1,rfl,rfl,ht1⟩,hp1⟩:=PostT.ok hp
   have HT1:=hide ht1
   clear hp HU ht1
   go_wp2_with fail
   refine (HV.out _ (g.fr f1 hpb) hp1).mono ?_
   rintro e w2 hp
   obtain ⟨f2,rfl⟩:=PostT.err hp
   exact ⟨rfl,PostTS.mkErr (Fr.trans f1 f2)⟩
  ·obtain ⟨hj3,hj4⟩:=hpr2 j3 ts2 rfl
   have h4:=H3 deep its j3 hj4 hd hits (by simp [Lard.nd]; omega)
   show Calls _ _ _ _ (PostTS s pb deep its w (Lard.thenT (Lard.PT s.data.toList n 3 deep its j3 []) fun j vs=>.ok (j,ts1++(ts2++vs))))
   generalize Lard.PT s.data.toList n 3 deep its j3 []=r3 at h4
   have H4:=hide h4
   clear hr H H3 h1 hu hpr hfuel h2 hv hpr2 hj1 hj3 h4
   go_enter Tryz.func263,Tryz.ntmps263
   go_wp2_with fail
   refine (HU.out _ g h).mono ?_
   rintro e w1 hp
   obtain ⟨f1,⟨q1,t1,rfl,rfl,ht1⟩,hp1⟩:=PostT.ok hp
   have HT1:=hide ht1
   clear hp HU ht1
   go_wp2_with fail
   refine (HV.out _ (g.fr f1 hpb) hp1).mono ?_
   rintro e w2 hp
   obtain ⟨f2,⟨q2,t2,rfl,rfl,ht2⟩,hp2⟩:=PostT.ok hp
   have HT2:=hide ht2
   clear hp HV ht2
   go_wp2_with fail
   refine (H4.out _ ((g.fr f1 hpb).fr f2 hpb) hp2).mono ?_
   rintro e w3 hp
   rcases r3 with x | ⟨j,ts3⟩
   ·obtain ⟨f3,rfl⟩:=PostT.err hp
    exact ⟨rfl,PostTS.mkErr (Fr.trans (Fr.trans f1 f2) f3)⟩
   ·obtain ⟨f3,⟨q3,t3,rfl,rfl,ht3⟩,hp3⟩:=PostT.ok hp
    have HT3:=hide ht3
    clear hp H4 ht3
    go_wp2_with fail
    go_ret
    have hz1:=f1.size
    have hz2:=f2.size
    have hz3:=f3.size
    exact PostTS.mkOk (Fr.alloc (Fr.trans (Fr.trans f1 f2) f3) _) (hp3.alloc _) (TFs.lay 3 rfl ((TL.one (((HT1.out.keeps (hp1.kp f2)).keeps (hp2.kp f3)).mono (Nat.le_refl _))).append ((TL.one ((HT2.out.keeps (hp2.kp f3)).mono (by omega))).append (TL.one (HT3.out.mono (by omega))))) (by omega))
theorem partsT_none (s:ByteArray) (pb n deep its i k:Nat) (hk:k=2∨k=3∨k=4) (w:World) (h:PAt w s pb i deep its) :
  Calls Tryz.prog 263 #[.pointer (some ⟨pb,0,none⟩),.int .i64 (k:Int)] w (PostTS s pb deep its w (partsTAt s.data.toList n deep its k i)):=by
 have hr:partsTAt s.data.toList n deep its k i=.ok (i,[]):=by
  rcases hk with rfl | rfl | rfl <;> rfl
 rw [hr]
 clear hr
 rcases hk with rfl | rfl | rfl
 all_goals
  go_enter Tryz.func263,Tryz.ntmps263
  go_wp2_with fail
  go_ret
  exact PostTS.mkOk (World.grownBy.refl _ _) h (TFs.nil _ _ _)
end
section
set_option maxRecDepth 100000
set_option maxHeartbeats 2000000
open Go.RowKit
attribute [local go_sem] run_store_isV
theorem quote_lt:∀ (n:Nat) (l:List UInt8) (k:Nat),Lard.quote n l=some k→k + 1≤n
 |0,_,_,h=>by simp [Lard.quote] at h
 |n + 1,[],_,h=>by simp [Lard.quote] at h
 |n + 1,c :: r,k,h=>by
  unfold Lard.quote at h
  split at h
  ·cases h; omega
  split at h
  ·cases hq:Lard.quote n r with
   |none=>rw [hq] at h; cases h
   |some m=>rw [hq] at h; cases h; have:=quote_lt n r m hq; show m + 1 + 1≤n + 1; omega
  ·cases h
theorem tok_word {l:List UInt8} (h:(Lard.tok l).1=3):(Lard.tok l).2≤32:=by
 cases l with
 |nil=>simp [Lard.tok] at h
 |cons c r =>
  rw [Lard.tok_cons (c :: r) c r rfl] at h ⊢
  by_cases h1:Lard.isDig c=true
  ·rw [if_pos h1] at h
   split at h <;> cases h
  ·rw [if_neg h1] at h ⊢
   by_cases h2:Lard.isLet c=true
   ·rw [if_pos h2] at h
    split at h
    ·cases h
    ·split at h <;> cases h
   ·rw [if_neg h2] at h ⊢
    by_cases h3:c=39
    ·rw [if_pos h3]
     have hw:Lard.wordOf (c :: r)=Lard.quote 31 r:=by
      show (if c=39 then Lard.quote 31 r else none)=_
      rw [if_pos h3]
     rw [hw]
     cases hq:Lard.quote 31 r with
     |none=>simp [Lard.wordTok]
     |some k=>have:=quote_lt 31 r k hq; simp [Lard.wordTok]; omega
    ·rw [if_neg h3] at h
     split at h <;> cases h
theorem isOpt_isV (l:List UInt8) (w:World):IsOpt w (Lard.isOf l) (isV l):=by
 by_cases h2:(Lard.tok l).1=2
 ·have e1:Lard.isOf l=some (Lard.vn ((Lard.numOf (l.take (Lard.tok l).2)).getD 0)):=by unfold Lard.isOf; rw [h2]; rfl
  have e2:isV l=.iface 219 (.int .i64 ((Lard.numOf (l.take (Lard.tok l).2)).getD 0)):=by unfold isV; rw [h2]; rfl
  rw [e1,e2]
  refine .inr ⟨_,rfl,IsVal.leaf (.inl ⟨_,rfl,rfl,?_⟩)⟩
  cases hn:Lard.numOf (l.take (Lard.tok l).2) with
  |none=>exact ⟨by decide,by decide⟩
  |some v =>
   unfold Lard.numOf at hn
   split at hn
   ·rename_i v' hp
    split at hn
    ·cases hn
     have:=Lib.parseIntB_bounds hp
     have e:((2 ^ (64 - 1):Nat):Int)=9223372036854775808:=by decide
     rw [e] at this
     simp only [Option.getD_some]
     omega
    ·cases hn
   ·cases hn
 ·by_cases h3:(Lard.tok l).1=3
  ·have e1:Lard.isOf l=some (Lard.vw ((l.drop 1).take ((Lard.tok l).2 - 2))):=by unfold Lard.isOf; rw [h3]; rfl
   have e2:isV l=.iface 215 (.string ⟨((l.drop 1).take ((Lard.tok l).2 - 2)).toArray⟩):=by unfold isV; rw [h3]; rfl
   rw [e1,e2]
   refine .inr ⟨_,rfl,IsVal.leaf (.inr ⟨_,rfl,rfl,?_⟩)⟩
   have:=tok_word h3
   show (List.toArray _).size≤30
   simp only [List.size_toArray,List.length_take]
   omega
  ·have e1:Lard.isOf l=none:=by
    unfold Lard.isOf
    split
    ·rename_i h; exact (h2 h).elim
    ·rename_i h; exact (h3 h).elim
    ·rfl
   have e2:isV l=.nilIface:=by
    unfold isV
    split
    ·rename_i h; exact (h2 h).elim
    ·rename_i h; exact (h3 h).elim
    ·rfl
   rw [e1,e2]
   exact .inl ⟨rfl,rfl⟩
theorem tx_bytes (s:ByteArray) (i:Nat):s.extract i (i + (Lard.tok (s.data.toList.drop i)).2)=⟨(Lard.tx s.data.toList i).toArray⟩:=by
 have h:=tx_extract_data s i
 generalize s.extract i (i + (Lard.tok (s.data.toList.drop i)).2)=x at h
 rw [←h]
theorem termByteT_any (t:ByteArray) (w:World) :
  Calls Tryz.prog 262 #[.string t] w fun e w'=>e=.returned (.int .u8 (Lard.byteOf t.toList:Int))∧w=w':=by
 go_enter Tryz.func262,Tryz.ntmps262
 go_wp2_with fail
 all_goals first
  |(exfalso; simp_all; done)
  |(go_ret; refine ⟨?_,rfl⟩; simp_all [Lard.byteOf]; done)
theorem set_far {lo b:Nat} {w:World} {ts:List Lard.T} {sl:Value} (h:TFs lo none w ts sl) (hb:b < lo) (o:Nat) (v:Value):TFs lo none (w.setCell ⟨b,o,none⟩ v) ts sl :=
 h.move (fun k hk _ cs t fz hc _=>(Below.heap_setCell w ⟨b,o,none⟩ v k (by show k≠b; omega)).trans hc) (fun k e=>by cases e)
theorem tx_len {s:ByteArray} (i:Nat) (hs:s.size≤200):(Lard.tx s.data.toList i).length≤200:=by
 unfold Lard.tx
 rw [List.length_take,List.length_drop]
 have:s.data.toList.length=s.size:=by simp
 omega
theorem node_tree {w w2 w3:World} {pb:Nat} {A:Obj} {kind op:Nat} {name:List UInt8} {is:Option Lard.V} {ts:List Lard.T} {i a4 sl x:Value}
  (f3:((w2.alloc A).alloc (.cells #[.int .i64 (kind:Int),.int .u8 (op:Int),.string ⟨name.toArray⟩,i,a4] 263)).grownBy w3 (some pb)) (hlt:pb < w2.heap.size) (hw:w.heap.size≤w2.heap.size) (hi:∀ w,IsOpt w is i) (hname:name.length≤200)
  (ht:TFs ((w2.alloc A).alloc (.cells #[.int .i64 (kind:Int),.int .u8 (op:Int),.string ⟨name.toArray⟩,i,a4] 263)).heap.size none w3 ts sl) :
  TF w.heap.size none ((w3.setCell ⟨w2.heap.size + 1,4,none⟩ sl).setCell ⟨pb,5,none⟩ x) ⟨kind,op,name,is,ts⟩ ⟨w2.heap.size + 1,0,none⟩:=by
 have hb:=f3.block (w2.heap.size + 1) (by simp) (fun e=>by injection e; omega)
 have hn:((w2.alloc A).alloc (.cells #[.int .i64 (kind:Int),.int .u8 (op:Int),.string ⟨name.toArray⟩,i,a4] 263)).heap[w2.heap.size + 1]? = some (.cells #[.int .i64 (kind:Int),.int .u8 (op:Int),.string ⟨name.toArray⟩,i,a4] 263):=by
  have:=heap_alloc_new (w2.alloc A) (.cells #[.int .i64 (kind:Int),.int .u8 (op:Int),.string ⟨name.toArray⟩,i,a4] 263)
  simpa using this
 rw [hn] at hb
 have hb4:=blk_set hb 4 sl
 have hlo:((w2.alloc A).alloc (.cells #[.int .i64 (kind:Int),.int .u8 (op:Int),.string ⟨name.toArray⟩,i,a4] 263)).heap.size=w2.heap.size + 2:=by simp
 rw [hlo] at ht
 refine TF.node (fz:=(0,0)) (i:=i) (s:=sl) ((Below.heap_setCell _ ⟨pb,5,none⟩ x (w2.heap.size + 1) (by show w2.heap.size + 1≠pb; omega)).trans hb4) (by omega) (fun e=>by cases e) hi hname ?_
 exact (set_far (set_far ht (by omega) 4 sl) (by omega) 5 x).mono (by omega)
theorem partsT_any (s:ByteArray) (pb n deep its i k:Nat) (hk:2≤k∧k≤16) (hs:s.size≤200) (hpb:8≤pb) (hi:i≤s.size) (hd:deep≤20) (hits:its + 1≤deep) (hfuel:8 * (s.size - i) + 4≤n)
  (H:∀ m,m≤n→CTT s pb m 0 89) (H3:CTT s pb n 3 212) (w:World) (g:G w) (h:PAt w s pb i deep its) :
  Calls Tryz.prog 263 #[.pointer (some ⟨pb,0,none⟩),.int .i64 (k:Int)] w (PostTS s pb deep its w (partsTAt s.data.toList n deep its k i)):=by
 have hits':its≤deep:=by omega
 by_cases k1:k=2∨k=3∨k=4
 ·exact partsT_none s pb n deep its i k k1 w h
 by_cases k5:k=5
 ·subst k5; exact partsT_minus s pb n deep its i hi hd hits' hfuel H3 w g h
 by_cases k6:k=6
 ·subst k6; exact partsT_group s pb n deep its i hs hpb hi hd hits' hfuel H w g h
 by_cases k7:k=7
 ·subst k7; exact partsT_key s pb n deep its i hs hpb hi hd hits' hfuel H w g h
 by_cases k8:k=8
 ·subst k8; exact partsT_list s pb n deep its i hs hpb hi hd hits' hfuel H w g h
 by_cases k9:k=9
 ·subst k9; exact partsT_if s pb n deep its i hs hpb hi hd hits' hfuel H H3 w g h
 by_cases k10:k=10∨k=11∨k=12
 ·exact partsT_one s pb n deep its i k k10 hs hpb hi hd hits' hfuel H w g h
 by_cases k13:k=13∨k=14
 ·exact partsT_both s pb n deep its i k k13 hs hpb hi hd hits' hfuel H w g h
 ·exact partsT_each s pb n deep its i k (by omega) hs hpb hi hd hits hfuel H w g h
theorem factorT_none (s:ByteArray) (pb deep its i:Nat) (hk:Lard.kind s.data.toList i its=0):ConT s 212 pb deep its i (.error (3,i)):=by
 intro w g h
 have hkk:=kindHere_any s pb i deep its w h
 rw [hk] at hkk
 have HK:=hide hkk
 clear hkk hk
 go_enter Tryz.func212,Tryz.ntmps212
 go_wp2_with fail
 refine HK.out.mono ?_
 rintro e w' ⟨rfl,rfl⟩
 go_wp2_with fail
 refine (refuse_any s pb i deep its 3 _ h).mono ?_
 rintro e w' ⟨rfl,rfl⟩
 exact ⟨rfl,PostT.mkErr (x:=(3,i)) (World.grownBy.refl _ _)⟩
theorem factorT_deep (s:ByteArray) (pb its i:Nat) (hk:Lard.kind s.data.toList i its≠0):ConT s 212 pb 20 its i (.error (4,i)):=by
 intro w g h
 have hkk:=kindHere_any s pb i 20 its w h
 generalize Lard.kind s.data.toList i its=k at hkk hk
 have hk':((k:Int) == 0)=false:=by rw [beq_eq_false_iff_ne]; omega
 obtain ⟨c0,c1,c2,c3,c4,c5,c6,cf⟩:=h.cells
 have HK:=hide hkk
 clear hkk hk
 go_enter Tryz.func212,Tryz.ntmps212
 go_wp2_with fail
 refine HK.out.mono ?_
 rintro e w' ⟨rfl,rfl⟩
 go_wp2_with fail
 refine (refuse_any s pb i 20 its 4 _ h).mono ?_
 rintro e w' ⟨rfl,rfl⟩
 exact ⟨rfl,PostT.mkErr (x:=(4,i)) (World.grownBy.refl _ _)⟩
theorem factorT_in (s:ByteArray) (pb deep its i k:Nat) (hs:s.size≤200) (hpb:8≤pb) (hi:i≤s.size) (hd:deep≤19) (hkr:2≤k∧k≤16) (hk:Lard.kind s.data.toList i its=k)
  (r:Lard.RT) (HP:∀ w,G w→PAt w s pb (Lard.nxt s.data.toList i) (deep + 1) its→Calls Tryz.prog 263 #[.pointer (some ⟨pb,0,none⟩),.int .i64 (k:Int)] w (PostTS s pb (deep + 1) its w r)):ConT s 212 pb deep its i (Lard.thenT r fun j ts=>.ok (j,[Lard.nodeT s.data.toList k i ts])):=by
 intro w g h
 have hkk:=kindHere_any s pb i deep its w h
 rw [hk] at hkk
 have hk':((k:Int) == 0)=false:=by rw [beq_eq_false_iff_ne]; omega
 have hd':((deep:Int) == 20)=false:=by rw [beq_eq_false_iff_ne]; omega
 obtain ⟨c0,c1,c2,c3,c4,c5,c6,cf⟩:=h.cells
 have hp1:=h.deep (deep + 1)
 have hf1:w.grownBy (w.setCell ⟨pb,5,none⟩ (.int .i64 ((deep + 1:Nat):Int))) (some pb):=Fr.set (World.grownBy.refl _ _) _ _
 have ht:=take_any s pb i (deep + 1) its _ (g.fr hf1 hpb) hp1 (by omega) hi
 have ht':Calls Tryz.prog 175 #[.pointer (some ⟨pb,0,none⟩)] (w.setCell ⟨pb,5,none⟩ (.int .i64 ((deep:Int) + 1))) fun e w'=>e=.returned (tokV s i)∧PAt w' s pb (Lard.nxt s.data.toList i) (deep + 1) its∧(w.setCell ⟨pb,5,none⟩ (.int .i64 ((deep:Int) + 1))).grownBy w' (some pb):=ht
 have hlt:=h.lt
 have HK:=hide hkk
 have HT:=hide ht'
 have HPP:=hide HP
 have HF1:=hide hf1
 clear hkk hk ht ht' hp1 hf1 HP
 have hform:=isV_form (s.data.toList.drop i)
 have HOPT:=hide (isOpt_isV (s.data.toList.drop i))
 have hname:=tx_bytes s i
 by_cases k3:k=3
 ·subst k3
  go_enter Tryz.func212,Tryz.ntmps212
  go_wp2_with fail
  refine HK.out.mono ?_
  rintro e w' ⟨rfl,rfl⟩
  go_wp2_with fail
  refine HT.out.mono ?_
  rintro e w2 ⟨rfl,h2,f2⟩
  have f02:=Fr.trans HF1.out f2
  have hlt2:=h2.lt
  unfold tokV
  rw [hname]
  clear hname
  clear c0 c1 c2 c3 c4 c5 c6 cf HK HT HF1 f2
  generalize isV (s.data.toList.drop i)=v at hform HOPT
  rcases hform with rfl | ⟨t,x,rfl⟩
  all_goals
   go_wp2_with fail
   refine (HPP.out _ (g.fr (Fr.alloc (Fr.alloc f02 _) _) hpb) ((h2.alloc _).alloc _)).mono ?_
   rintro e w3 hp
  all_goals rcases r with y | ⟨j,ts⟩
  all_goals try
   obtain ⟨f3,rfl⟩:=PostTS.err hp
   exact ⟨rfl,PostT.mkErr (Fr.trans (Fr.alloc (Fr.alloc f02 _) _) f3)⟩
  all_goals
   obtain ⟨f3,⟨a,nn,c,rfl,ht3⟩,h3⟩:=PostTS.ok hp
   obtain ⟨e4,ef⟩:=node_cell f3 hlt2
   obtain ⟨d0,d1,d2,d3,d4,d5,d6,df⟩:=h3.cells
   have f03:=Fr.trans (Fr.alloc (Fr.alloc f02 _) _) f3
   have HN:=hide (node_tree (w:=w) (x:=.int .i64 (deep:Int)) (kind:=3) (op:=0) (name:=Lard.tx s.data.toList i) f3 hlt2 f02.size HOPT.out (tx_len i hs) ht3)
   clear hp HPP d0 d1 d2 d3 d4 d6 f3 ht3
   go_wp2_with fail
   go_ret
   refine PostT.mkOk (Fr.set (Fr.new f03 (by have:=f02.size; omega) _ _) _ _) ((h3.other (by omega) _ _).deep deep) ?_
   exact HN.out
 by_cases k13:k=13
 ·subst k13
  go_enter Tryz.func212,Tryz.ntmps212
  go_wp2_with fail
  refine HK.out.mono ?_
  rintro e w' ⟨rfl,rfl⟩
  go_wp2_with fail
  refine HT.out.mono ?_
  rintro e w2 ⟨rfl,h2,f2⟩
  have f02:=Fr.trans HF1.out f2
  have hlt2:=h2.lt
  unfold tokV
  rw [hname]
  clear hname
  clear c0 c1 c2 c3 c4 c5 c6 cf HK HT HF1 f2
  generalize isV (s.data.toList.drop i)=v at hform HOPT
  rcases hform with rfl | ⟨t,x,rfl⟩
  all_goals
   go_wp2_with (go_at_call 262; refine (termByteT_any _ _).mono ?_; rintro e w' ⟨rfl,rfl⟩)
   refine (HPP.out _ (g.fr (Fr.alloc (Fr.alloc f02 _) _) hpb) ((h2.alloc _).alloc _)).mono ?_
   rintro e w3 hp
  all_goals rcases r with y | ⟨j,ts⟩
  all_goals try
   obtain ⟨f3,rfl⟩:=PostTS.err hp
   exact ⟨rfl,PostT.mkErr (Fr.trans (Fr.alloc (Fr.alloc f02 _) _) f3)⟩
  all_goals
   obtain ⟨f3,⟨a,nn,c,rfl,ht3⟩,h3⟩:=PostTS.ok hp
   obtain ⟨e4,ef⟩:=node_cell f3 hlt2
   obtain ⟨d0,d1,d2,d3,d4,d5,d6,df⟩:=h3.cells
   have f03:=Fr.trans (Fr.alloc (Fr.alloc f02 _) _) f3
   have HN:=hide (node_tree (w:=w) (x:=.int .i64 (deep:Int)) (kind:=13) (op:=Lard.byteOf (Lard.tx s.data.toList i)) (name:=[]) f3 hlt2 f02.size HOPT.out (Nat.zero_le _) ht3)
   clear hp HPP d0 d1 d2 d3 d4 d6 f3 ht3
   go_wp2_with fail
   go_ret
   refine PostT.mkOk (Fr.set (Fr.new f03 (by have:=f02.size; omega) _ _) _ _) ((h3.other (by omega) _ _).deep deep) ?_
   exact HN.out
 ·have e3:((k:Int) == 3)=false:=by rw [beq_eq_false_iff_ne]; omega
  have e13:((k:Int) == 13)=false:=by rw [beq_eq_false_iff_ne]; omega
  have hnode:∀ ts,Lard.nodeT s.data.toList k i ts=⟨k,0,[],Lard.isOf (s.data.toList.drop i),ts⟩:=fun ts=>by
   simp [Lard.nodeT,k3,k13]
  simp only [hnode]
  clear k3 k13 hnode
  go_enter Tryz.func212,Tryz.ntmps212
  go_wp2_with fail
  refine HK.out.mono ?_
  rintro e w' ⟨rfl,rfl⟩
  go_wp2_with fail
  refine HT.out.mono ?_
  rintro e w2 ⟨rfl,h2,f2⟩
  have f02:=Fr.trans HF1.out f2
  have hlt2:=h2.lt
  unfold tokV
  rw [hname]
  clear hname
  clear c0 c1 c2 c3 c4 c5 c6 cf HK HT HF1 f2
  generalize isV (s.data.toList.drop i)=v at hform HOPT
  rcases hform with rfl | ⟨t,x,rfl⟩
  all_goals
   go_wp2_with fail
   refine (HPP.out _ (g.fr (Fr.alloc (Fr.alloc f02 _) _) hpb) ((h2.alloc _).alloc _)).mono ?_
   rintro e w3 hp
  all_goals rcases r with y | ⟨j,ts⟩
  all_goals try
   obtain ⟨f3,rfl⟩:=PostTS.err hp
   exact ⟨rfl,PostT.mkErr (Fr.trans (Fr.alloc (Fr.alloc f02 _) _) f3)⟩
  all_goals
   obtain ⟨f3,⟨a,nn,c,rfl,ht3⟩,h3⟩:=PostTS.ok hp
   obtain ⟨e4,ef⟩:=node_cell f3 hlt2
   obtain ⟨d0,d1,d2,d3,d4,d5,d6,df⟩:=h3.cells
   have f03:=Fr.trans (Fr.alloc (Fr.alloc f02 _) _) f3
   have HN:=hide (node_tree (w:=w) (x:=.int .i64 (deep:Int)) (kind:=k) (op:=0) (name:=[]) f3 hlt2 f02.size HOPT.out (Nat.zero_le _) ht3)
   clear hp HPP d0 d1 d2 d3 d4 d6 f3 ht3
   go_wp2_with fail
   go_ret
   refine PostT.mkOk (Fr.set (Fr.new f03 (by have:=f02.size; omega) _ _) _ _) ((h3.other (by omega) _ _).deep deep) ?_
   exact HN.out
theorem factorT_step (s:ByteArray) (pb n:Nat) (hs:s.size≤200) (hpb:8≤pb) (H:∀ m,m≤n→CTT s pb m 0 89) (H3:CTT s pb n 3 212):CTT s pb (n + 1) 3 212:=by
 intro deep its i hi hd hits hfuel
 have hr:Lard.PT s.data.toList (n + 1) 3 deep its i []=if Lard.kind s.data.toList i its=0 then .error (3,i) else if deep=20 then .error (4,i) else Lard.thenT (partsTAt s.data.toList n (deep + 1) its (Lard.kind s.data.toList i its) (Lard.nxt s.data.toList i)) fun j ts=>.ok (j,[Lard.nodeT s.data.toList (Lard.kind s.data.toList i its) i ts]):=rfl
 rw [hr]
 by_cases hk:Lard.kind s.data.toList i its=0
 ·rw [if_pos hk]; exact factorT_none s pb deep its i hk
 ·rw [if_neg hk]
  by_cases hd20:deep=20
  ·rw [if_pos hd20]; subst hd20; exact factorT_deep s pb its i hk
  ·rw [if_neg hd20]
   have hkr:2≤Lard.kind s.data.toList i its∧Lard.kind s.data.toList i its≤16:=(kind_range s.data.toList i its).resolve_left hk
   have hn1:=Lard.nxt_gt (Lard.kind_pos hk)
   have hn2:Lard.nxt s.data.toList i≤s.size:=by have:=Lard.nxt_le s.data.toList i (by simpa using hi); simpa using this
   have hf:8 * (s.size - Lard.nxt s.data.toList i) + 4≤n:=by simp [Lard.nd] at hfuel; omega
   exact factorT_in s pb deep its i _ hs hpb hi (by omega) hkr rfl _ (fun w g h=>partsT_any s pb n (deep + 1) its _ _ hkr hs hpb hn2 (by omega) (by omega) hf H H3 w g h)
end
section
set_option maxRecDepth 100000
set_option maxHeartbeats 1000000
open Go.RowKit
theorem parse_idle (p0 p1 p2:Addr) (w:World) :
  CallsD Tryz.prog 87 #[.pointer (some p0),.pointer (some p1),.pointer (some p2)] .returning w fun e u' w'=>e=.returned (.tuple #[])∧u'=.returning∧w'=w:=by
 refine callsD_of_wpS Tryz.func87 rfl fun c₀ cs hu=>?_
 apply wpS_seq
 apply wpS_region
 simp [wpOpsS,go_sem,recoverD,hu,Tryz.ntmps87,Exit.thenS]
 refine wpS_of_wp ?_
 have ht:(#[Value.pointer (some p0),Value.pointer (some p1),Value.pointer (some p2)]++((Array.replicate 15 undef).setIfInBounds 4 Value.nilIface).setIfInBounds 0 Value.nilIface)=#[Value.pointer (some p0),Value.pointer (some p1),Value.pointer (some p2),Value.nilIface,undef,undef,undef,Value.nilIface,undef,undef,undef,undef,undef,undef,undef,undef,undef,undef]:=rfl
 rw [ht]
 clear ht
 go_wp2_with fail
 cases c₀
 simp_all [bodyPostS,results,Tryz.results87]
theorem parse_catch (b:Nat) (c i:Nat) (w:World) (q0:Value) (hq:∃ q,q0=.pointer q) (v1 v2:Int) (hb:b + 1 + 1 < w.heap.size)
  (c0:w.cell? ⟨b,0,none⟩=some q0) (c1:w.cell? ⟨b + 1,0,none⟩=some (.int .i64 v1)) (c2:w.cell? ⟨b + 1 + 1,0,none⟩=some (.int .i64 v2))
  (z0:w.frozen? ⟨b,0,none⟩=false) (z1:w.frozen? ⟨b + 1,0,none⟩=false) (z2:w.frozen? ⟨b + 1 + 1,0,none⟩=false) :
  CallsD Tryz.prog 87 #[.pointer (some ⟨b,0,none⟩),.pointer (some ⟨b + 1,0,none⟩),.pointer (some ⟨b + 1 + 1,0,none⟩)] (.panicking [{ v:=.iface 179 (.agg #[.int .i64 (c:Int),.int .i64 (i:Int)]),recovered:=false }]) w fun e u' w' =>
   e=.returned (.tuple #[])∧u'=.panicking [{ v:=.iface 179 (.agg #[.int .i64 (c:Int),.int .i64 (i:Int)]),recovered:=true }]∧w'.cell? ⟨b,0,none⟩=some (.pointer none)∧w'.cell? ⟨b + 1,0,none⟩=some (.int .i64 (c:Int))∧w'.cell? ⟨b + 1 + 1,0,none⟩=some (.int .i64 (i:Int))∧Below b w w':=by
 obtain ⟨q,rfl⟩:=hq
 have hb0:b < w.heap.size:=by omega
 have hb1:b + 1 < w.heap.size:=by omega
 have hta:∀ (a:Value) (w:World),(Instr.typeAssert (.iface 179 a) 20 179 true).run Tryz.prog w=.ok (.tuple #[a,.bool true]) w:=fun _ _=>by kernel_rfl
 refine callsD_of_wpS Tryz.func87 rfl fun c₀ cs hu=>?_
 apply wpS_seq
 apply wpS_region
 simp [wpOpsS,go_sem,recoverD,hu,Tryz.ntmps87,Exit.thenS]
 refine wpS_of_wp ?_
 generalize hv:Value.iface 179 (.agg #[.int .i64 (c:Int),.int .i64 (i:Int)])=vv
 have ht:(#[Value.pointer (some ⟨b,0,none⟩),Value.pointer (some ⟨b + 1,0,none⟩),Value.pointer (some ⟨b + 1 + 1,0,none⟩)]++((Array.replicate 15 undef).setIfInBounds 4 vv).setIfInBounds 0 vv)=#[Value.pointer (some ⟨b,0,none⟩),Value.pointer (some ⟨b + 1,0,none⟩),Value.pointer (some ⟨b + 1 + 1,0,none⟩),vv,undef,undef,undef,vv,undef,undef,undef,undef,undef,undef,undef,undef,undef,undef]:=rfl
 rw [ht]
 clear ht
 subst hv
 go_wp2_with fail
 go_region
 refine ⟨rfl,_,rfl,.tuple #[],by simp [results,Tryz.results87],rfl,rfl,?_,?_,?_,?_⟩
 ·simp [go_sem,hb0,c0]
 ·simp [go_sem,hb1,c1]
 ·simp [go_sem,hb,c2]
 ·exact ((((((Below.refl b w).setCell (p:=⟨b,0,none⟩) (Nat.le_refl _) _).setCell (p:=⟨b + 1,0,none⟩) (Nat.le_add_right _ _) _).setCell (p:=⟨b + 1 + 1,0,none⟩) (by show b≤b + 1 + 1; omega) _).alloc (by simp [World.setCell]; omega) _).drew)
end
section
set_option maxRecDepth 100000
set_option maxHeartbeats 1000000
open Go.RowKit
def PostP (w:World) (c i:Nat) (e:Ending) (w':World):Prop :=
 (∃ q,e=.returned (.tuple #[.pointer q,.int .i64 (c:Int),.int .i64 (i:Int)]))∧Below w.heap.size w w'
theorem parse_long (s:ByteArray) (w:World) (hs:200 < s.size) (hmax:s.size≤9223372036854775807):Calls Tryz.prog 54 #[.string s] w (PostP w 2 0):=by
 go_enter_defers Tryz.func54,Tryz.ntmps54
 go_wp2_with fail
 refine ⟨.tuple #[.pointer none,.int .i64 2,.int .i64 0],by simp [results,Tryz.results54,go_sem],⟨none,rfl⟩,?_⟩
 exact (((Below.refl _ _).alloc (Nat.le_refl _) _).alloc (by simp) _).alloc (by simp; omega) _
end
end Go.Proofs.YtpekpdimdelncaaGreatDoor
