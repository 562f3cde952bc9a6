/- Out of: U7, U7b, U8, U9. -/
import Derived.Test.YtpekpdimdelncaaGreatDoorP10
import Derived.Deep.RegionWith
import Derived.Deep.AppendLies
import Derived.Lib.AppendZeros
namespace Go.Proofs.YtpekpdimdelncaaGreatDoor
section
set_option maxRecDepth 100000
set_option maxHeartbeats 4000000
open Go.RowKit Go.Shelf
theorem make_any (op:Nat) (hop:op=43∨op=45∨op=42∨op=47∨op=60∨op=61∨op=109∨op=120∨op=64) {v u:Lard.V} {x y:Value} (w:World) (hx:IsVal w 3 v x) (hy:IsVal w 3 u y) :
  Calls Tryz.prog 281 #[.int .u8 (op:Int),x,y] w (PV w (Lard.make op v u)):=by
 rcases hop with rfl | rfl | rfl | rfl | rfl | rfl | rfl | rfl | rfl
 ·exact make_plus w hx hy
 ·exact make_minus w hx hy
 ·exact make_times w hx hy
 ·exact make_over w hx hy
 ·exact make_less w hx hy
 ·exact make_same w hx hy
 ·exact make_least w hx hy
 ·exact make_most w hx hy
 ·exact make_at w hx hy
theorem workFirst_operator (E:Env) (ok:EnvOK E) (n:Nat) (ih:WorkSays E n) (t:Lard.T) (it:Option Lard.V) (x xi:Value) (F:Nat→Prop) (st:Nat×E.σ) (w:World) (hk:t.kind=1) (hlen:t.parts.length=2) (h0:∀ j,j < t.parts.length→Lard.okT n it.isSome (t.part j)=true) (hop:t.op=43∨t.op=45∨t.op=42∨t.op=47∨t.op=60∨t.op=61∨t.op=109∨t.op=120∨t.op=64) (hx:IsTree w (n + 1) t x) (hi:IsOpt w it xi) (h:St E F st w) :
  Calls Tryz.prog 251 #[.pointer (some ⟨E.rb,0,none⟩),x,xi] w (PW (Ψ E F w (Lard.firstE E.N (fun u s=>Lard.ev E.N n u it s) t st))):=by
 obtain ⟨b,i,o,m,c,rfl,nd⟩:=hx.node
 obtain ⟨b0,q0,rfl,d0,ht0⟩:=nd.part 0 (by omega)
 have hcall:=ih (t.part 0) it _ xi F st w (h0 0 (by omega)) ht0 hi h
 have hm:=nd.len
 have hfirst:Lard.firstE E.N (fun u s=>Lard.ev E.N n u it s) t st=Lard.thenR (Lard.ev E.N n (t.part 0) it st) fun v s=>Lard.thenR (Lard.ev E.N n (t.part 1) it s) fun u s=>(Lard.make t.op v u,s):=by
  unfold Lard.firstE; rw [hk]; rfl
 rw [hfirst]
 obtain ⟨c0,_,_,_,c4⟩:=nd.cells w (Keeps.refl w)
 have e0:=d0 w (Keeps.refl w)
 have hq1:(0:Int) < (m:Int):=by omega
 have hform:=hi.form
 rw [hk] at c0
 have ND:=hide nd
 have HC:=hide hcall
 have IH:=hide ih
 have HI:=hide hi
 clear hcall hfirst nd d0 ht0 hx ih hi
 generalize Lard.ev E.N n (t.part 0) it st=q at HC ⊢
 obtain ⟨r,st1⟩:=q
 generalize hrb:E.rb=rb at HC
 have HRB:=hide hrb
 clear hrb
 cases r with
 |error e1 =>
  rcases hform with rfl | ⟨tx,ax,rfl⟩
  all_goals
   go_enter Tryz.func251,Tryz.ntmps251
   go_wp2_with fail
   refine HC.out.mono ?_
   rintro e w1 ⟨r,⟨hr,hst⟩,⟨v,y,hr2,rfl,hv⟩ | ⟨c1,hr2,rfl,hc⟩⟩
   ·rw [hr] at hr2; cases hr2
   ·rw [hr] at hr2; cases hr2
    exact ⟨rfl,.error e1,⟨rfl,hst⟩,.inr ⟨e1,rfl,rfl,hc⟩⟩
 |ok v1 =>
  show Calls _ _ _ _ (PW (Ψ E F w (Lard.thenR (Lard.ev E.N n (t.part 1) it st1) fun u s=>(Lard.make t.op v1 u,s))))
  generalize hq2:Lard.ev E.N n (t.part 1) it st1=q2
  obtain ⟨r2,st2⟩:=q2
  have HQ2:=hide hq2
  clear hq2
  cases r2 with
  |error e2 =>
   show Calls _ _ _ _ (PW (Ψ E F w (.error e2,st2)))
   go_enter Tryz.func251,Tryz.ntmps251
   go_wp2_with fail
   refine HC.out.mono ?_
   rintro e w1 ⟨r,⟨hr,F1,hst,hF,hfm⟩,⟨v,y,hr2,rfl,hv⟩ | ⟨c1,hr2,rfl,hc⟩⟩
   ·rw [hr] at hr2; cases hr2
    obtain ⟨k0,k1,_,_,k4⟩:=ND.out.cells w1 hfm.keeps
    rw [hk] at k0
    obtain ⟨t1,a1,rfl⟩:=hv.one
    have HV:=hide hv
    clear HC hv hr
    obtain ⟨bj,qj,ebj,dj,htj⟩:=ND.out.part 1 (by omega)
    cases ebj
    have ej:=dj w1 hfm.keeps
    have hBd:Below w1.heap.size w1 w1.drew:=(Below.refl _ w1).drew
    have hstd:=hst.below ok hBd
    have hfmd:Fm E.base w w1.drew:=hfm.trans (Fm.below hBd (Nat.le_trans ok.baser (Nat.le_of_lt hst.lt)))
    have hFd:∀ k,F1 k→F k∨w.heap.size≤k:=hF
    have hw:=IH.out (t.part 1) it _ _ F1 st1 w1.drew (h0 1 (by omega)) (htj.keeps hfmd.keeps) (HI.out.keeps hfmd.keeps) hstd
    rw [HRB.out,HQ2.out] at hw
    have hqj:(1:Int) < (m:Int):=by omega
    have HW:=hide (hw.mono (R':=fun e w3=>e=broken e2∧PW (Ψ E F w (.error e2,st2)) (broken e2) w3) (fun e w3 hp=>by
     have hfin:=PW.after hFd hfmd hp
     obtain ⟨r3,⟨hr3,_⟩,⟨v3,y3,h3,_⟩ | ⟨c3,h3,rfl,_⟩⟩:=hp
     ·rw [hr3] at h3; cases h3
     ·rw [hr3] at h3; cases h3
      exact ⟨rfl,hfin⟩))
    clear hw dj htj IH ND HI h0 hstd hfmd hFd
    go_wp2_with fail
    go_region_with (go_at_call 203; refine HW.out.mono ?_; rintro e w3 ⟨rfl,hfin⟩; refine dies (md:=.text) (a:=⟨#[],[]⟩) (w:=w) ⟨rfl,hfin⟩ ?_)
    all_goals trivial
   ·rw [hr] at hr2; cases hr2
  |ok u2 =>
   show Calls _ _ _ _ (PW (Ψ E F w (Lard.make t.op v1 u2,st2)))
   generalize hres:Lard.make t.op v1 u2=res
   have HRES:=hide hres
   clear hres
   cases res with
   |error c2 =>
    go_enter Tryz.func251,Tryz.ntmps251
    go_wp2_with fail
    refine HC.out.mono ?_
    rintro e w1 ⟨r,⟨hr,F1,hst,hF,hfm⟩,⟨v,y,hr2,rfl,hv⟩ | ⟨c1,hr2,rfl,hc⟩⟩
    ·rw [hr] at hr2; cases hr2
     obtain ⟨k0,k1,_,_,k4⟩:=ND.out.cells w1 hfm.keeps
     rw [hk] at k0
     obtain ⟨t1,a1,rfl⟩:=hv.one
     have HV:=hide hv
     clear HC hv hr
     obtain ⟨bj,qj,ebj,dj,htj⟩:=ND.out.part 1 (by omega)
     cases ebj
     have ej:=dj w1 hfm.keeps
     have hBd:Below w1.heap.size w1 w1.drew:=(Below.refl _ w1).drew
     have hstd:=hst.below ok hBd
     have hfmd:Fm E.base w w1.drew:=hfm.trans (Fm.below hBd (Nat.le_trans ok.baser (Nat.le_of_lt hst.lt)))
     have hFd:∀ k,F1 k→F k∨w.heap.size≤k:=hF
     have hw:=IH.out (t.part 1) it _ _ F1 st1 w1.drew (h0 1 (by omega)) (htj.keeps hfmd.keeps) (HI.out.keeps hfmd.keeps) hstd
     rw [HRB.out,HQ2.out] at hw
     have hqj:(1:Int) < (m:Int):=by omega
     have HW:=hide (hw.mono (R':=fun e w3=>∃ t2 a2,e=.returned (.iface t2 a2)∧w3.cell? ⟨b,1,none⟩=some (.int .u8 (t.op:Int))∧Hid (Calls Tryz.prog 281 #[.int .u8 (t.op:Int),.iface t1 a1,.iface t2 a2] w3 fun e w4=>(∀ c,(Except.error c2:Except Nat Lard.V)=.error c→e=broken c)∧(∀ vv,(Except.error c2:Except Nat Lard.V)=.ok vv→∃ t4 a4,e=.returned (.iface t4 a4))∧PW (Ψ E F w (.error c2,st2)) e w4)) (fun e w3 hp=>by
      obtain ⟨r3,⟨hr3,F3,hst3,hF3,hfm3⟩,⟨v3,y3,h3,rfl,hv3⟩ | ⟨c3,h3,rfl,_⟩⟩:=hp
      ·rw [hr3] at h3; cases h3
       obtain ⟨t2,a2,rfl⟩:=hv3.one
       have hfm4:=hfmd.trans hfm3
       refine ⟨t2,a2,rfl,(ND.out.cells w3 hfm4.keeps).2.1,?_⟩
       have hmk:=make_any t.op hop w3 (HV.out.keeps ((Fm.below hBd (Nat.le_trans ok.baser (Nat.le_of_lt hst.lt)):Fm E.base w1 w1.drew).trans hfm3).keeps) hv3
       rw [HRES.out] at hmk
       exact hmk.mono fun e w4 hpv=>⟨hpv.2.2,fun vv hvv=>by obtain ⟨y,rfl,hy⟩:=hpv.2.1 vv hvv; obtain ⟨t4,a4,rfl⟩:=hy.one; exact ⟨t4,a4,rfl⟩,PW.of_pv ok hst3 (fun k hk=>by
        rcases hF3 k hk with h' | h'
        ·exact hFd k h'
        ·exact .inr (Nat.le_trans hfmd.size h')) hfm4 hpv (fun c hc=>make_err (HRES.out.trans hc))⟩
      ·rw [hr3] at h3; cases h3))
     clear hw dj htj IH ND HI h0 hstd hfmd hFd
     go_wp2_with fail
     go_region_with (first | (go_at_call 203; refine HW.out.mono ?_; clear HW; rintro e w3 ⟨t2,a2,rfl,k1',HM⟩) | (go_at_call 281; refine HM.out.mono ?_; rintro e w4 ⟨he,_,hfin⟩; obtain rfl:=he _ rfl; refine dies (md:=.text) (a:=⟨#[],[]⟩) (w:=w) ⟨rfl,hfin⟩ ?_))
     all_goals trivial
    ·rw [hr] at hr2; cases hr2
   |ok v2 =>
    go_enter Tryz.func251,Tryz.ntmps251
    go_wp2_with fail
    refine HC.out.mono ?_
    rintro e w1 ⟨r,⟨hr,F1,hst,hF,hfm⟩,⟨v,y,hr2,rfl,hv⟩ | ⟨c1,hr2,rfl,hc⟩⟩
    ·rw [hr] at hr2; cases hr2
     obtain ⟨k0,k1,_,_,k4⟩:=ND.out.cells w1 hfm.keeps
     rw [hk] at k0
     obtain ⟨t1,a1,rfl⟩:=hv.one
     have HV:=hide hv
     clear HC hv hr
     obtain ⟨bj,qj,ebj,dj,htj⟩:=ND.out.part 1 (by omega)
     cases ebj
     have ej:=dj w1 hfm.keeps
     have hBd:Below w1.heap.size w1 w1.drew:=(Below.refl _ w1).drew
     have hstd:=hst.below ok hBd
     have hfmd:Fm E.base w w1.drew:=hfm.trans (Fm.below hBd (Nat.le_trans ok.baser (Nat.le_of_lt hst.lt)))
     have hFd:∀ k,F1 k→F k∨w.heap.size≤k:=hF
     have hw:=IH.out (t.part 1) it _ _ F1 st1 w1.drew (h0 1 (by omega)) (htj.keeps hfmd.keeps) (HI.out.keeps hfmd.keeps) hstd
     rw [HRB.out,HQ2.out] at hw
     have hqj:(1:Int) < (m:Int):=by omega
     have HW:=hide (hw.mono (R':=fun e w3=>∃ t2 a2,e=.returned (.iface t2 a2)∧w3.cell? ⟨b,1,none⟩=some (.int .u8 (t.op:Int))∧Hid (Calls Tryz.prog 281 #[.int .u8 (t.op:Int),.iface t1 a1,.iface t2 a2] w3 fun e w4=>(∀ c,(Except.ok v2:Except Nat Lard.V)=.error c→e=broken c)∧(∀ vv,(Except.ok v2:Except Nat Lard.V)=.ok vv→∃ t4 a4,e=.returned (.iface t4 a4))∧PW (Ψ E F w (.ok v2,st2)) e w4)) (fun e w3 hp=>by
      obtain ⟨r3,⟨hr3,F3,hst3,hF3,hfm3⟩,⟨v3,y3,h3,rfl,hv3⟩ | ⟨c3,h3,rfl,_⟩⟩:=hp
      ·rw [hr3] at h3; cases h3
       obtain ⟨t2,a2,rfl⟩:=hv3.one
       have hfm4:=hfmd.trans hfm3
       refine ⟨t2,a2,rfl,(ND.out.cells w3 hfm4.keeps).2.1,?_⟩
       have hmk:=make_any t.op hop w3 (HV.out.keeps ((Fm.below hBd (Nat.le_trans ok.baser (Nat.le_of_lt hst.lt)):Fm E.base w1 w1.drew).trans hfm3).keeps) hv3
       rw [HRES.out] at hmk
       exact hmk.mono fun e w4 hpv=>⟨hpv.2.2,fun vv hvv=>by obtain ⟨y,rfl,hy⟩:=hpv.2.1 vv hvv; obtain ⟨t4,a4,rfl⟩:=hy.one; exact ⟨t4,a4,rfl⟩,PW.of_pv ok hst3 (fun k hk=>by
        rcases hF3 k hk with h' | h'
        ·exact hFd k h'
        ·exact .inr (Nat.le_trans hfmd.size h')) hfm4 hpv (fun c hc=>make_err (HRES.out.trans hc))⟩
      ·rw [hr3] at h3; cases h3))
     clear hw dj htj IH ND HI h0 hstd hfmd hFd
     go_wp2_with fail
     go_region_with (first | (go_at_call 203; refine HW.out.mono ?_; clear HW; rintro e w3 ⟨t2,a2,rfl,k1',HM⟩) | (go_at_call 281; refine HM.out.mono ?_; rintro e w4 ⟨_,ho,hfin⟩; obtain ⟨t4,a4,rfl⟩:=ho _ rfl; have HFIN:=hide hfin; clear hfin ho HM))
     all_goals go_wp2_with fail
     all_goals go_ret
     all_goals exact HFIN.out
    ·rw [hr] at hr2; cases hr2
end
section
set_option maxRecDepth 100000
set_option maxHeartbeats 4000000
open Go.RowKit Go.Shelf
theorem workFirst_both (E:Env) (ok:EnvOK E) (n:Nat) (ih:WorkSays E n) (t:Lard.T) (it:Option Lard.V) (x xi:Value) (F:Nat→Prop) (st:Nat×E.σ) (w:World) (hk:t.kind=13) (hlen:t.parts.length=2) (h0:∀ j,j < t.parts.length→Lard.okT n it.isSome (t.part j)=true) (hop:t.op=43∨t.op=45∨t.op=42∨t.op=47∨t.op=60∨t.op=61∨t.op=109∨t.op=120∨t.op=64) (hx:IsTree w (n + 1) t x) (hi:IsOpt w it xi) (h:St E F st w) :
  Calls Tryz.prog 251 #[.pointer (some ⟨E.rb,0,none⟩),x,xi] w (PW (Ψ E F w (Lard.firstE E.N (fun u s=>Lard.ev E.N n u it s) t st))):=by
 obtain ⟨b,i,o,m,c,rfl,nd⟩:=hx.node
 obtain ⟨b0,q0,rfl,d0,ht0⟩:=nd.part 0 (by omega)
 have hcall:=ih (t.part 0) it _ xi F st w (h0 0 (by omega)) ht0 hi h
 have hm:=nd.len
 have hfirst:Lard.firstE E.N (fun u s=>Lard.ev E.N n u it s) t st=Lard.thenR (Lard.ev E.N n (t.part 0) it st) fun v s=>Lard.thenR (Lard.ev E.N n (t.part 1) it s) fun u s=>(Lard.make t.op v u,s):=by
  unfold Lard.firstE; rw [hk]; rfl
 rw [hfirst]
 obtain ⟨c0,_,_,_,c4⟩:=nd.cells w (Keeps.refl w)
 have e0:=d0 w (Keeps.refl w)
 have hq1:(0:Int) < (m:Int):=by omega
 have hform:=hi.form
 rw [hk] at c0
 have ND:=hide nd
 have HC:=hide hcall
 have IH:=hide ih
 have HI:=hide hi
 clear hcall hfirst nd d0 ht0 hx ih hi
 generalize Lard.ev E.N n (t.part 0) it st=q at HC ⊢
 obtain ⟨r,st1⟩:=q
 generalize hrb:E.rb=rb at HC
 have HRB:=hide hrb
 clear hrb
 cases r with
 |error e1 =>
  rcases hform with rfl | ⟨tx,ax,rfl⟩
  all_goals
   go_enter Tryz.func251,Tryz.ntmps251
   go_wp2_with fail
   refine HC.out.mono ?_
   rintro e w1 ⟨r,⟨hr,hst⟩,⟨v,y,hr2,rfl,hv⟩ | ⟨c1,hr2,rfl,hc⟩⟩
   ·rw [hr] at hr2; cases hr2
   ·rw [hr] at hr2; cases hr2
    exact ⟨rfl,.error e1,⟨rfl,hst⟩,.inr ⟨e1,rfl,rfl,hc⟩⟩
 |ok v1 =>
  show Calls _ _ _ _ (PW (Ψ E F w (Lard.thenR (Lard.ev E.N n (t.part 1) it st1) fun u s=>(Lard.make t.op v1 u,s))))
  generalize hq2:Lard.ev E.N n (t.part 1) it st1=q2
  obtain ⟨r2,st2⟩:=q2
  have HQ2:=hide hq2
  clear hq2
  cases r2 with
  |error e2 =>
   show Calls _ _ _ _ (PW (Ψ E F w (.error e2,st2)))
   go_enter Tryz.func251,Tryz.ntmps251
   go_wp2_with fail
   refine HC.out.mono ?_
   rintro e w1 ⟨r,⟨hr,F1,hst,hF,hfm⟩,⟨v,y,hr2,rfl,hv⟩ | ⟨c1,hr2,rfl,hc⟩⟩
   ·rw [hr] at hr2; cases hr2
    obtain ⟨k0,k1,_,_,k4⟩:=ND.out.cells w1 hfm.keeps
    rw [hk] at k0
    obtain ⟨t1,a1,rfl⟩:=hv.one
    have HV:=hide hv
    clear HC hv hr
    obtain ⟨bj,qj,ebj,dj,htj⟩:=ND.out.part 1 (by omega)
    cases ebj
    have ej:=dj w1 hfm.keeps
    have hBd:Below w1.heap.size w1 w1.drew:=(Below.refl _ w1).drew
    have hstd:=hst.below ok hBd
    have hfmd:Fm E.base w w1.drew:=hfm.trans (Fm.below hBd (Nat.le_trans ok.baser (Nat.le_of_lt hst.lt)))
    have hFd:∀ k,F1 k→F k∨w.heap.size≤k:=hF
    have hw:=IH.out (t.part 1) it _ _ F1 st1 w1.drew (h0 1 (by omega)) (htj.keeps hfmd.keeps) (HI.out.keeps hfmd.keeps) hstd
    rw [HRB.out,HQ2.out] at hw
    have hqj:(1:Int) < (m:Int):=by omega
    have HW:=hide (hw.mono (R':=fun e w3=>e=broken e2∧PW (Ψ E F w (.error e2,st2)) (broken e2) w3) (fun e w3 hp=>by
     have hfin:=PW.after hFd hfmd hp
     obtain ⟨r3,⟨hr3,_⟩,⟨v3,y3,h3,_⟩ | ⟨c3,h3,rfl,_⟩⟩:=hp
     ·rw [hr3] at h3; cases h3
     ·rw [hr3] at h3; cases h3
      exact ⟨rfl,hfin⟩))
    clear hw dj htj IH ND HI h0 hstd hfmd hFd
    go_wp2_with fail
    go_region_with (go_at_call 203; refine HW.out.mono ?_; rintro e w3 ⟨rfl,hfin⟩; refine dies (md:=.text) (a:=⟨#[],[]⟩) (w:=w) ⟨rfl,hfin⟩ ?_)
    all_goals trivial
   ·rw [hr] at hr2; cases hr2
  |ok u2 =>
   show Calls _ _ _ _ (PW (Ψ E F w (Lard.make t.op v1 u2,st2)))
   generalize hres:Lard.make t.op v1 u2=res
   have HRES:=hide hres
   clear hres
   cases res with
   |error c2 =>
    go_enter Tryz.func251,Tryz.ntmps251
    go_wp2_with fail
    refine HC.out.mono ?_
    rintro e w1 ⟨r,⟨hr,F1,hst,hF,hfm⟩,⟨v,y,hr2,rfl,hv⟩ | ⟨c1,hr2,rfl,hc⟩⟩
    ·rw [hr] at hr2; cases hr2
     obtain ⟨k0,k1,_,_,k4⟩:=ND.out.cells w1 hfm.keeps
     rw [hk] at k0
     obtain ⟨t1,a1,rfl⟩:=hv.one
     have HV:=hide hv
     clear HC hv hr
     obtain ⟨bj,qj,ebj,dj,htj⟩:=ND.out.part 1 (by omega)
     cases ebj
     have ej:=dj w1 hfm.keeps
     have hBd:Below w1.heap.size w1 w1.drew:=(Below.refl _ w1).drew
     have hstd:=hst.below ok hBd
     have hfmd:Fm E.base w w1.drew:=hfm.trans (Fm.below hBd (Nat.le_trans ok.baser (Nat.le_of_lt hst.lt)))
     have hFd:∀ k,F1 k→F k∨w.heap.size≤k:=hF
     have hw:=IH.out (t.part 1) it _ _ F1 st1 w1.drew (h0 1 (by omega)) (htj.keeps hfmd.keeps) (HI.out.keeps hfmd.keeps) hstd
     rw [HRB.out,HQ2.out] at hw
     have hqj:(1:Int) < (m:Int):=by omega
     have HW:=hide (hw.mono (R':=fun e w3=>∃ t2 a2,e=.returned (.iface t2 a2)∧w3.cell? ⟨b,1,none⟩=some (.int .u8 (t.op:Int))∧Hid (Calls Tryz.prog 281 #[.int .u8 (t.op:Int),.iface t1 a1,.iface t2 a2] w3 fun e w4=>(∀ c,(Except.error c2:Except Nat Lard.V)=.error c→e=broken c)∧(∀ vv,(Except.error c2:Except Nat Lard.V)=.ok vv→∃ t4 a4,e=.returned (.iface t4 a4))∧PW (Ψ E F w (.error c2,st2)) e w4)) (fun e w3 hp=>by
      obtain ⟨r3,⟨hr3,F3,hst3,hF3,hfm3⟩,⟨v3,y3,h3,rfl,hv3⟩ | ⟨c3,h3,rfl,_⟩⟩:=hp
      ·rw [hr3] at h3; cases h3
       obtain ⟨t2,a2,rfl⟩:=hv3.one
       have hfm4:=hfmd.trans hfm3
       refine ⟨t2,a2,rfl,(ND.out.cells w3 hfm4.keeps).2.1,?_⟩
       have hmk:=make_any t.op hop w3 (HV.out.keeps ((Fm.below hBd (Nat.le_trans ok.baser (Nat.le_of_lt hst.lt)):Fm E.base w1 w1.drew).trans hfm3).keeps) hv3
       rw [HRES.out] at hmk
       exact hmk.mono fun e w4 hpv=>⟨hpv.2.2,fun vv hvv=>by obtain ⟨y,rfl,hy⟩:=hpv.2.1 vv hvv; obtain ⟨t4,a4,rfl⟩:=hy.one; exact ⟨t4,a4,rfl⟩,PW.of_pv ok hst3 (fun k hk=>by
        rcases hF3 k hk with h' | h'
        ·exact hFd k h'
        ·exact .inr (Nat.le_trans hfmd.size h')) hfm4 hpv (fun c hc=>make_err (HRES.out.trans hc))⟩
      ·rw [hr3] at h3; cases h3))
     clear hw dj htj IH ND HI h0 hstd hfmd hFd
     go_wp2_with fail
     go_region_with (first | (go_at_call 203; refine HW.out.mono ?_; clear HW; rintro e w3 ⟨t2,a2,rfl,k1',HM⟩) | (go_at_call 281; refine HM.out.mono ?_; rintro e w4 ⟨he,_,hfin⟩; obtain rfl:=he _ rfl; refine dies (md:=.text) (a:=⟨#[],[]⟩) (w:=w) ⟨rfl,hfin⟩ ?_))
     all_goals trivial
    ·rw [hr] at hr2; cases hr2
   |ok v2 =>
    go_enter Tryz.func251,Tryz.ntmps251
    go_wp2_with fail
    refine HC.out.mono ?_
    rintro e w1 ⟨r,⟨hr,F1,hst,hF,hfm⟩,⟨v,y,hr2,rfl,hv⟩ | ⟨c1,hr2,rfl,hc⟩⟩
    ·rw [hr] at hr2; cases hr2
     obtain ⟨k0,k1,_,_,k4⟩:=ND.out.cells w1 hfm.keeps
     rw [hk] at k0
     obtain ⟨t1,a1,rfl⟩:=hv.one
     have HV:=hide hv
     clear HC hv hr
     obtain ⟨bj,qj,ebj,dj,htj⟩:=ND.out.part 1 (by omega)
     cases ebj
     have ej:=dj w1 hfm.keeps
     have hBd:Below w1.heap.size w1 w1.drew:=(Below.refl _ w1).drew
     have hstd:=hst.below ok hBd
     have hfmd:Fm E.base w w1.drew:=hfm.trans (Fm.below hBd (Nat.le_trans ok.baser (Nat.le_of_lt hst.lt)))
     have hFd:∀ k,F1 k→F k∨w.heap.size≤k:=hF
     have hw:=IH.out (t.part 1) it _ _ F1 st1 w1.drew (h0 1 (by omega)) (htj.keeps hfmd.keeps) (HI.out.keeps hfmd.keeps) hstd
     rw [HRB.out,HQ2.out] at hw
     have hqj:(1:Int) < (m:Int):=by omega
     have HW:=hide (hw.mono (R':=fun e w3=>∃ t2 a2,e=.returned (.iface t2 a2)∧w3.cell? ⟨b,1,none⟩=some (.int .u8 (t.op:Int))∧Hid (Calls Tryz.prog 281 #[.int .u8 (t.op:Int),.iface t1 a1,.iface t2 a2] w3 fun e w4=>(∀ c,(Except.ok v2:Except Nat Lard.V)=.error c→e=broken c)∧(∀ vv,(Except.ok v2:Except Nat Lard.V)=.ok vv→∃ t4 a4,e=.returned (.iface t4 a4))∧PW (Ψ E F w (.ok v2,st2)) e w4)) (fun e w3 hp=>by
      obtain ⟨r3,⟨hr3,F3,hst3,hF3,hfm3⟩,⟨v3,y3,h3,rfl,hv3⟩ | ⟨c3,h3,rfl,_⟩⟩:=hp
      ·rw [hr3] at h3; cases h3
       obtain ⟨t2,a2,rfl⟩:=hv3.one
       have hfm4:=hfmd.trans hfm3
       refine ⟨t2,a2,rfl,(ND.out.cells w3 hfm4.keeps).2.1,?_⟩
       have hmk:=make_any t.op hop w3 (HV.out.keeps ((Fm.below hBd (Nat.le_trans ok.baser (Nat.le_of_lt hst.lt)):Fm E.base w1 w1.drew).trans hfm3).keeps) hv3
       rw [HRES.out] at hmk
       exact hmk.mono fun e w4 hpv=>⟨hpv.2.2,fun vv hvv=>by obtain ⟨y,rfl,hy⟩:=hpv.2.1 vv hvv; obtain ⟨t4,a4,rfl⟩:=hy.one; exact ⟨t4,a4,rfl⟩,PW.of_pv ok hst3 (fun k hk=>by
        rcases hF3 k hk with h' | h'
        ·exact hFd k h'
        ·exact .inr (Nat.le_trans hfmd.size h')) hfm4 hpv (fun c hc=>make_err (HRES.out.trans hc))⟩
      ·rw [hr3] at h3; cases h3))
     clear hw dj htj IH ND HI h0 hstd hfmd hFd
     go_wp2_with fail
     go_region_with (first | (go_at_call 203; refine HW.out.mono ?_; clear HW; rintro e w3 ⟨t2,a2,rfl,k1',HM⟩) | (go_at_call 281; refine HM.out.mono ?_; rintro e w4 ⟨_,ho,hfin⟩; obtain ⟨t4,a4,rfl⟩:=ho _ rfl; have HFIN:=hide hfin; clear hfin ho HM))
     all_goals go_wp2_with fail
     all_goals go_ret
     all_goals exact HFIN.out
    ·rw [hr] at hr2; cases hr2
end
section
open Go.RowKit Go.Shelf
def Priv (w:World) (base:Nat) (v:Value) (ys:List Value):Prop :=
 (v=.slice none 0 0∧ys=[]) ∨
 ∃ (g cap:Nat) (cur:Array Value),v=.slice (some ⟨g,0,none⟩) ys.length cap∧base≤g∧w.heap[g]? = some (.cells cur 111 (0,0))∧ys.length≤cap∧cap≤maxLen∧cur.size=cap∧cur.toList=ys++List.replicate (cap - ys.length) .nilIface
theorem Priv.row {w:World} {base:Nat} {v:Value} {ys:List Value} (h:Priv w base v ys):IsRow w v ys:=by
 rcases h with h | ⟨g,cap,cur,h1,h2,h3,h4,h5,h6,h7⟩
 ·exact .inl h
 ·refine .inr ⟨g,cap,cur,(0,0),h1,h4,h3,by omega,fun i hi=>?_⟩
  rw [←Array.getElem?_toList,h7,List.getElem?_append_left hi]
theorem Priv.own {w:World} {base:Nat} {v:Value} {ys:List Value} (h:Priv w base v ys):w.ownsRow base 111 1 v ys.length ys:=by
 rcases h with ⟨rfl,rfl⟩ | ⟨g,cap,cur,h1,h2,h3,h4,h5,h6,h7⟩
 ·exact ⟨rfl,.inl ⟨rfl,rfl⟩⟩
 ·exact ⟨by simp,.inr ⟨g,cap,cur,h1,h2,h3,h4,h5,by omega,by rw [h7,Nat.mul_one,List.take_left]⟩⟩
theorem Priv.same {w w':World} {base:Nat} {v:Value} {ys:List Value} (h:Priv w base v ys) (hk:Keeps w w'):Priv w' base v ys:=by
 rcases h with h | ⟨g,cap,cur,h1,h2,h3,h4⟩
 ·exact .inl h
 ·exact .inr ⟨g,cap,cur,h1,h2,hk _ _ _ _ h3 (.inl rfl),h4⟩
theorem not_nil {w:World} {n:Nat} {v:Lard.V}:¬ IsVal w n v .nilIface:=fun h=>by
 obtain ⟨t,a,h⟩:=h.one
 cases h
theorem IsVal.priv {w w':World} {g:Nat} {ys:List Value} {cur cur':Array Value} {k:Nat} (hg:w.grownBy w' (some g)) (h1:w.heap[g]? = some (.cells cur 111 (0,0))) (h2:cur.toList=ys++List.replicate k .nilIface)
  (h3:w'.heap[g]? = some (.cells cur' 111 (0,0))) (h4:cur.size≤cur'.size) (h5:∀ i,i < ys.length→cur'[i]? = ys[i]?):∀ {n:Nat} {v:Lard.V} {x:Value},IsVal w n v x→IsVal w' n v x:=by
 intro n
 induction n with
 |zero=>intro v x h; exact h
 |succ n ih =>
  intro v x h
  rcases h with h | ⟨l,s,zs,e1,e2,hr,hl,h12,hv⟩
  ·exact .inl h
  ·refine .inr ⟨l,s,zs,e1,e2,?_,hl,h12,fun i u y hu hy=>ih (hv i u y hu hy)⟩
   rcases hr with hr | ⟨b,cap,cs,fz,r1,r2,r3,r4,r5⟩
   ·exact .inl hr
   ·by_cases hb:b=g
    ·subst hb
     rw [h1] at r3
     cases r3
     have hle:zs.length≤ys.length:=by
      rcases Nat.lt_or_ge ys.length zs.length with hlt | hge
      ·exfalso
       obtain ⟨y,hy⟩:∃ y,zs[ys.length]? = some y:=⟨_,List.getElem?_eq_getElem hlt⟩
       obtain ⟨u,hu⟩:∃ u,l[ys.length]? = some u:=⟨_,List.getElem?_eq_getElem (by omega)⟩
       have hc:=r5 ys.length hlt
       rw [←Array.getElem?_toList,h2,List.getElem?_append_right (Nat.le_refl _),hy,Nat.sub_self] at hc
       have hy':y=.nilIface:=by
        have:=List.mem_of_getElem? hc
        exact (List.mem_replicate.1 this).2
       subst hy'
       exact not_nil (hv _ _ _ hu hy)
      ·exact hge
     refine .inr ⟨b,cap,cur',(0,0),r1,r2,h3,by omega,fun i hi=>?_⟩
     rw [h5 i (by omega),←r5 i hi,←Array.getElem?_toList,h2,List.getElem?_append_left (by omega)]
    ·exact .inr ⟨b,cap,cs,fz,r1,r2,(hg.block b (lt_of_some r3) (fun e=>hb (by cases e; rfl))).trans r3,r4,r5⟩
theorem priv_append {w:World} (t ty:TypeId) (ht:Tryz.prog.underlying t=some (.slice 111)) (base:Nat) (v:Value) (ys:List Value) (h:Priv w base v ys) (ad:Addr) (c:Nat) (y:Value) (hy:w.cell? (ad.add 0)=some y) (h1:y.oneCell'=true) (hn:ys.length≤1000) (hbase:base≤w.heap.size) :
  ∃ v' w',(Builtin.append_ #[t,t] ty #[v,.slice (some ad) 1 c]).run Tryz.prog w=.ok v' w'∧Priv w' base v' (ys++[y])∧w.grownBy w' v.ownBlock∧(v'.ownBlock=v.ownBlock∨v'.ownBlock=some w.heap.size)∧(∀ n u x,IsVal w n u x→IsVal w' n u x):=by
 obtain ⟨i0,hi0,hz0,hz1,hz2⟩:=info_parts valInfo
 have hnews:∀ j u,[y][j]? = some u→w.cell? (ad.add j)=some u:=fun j u hj=>by
  cases j with
  |zero=>cases hj; exact hy
  |succ j=>simp at hj
 have hone:∀ u∈[y],u.oneCell'=true:=fun u hu=>by rw [List.mem_singleton] at hu; subst hu; exact h1
 have hzc:∀ k,(Builtin.zeroCells (Value.nilIface).cells k).toList=List.replicate k .nilIface:=fun k=>by
  apply List.ext_getElem?
  intro j
  by_cases hj:j < k
  ·simp [Builtin.zeroCells,Value.cells,hj,Nat.mod_one]
  ·simp [Builtin.zeroCells,Value.cells,hj]
 have newrow:∀ old,Priv (w.drew.alloc (.cells (ys.toArray++[y].toArray++Builtin.zeroCells (Value.nilIface).cells (grownCap w (ys.length + 1) old 111 - (ys.length + 1))) 111)) base (.slice (some ⟨w.heap.size,0,none⟩) (ys.length + 1) (grownCap w (ys.length + 1) old 111)) (ys++[y]):=fun old=>by
  have hge:=grownCap_ge w (ys.length + 1) old 111
  have hle:=grownCap_le_maxLen w (ys.length + 1) old 111 (by unfold maxLen; omega)
  generalize grownCap w (ys.length + 1) old 111=cp at hge hle
  refine .inr ⟨w.heap.size,cp,_,by simp,hbase,heap_alloc_new w.drew _,by simpa using hge,hle,?_,?_⟩
  ·simp [size_zeroCells,Value.cells]; omega
  ·simp [hzc]
 have newfr:∀ o row,w.grownBy (w.drew.alloc o) row:=fun o row=>⟨rfl,rfl,rfl,by simp,fun k hk _=>heap_alloc_old w.drew _ hk⟩
 have newval:∀ o n u x,IsVal w n u x→IsVal (w.drew.alloc o) n u x:=fun o n u x hx=>hx.keeps (Keeps.below (((Below.refl _ w).drew).alloc (Nat.le_refl _) o))
 rcases h with ⟨rfl,rfl⟩ | ⟨g,cap,cur,rfl,hbg,hg,hnc,hcm,hcs,hcur⟩
 ·have hr:=run_append_nil (P:=Tryz.prog) w t ty 111 i0 .nilIface ht hi0 hz0 ad 1 c [y] (by rw [hz1]; rfl) hnews (by omega) (by omega) (by rw [hz2]; omega)
  have hp:=newrow 0
  simp only [List.length_nil,Nat.zero_add,List.nil_append] at hp ⊢
  refine ⟨_,_,hr,?_,newfr _ _,.inr rfl,newval _⟩
  simpa using hp
 ·by_cases hroom:ys.length + 1≤cap
  ·have hr:=run_append_room (P:=Tryz.prog) w t ty 111 i0 ht hi0 g ys.length cap cur hg ad 1 c [y] (by rw [hz1]; rfl) hnews hone hroom (by rw [hz1]; simp; omega)
   rw [hz1,Nat.mul_one] at hr
   have htake:cur.toList.take ys.length=ys:=by rw [hcur,List.take_left]
   have hdrop:cur.toList.drop (ys.length + [y].length)=List.replicate (cap - (ys.length + 1)) .nilIface:=by
    rw [hcur,List.drop_append]
    simp [List.drop_eq_nil_of_le]
    omega
   rw [htake,hdrop] at hr
   have hset:=setRow_heap w g cur (ys++[y]++List.replicate (cap - (ys.length + 1)) Value.nilIface).toArray 111 (0,0) hg
   have hgr:w.grownBy (w.setRow g (ys++[y]++List.replicate (cap - (ys.length + 1)) Value.nilIface).toArray) (some g):=⟨rfl,rfl,rfl,by simp,fun k _ hk=>setRow_other w g k _ (fun e=>hk (by rw [e]))⟩
   refine ⟨_,_,hr,.inr ⟨g,cap,_,by simp,hbg,hset,by simp; omega,hcm,by simp; omega,by simp⟩,hgr,.inl rfl,fun n u x hx=>IsVal.priv hgr hg hcur hset (by simp; omega) (fun i hi=>?_) hx⟩
   rw [List.getElem?_toArray,List.append_assoc,List.getElem?_append_left hi]
  ·have holds:∀ j u,ys[j]? = some u→w.cell? ((⟨g,0,none⟩:Addr).add j)=some u:=(Priv.own (.inr ⟨g,cap,cur,rfl,hbg,hg,hnc,hcm,hcs,hcur⟩)).cells (g:=g) rfl
   have hr:=run_append_grow (P:=Tryz.prog) w t ty 111 i0 .nilIface ht hi0 hz0 ⟨g,0,none⟩ ys.length cap ys (by rw [hz1,Nat.mul_one]) holds ad 1 c [y] (by rw [hz1]; rfl) hnews (by omega) (by omega) (growslice_fits (by omega) (by rw [hz2]; omega))
   exact ⟨_,_,hr,newrow cap,newfr _ _,.inr rfl,newval _⟩
end
section
set_option maxRecDepth 100000
set_option maxHeartbeats 4000000
open Go.RowKit Go.Shelf
theorem wpList_priv {w:World} {ops:Array Oper} {rest:List Oper} {o:Oper} {a:Act} {Q:Exit→Act→World→Prop} (hgd:o.guard=none) (s x:Operand) (t:TypeId) (ht:Tryz.prog.underlying t=some (.slice 111))
  (ho:o.op=.call { callee:=.builtin .append,args:=#[s,x],argTypes:=#[t,t] }) (base:Nat) (v:Value) (ys:List Value) (hs:a.eval s=v) (h:Priv w base v ys) (ad:Addr) (c:Nat) (y:Value) (hx:a.eval x=.slice (some ad) 1 c) (hy:w.cell? (ad.add 0)=some y) (h1:y.oneCell'=true) (hn:ys.length≤1000) (hbase:base≤w.heap.size)
  (hK:∀ v' w',Priv w' base v' (ys++[y])→w.grownBy w' v.ownBlock→(v'.ownBlock=v.ownBlock∨v'.ownBlock=some w.heap.size)→(∀ n u x,IsVal w n u x→IsVal w' n u x)→wpList Tryz.prog ops Q rest (a.put o.dst v') w'):wpList Tryz.prog ops Q (o :: rest) a w:=by
 obtain ⟨v',w',hr,h2,h3,h4,h5⟩:=priv_append t o.type ht base v ys h ad c y hy h1 hn hbase
 exact Lib.wpList_append_run w hgd s x t t ho v _ hs hx v' w' hr (hK v' w' h2 h3 h4 h5)
structure Lp (E:Env) (F:Nat→Prop) (w:World) (a:Value) (ys:List Value) (acc:List Lard.V) (F':Nat→Prop) (st':Nat×E.σ) (wr:World):Prop where
 priv:Priv wr w.heap.size a ys
 vals:Vals wr 3 acc ys
 out:∀ g,a.ownBlock=some g→¬ F' g
 st:St E F' st' wr
 grows:∀ k,F' k→F k∨w.heap.size≤k
 fm:Fm E.base w wr
theorem Priv.lt {w:World} {base g:Nat} {v:Value} {ys:List Value} (h:Priv w base v ys) (hg:v.ownBlock=some g):g < w.heap.size∧base≤g:=by
 rcases h with ⟨rfl,_⟩ | ⟨g',cap,cur,rfl,h2,h3,_⟩
 ·cases hg
 ·cases hg; exact ⟨lt_of_some h3,h2⟩
theorem Lp.start {E:Env} {F:Nat→Prop} {w:World} {st:Nat×E.σ} (h:St E F st w):Lp E F w (.slice none 0 0) [] [] F st w :=
 ⟨.inl ⟨rfl,rfl⟩,⟨rfl,fun i u y hu _=>(by simp at hu)⟩,fun g hg=>(by cases hg),h,fun k hk=>.inl hk,Fm.refl _ _⟩
theorem Lp.worked {E:Env} {F F' F3:Nat→Prop} {w wr w3:World} {a:Value} {ys:List Value} {acc:List Lard.V} {st' st3:Nat×E.σ} (h:Lp E F w a ys acc F' st' wr) (hst:St E F3 st3 w3) (hF:∀ k,F3 k→F' k∨wr.heap.size≤k) (hfm:Fm E.base wr w3):Lp E F w a ys acc F3 st3 w3 :=
 ⟨h.priv.same hfm.keeps,h.vals.keeps hfm.keeps,fun g hg hk=>by
  rcases hF g hk with h' | h'
  ·exact h.out g hg h'
  ·have:=(h.priv.lt hg).1; omega,hst,fun k hk=>by
  rcases hF k hk with h' | h'
  ·exact h.grows k h'
  ·exact .inr (Nat.le_trans h.fm.size h'),h.fm.trans hfm⟩
theorem Lp.below {E:Env} (ok:EnvOK E) {F F':Nat→Prop} {w wr w3:World} {a:Value} {ys:List Value} {acc:List Lard.V} {st':Nat×E.σ} (h:Lp E F w a ys acc F' st' wr) (hB:Below wr.heap.size wr w3):Lp E F w a ys acc F' st' w3 :=
 h.worked (h.st.below ok hB) (fun _ hk=>.inl hk) (Fm.below hB (Nat.le_trans ok.baser (Nat.le_of_lt h.st.lt)))
theorem Lp.append {E:Env} (ok:EnvOK E) {F F':Nat→Prop} {w wr w5:World} {a v':Value} {ys:List Value} {acc:List Lard.V} {st':Nat×E.σ} {v:Lard.V} {y:Value} (hw:E.rb < w.heap.size) (h:Lp E F w a ys acc F' st' wr) (hv:IsVal wr 3 v y)
  (h2:Priv w5 w.heap.size v' (ys++[y])) (h3:wr.grownBy w5 a.ownBlock) (h4:v'.ownBlock=a.ownBlock∨v'.ownBlock=some wr.heap.size) (h5:∀ n u x,IsVal wr n u x→IsVal w5 n u x):Lp E F w v' (ys++[y]) (acc++[v]) F' st' w5:=by
 have h8:8≤w.heap.size:=Nat.le_trans (Nat.le_trans ok.base8 ok.baser) (Nat.le_of_lt hw)
 refine ⟨h2,Vals.append ⟨h.vals.1,fun i u x hu hx=>h5 _ _ _ (h.vals.2 i u x hu hx)⟩ ⟨rfl,fun i u x hu hx=>?_⟩,fun g hg=>?_,?_,h.grows,?_⟩
 ·cases i with
  |zero=>cases hu; cases hx; exact h5 _ _ _ hv
  |succ i=>simp at hu
 ·rcases h4 with h4 | h4
  ·exact h.out g (h4 ▸ hg)
  ·rw [h4] at hg; cases hg
   exact fun hk=>Nat.lt_irrefl _ (ok.dom _ _ _ _ h.st.inv hk).1
 ·cases hb:a.ownBlock with
  |none =>
   rw [hb] at h3
   exact h.st.below ok ⟨h3.os,h3.tape,h3.output,h3.size,fun k hk=>h3.block k hk (fun e=>by cases e)⟩
  |some g =>
   rw [hb] at h3
   have hg:=h.priv.lt hb
   refine h.st.grown ok h3 (by omega) (h.out g hb) (by omega) ⟨h5,fun k cs t fz hk ht=>(h3.block k (lt_of_some hk) (fun e=>?_)).trans hk⟩
   cases e
   rcases h.priv with ⟨rfl,_⟩ | ⟨g',cap,cur,rfl,_,hc,_⟩
   ·cases hb
   ·cases hb
    rw [hc] at hk
    cases hk
    rcases ht with h | h <;> cases h
 ·refine ⟨h.fm.bel.trans ((Below.refl E.base wr).grown h3 (Nat.le_trans ok.baser (Nat.le_of_lt h.st.lt)) (fun k hk=>?_)),fun k cs t fz hk ht=>?_⟩
  ·have:=(h.priv.lt hk).2
   have:=ok.baser
   omega
  ·refine (h3.block k (lt_of_some (h.fm.imm k cs t fz hk ht)) (fun e=>?_)).trans (h.fm.imm k cs t fz hk ht)
   have:=(h.priv.lt e.symm).2
   have:=lt_of_some hk
   omega
theorem PW.of_pl {E:Env} (ok:EnvOK E) {F F':Nat→Prop} {w wr w2:World} {a:Value} {ys:List Value} {acc:List Lard.V} {st':Nat×E.σ} {e:Ending} (h:Lp E F w a ys acc F' st' wr) (hpl:PL wr (Lard.listOf acc) e w2) :
  (∀ v,Lard.listOf acc=.ok v→∃ o n c,e=.returned (.slice o n c)∧PW (Ψ E F w (.ok v,st')) (.returned (.iface 248 (.slice o n c))) w2)∧(∀ c,Lard.listOf acc=.error c→e=broken c∧PW (Ψ E F w (.error c,st')) (broken c) w2):=by
 obtain ⟨hB,hok,herr⟩:=hpl
 have h2:=h.below ok hB
 refine ⟨fun v hv=>?_,fun c hc=>?_⟩
 ·obtain ⟨o,n,c,rfl,hval⟩:=hok v hv
  exact ⟨o,n,c,rfl,.ok v,⟨rfl,F',h2.st,h2.grows,h2.fm⟩,.inl ⟨v,_,rfl,rfl,hval⟩⟩
 ·have:=listOf_err hc
  exact ⟨herr c hc,.error c,⟨rfl,F',h2.st,h2.grows,h2.fm⟩,.inr ⟨c,rfl,rfl,this.1,this.2⟩⟩
theorem list_any (E:Env) (ok:EnvOK E) (n:Nat) (ih:WorkSays E n) (t:Lard.T) (it:Option Lard.V) (x xi:Value) (F:Nat→Prop) (st:Nat×E.σ) (w:World) (hlen:t.parts.length≤200) (h0:∀ j,j < t.parts.length→Lard.okT n it.isSome (t.part j)=true) (hx:IsTree w (n + 1) t x) (hi:IsOpt w it xi) (h:St E F st w) :
  Calls Tryz.prog 250 #[.pointer (some ⟨E.rb,0,none⟩),x,xi] w (PW (Ψ E F w (Lard.seqE (fun u s=>Lard.ev E.N n u it s) t.parts [] st))):=by
 obtain ⟨b,i,o,m,c,rfl,nd⟩:=hx.node
 have hm:=nd.len
 obtain ⟨c0,_,_,_,c4⟩:=nd.cells w (Keeps.refl w)
 have hlt:=h.lt
 have ND:=hide nd
 have IH:=hide ih
 have HI:=hide hi
 have LP:=hide (Lp.start h)
 clear hx ih hi nd h
 generalize hfin:Lard.seqE (fun u s=>Lard.ev E.N n u it s) t.parts [] st=fin
 have HF:=hide hfin
 clear hfin
 generalize hrb:E.rb=rb at hlt
 have HRB:=hide hrb
 clear hrb
 go_enter Tryz.func250,Tryz.ntmps250
 go_wp2_with fail
 go_loopw [7,15] (fun a idx wr=>∃ (k:Nat) (acc:List Lard.V) (ys:List Value) (F':Nat→Prop) (st':Nat×E.σ),k≤m∧idx=.int .i64 k∧acc.length≤k∧Hid (Lp E F w a ys acc F' st' wr)∧Hid (Lard.seqE (fun u s=>Lard.ev E.N n u it s) (t.parts.drop k) acc st'=fin)) (fun _ idx _=>m - (intOf idx).toNat)
 case atStart=>exact ⟨0,[],[],F,st,Nat.zero_le _,rfl,Nat.le_refl _,LP,HF⟩
 case round =>
  clear LP HF
  obtain ⟨k,acc,ys,F',st',hk,rfl,hacc,LP,HR⟩:=hrel
  have hys:acc.length=ys.length:=LP.out.vals.1
  by_cases hltk:k < m
  ·obtain ⟨bk,qk,rfl,dk,htk⟩:=ND.out.part k (by omega)
   have ek:=dk _ LP.out.fm.keeps
   have hw:=IH.out (t.part k) it _ _ F' st' _ (h0 k (by omega)) (htk.keeps LP.out.fm.keeps) (HI.out.keeps LP.out.fm.keeps) LP.out.st
   have hR:=HR.out
   have hpk:t.parts[k]? = some (t.part k):=by
    rw [Lard.T.part,List.getElem?_eq_getElem (by omega)]; rfl
   rw [drop_cons hpk] at hR
   have hR2:Lard.thenR (Lard.ev E.N n (t.part k) it st') (fun v s=>Lard.seqE (fun u s=>Lard.ev E.N n u it s) (t.parts.drop (k + 1)) (acc++[v]) s)=fin:=hR
   rw [HRB.out] at hw
   generalize Lard.ev E.N n (t.part k) it st'=q at hw hR2
   obtain ⟨r,st3⟩:=q
   have HW:=hide hw
   have hltk':(k:Int) < (m:Int):=by omega
   clear hw dk htk hR HR hpk
   cases r with
   |error e1 =>
    have hR3:fin=(.error e1,st3):=hR2.symm
    subst hR3
    clear hR2 ND IH HI
    go_wp2_with fail
    refine HW.out.mono ?_
    rintro e w3 hp
    have hfin:=PW.after LP.out.grows LP.out.fm hp
    obtain ⟨r3,⟨hr3,_⟩,⟨v3,y3,h3,_⟩ | ⟨c3,h3,rfl,_⟩⟩:=hp
    ·rw [hr3] at h3; cases h3
    ·rw [hr3] at h3; cases h3
     exact ⟨rfl,hfin⟩
   |ok v1 =>
    have HR2:Hid (Lard.seqE (fun u s=>Lard.ev E.N n u it s) (t.parts.drop (k + 1)) (acc++[v1]) st3=fin):=hR2
    clear hR2 ND IH HI
    go_wp2_with fail
    refine HW.out.mono ?_
    rintro e w3 ⟨r3,⟨hr3,F3,hst3,hF3,hfm3⟩,⟨v3,y3,h3,rfl,hv3⟩ | ⟨c3,h3,rfl,_⟩⟩
    ·rw [hr3] at h3; cases h3
     have LP3:=hide (LP.out.worked hst3 hF3 hfm3)
     obtain ⟨t3,a3,rfl⟩:=hv3.one
     have HV:=hide hv3
     have LP4:=hide (LP3.out.below ok ((Below.refl _ w3).alloc (Nat.le_refl _) (Obj.cells #[.iface t3 a3] 111)))
     have HV4:=hide (HV.out.keeps (Keeps.below ((Below.refl _ w3).alloc (Nat.le_refl _) (Obj.cells #[.iface t3 a3] 111))))
     have hc4:(w3.alloc (Obj.cells #[.iface t3 a3] 111)).cell? ((⟨w3.heap.size,0,none⟩:Addr).add 0)=some (.iface t3 a3):=cell_one_new _ _ _ 0 _ rfl
     have hsz4:w.heap.size≤(w3.alloc (Obj.cells #[.iface t3 a3] 111)).heap.size:=LP4.out.fm.size
     clear hv3 hst3 hF3 hfm3 hr3 LP HW LP3 HV
     go_wp2_with (at_builtin; refine wpList_priv rfl _ _ 247 Tryz.underlying247 rfl w.heap.size _ ys rfl LP4.out.priv ⟨w3.heap.size,0,none⟩ _ (.iface t3 a3) rfl hc4 rfl (by omega) hsz4 ?_; intro v' w5 h2 h3 h4 h5)
     have LP5:=LP4.out.append ok (by rw [HRB.out]; exact hlt) HV4.out h2 h3 h4 h5
     exact ⟨⟨k + 1,acc++[v1],_,F3,st3,by omega,by go_num,by simp; omega,LP5,HR2⟩,by simp [intOf]; omega⟩
    ·rw [hr3] at h3; cases h3
  ·have hR:=HR.out
   rw [List.drop_eq_nil_of_le (by omega)] at hR
   have hR2:fin=(Lard.listOf acc,st'):=hR.symm
   have hcall:=listOf_any acc _ ys _ LP.out.priv.row LP.out.vals (by omega)
   have HL:=hide (hcall.mono fun e w2 hpl=>PW.of_pl ok LP.out hpl)
   obtain ⟨oa,ca,rfl⟩:=LP.out.priv.row.len
   clear hcall hR HR ND IH HI
   generalize Lard.listOf acc=res at HL hR2
   subst hR2
   go_wp2_with fail
   refine HL.out.mono ?_
   rintro e w2 ⟨h1,h2⟩
   cases res with
   |error c =>
    obtain ⟨rfl,hfin⟩:=h2 c rfl
    exact ⟨rfl,hfin⟩
   |ok v =>
    obtain ⟨o2,n2,c2,rfl,hfin⟩:=h1 v rfl
    have HFIN:=hide hfin
    clear hfin h1 h2 HL LP
    go_wp2_with fail
    go_ret
    exact HFIN.out
end
end Go.Proofs.YtpekpdimdelncaaGreatDoor
