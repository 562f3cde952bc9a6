/- Out of H7. -/
import Derived.Test.YtpekpdimdelncaaGreatDoorP25
set_option linter.unusedVariables false
set_option linter.unusedSimpArgs false
set_option maxRecDepth 100000
set_option maxHeartbeats 4000000
set_option linter.defProp false
namespace Go.Proofs.YtpekpdimdelncaaGreatDoor
open Go.RowKit Go.Shelf
section
open Tryz
namespace jU
def Og:(prog.info? 163).map (λi=>(i.zero,i.size,i.bytes))=some (some (.agg #[.slice none 0 0,.int .i64 0]),2,32):=S8
def Ee:ur 2 111:=by
 intro w B P Q vN N M H h l n xs L hn a0 hN ab ax;obtain⟨F,C,rfl⟩:=Ref.dD L;have c2:w.cell? ⟨B,2,none⟩=some (.int .i64 (N:Int)):=cr h.eb rfl;have cf:∀o,w.frozen? ⟨B,o,none⟩=false:=λo=>fq h.eb;obtain⟨b,ak⟩:∃x:ba,str (gp (N+1))=.string x:=⟨_,rfl⟩;have ai:=λw=>tD (N+1) w R5;rw[ak,show((N+1:Nat):Int)=(N:Int)+1 from rfl]at ai;have HS:=bZ ai;have a3:∀g,(Value.slice F n C).ownBlock=some g->g<w.1.size:=λg K=>(VT L g K).2;have ay:∀g,H g->g<w.1.size:=λg K=>(h.cz g K).2.1;have bC:=cj h.eb;have p:=bZ (And.intro h (And.intro L (And.intro a0 ax)));have T:=bZ (And.intro a3 ay);have HX:=bZ ak;have a9:=bZ ab;clear h L a0 ak ai ab ax a3 ay;go_enter func111,ntmps111;go_wp2_with(go_at_call 81;refine b_ (HS.Z _) λR I=>?_);have Z:=heap_alloc_new R (.cells #[.string b,.string b,.int .i64 99,.string ⟨#[]⟩,.int .i64 0,.string b] 61);have bE:w.1.size<=R.1.size:=by have:=I.size;simp at this;exact this
 obtain⟨h1,aC⟩:=L1.zero p.Z.1 p.Z.2.1 p.Z.2.2.1 (I.alloc I.size (.cells #[.string b,.string b,.int .i64 99,.string ⟨#[]⟩,.int .i64 0,.string b] 61));generalize R.alloc (.cells #[.string b,.string b,.int .i64 99,.string ⟨#[]⟩,.int .i64 0,.string b] 61)=D at *;generalize R.1.size=m at *;have a4:∀wr:Xa,eu (λk=>H k\/k=B\/(Value.slice F n C).ownBlock=some k) D wr->wr.1[m]?=some (.cells #[.string b,.string b,.int .i64 99,.string ⟨#[]⟩,.int .i64 0,.string b] 61 (0,0)):=λwr hf=>(hf.block m (cj Z) (λhx=>by
  rcases hx with hx|hx|hx
  ·have:=T.Z.2 m hx;omega
  ·omega
  ·have:=T.Z.1 m hx;omega)).trans Z
 have am:=bZ a4;have H1:=bZ h1;have S:=bZ aC;clear h1 aC I HS c2 cf Z a4
 go_loopw [5] (λz wr=>∃i:Nat,z=.int .i64 (i:Int)/\i<=n/\Hid (L1 2 D B P Q vN N M H (.slice F n C) n xs i wr)) (λz _=>n-(intOf z).toNat)
 case atStart=>exact⟨0,rfl,ar _,H1⟩
 case round =>
  obtain⟨i,rfl,hi,G⟩:=hrel;have e:=am.Z wr G.Z.2.2;by_cases bm:i<n
  ·have bj:(i:Int)<(n:Int):=R5;obtain⟨g,c,hv,K,y,a2,E⟩:=G.Z.next bm p.Z.2.2.1 p.Z.2.1.1 (z:=6) rfl;cases hv;have bw:g≠m:=by have:=T.Z.1 g rfl;omega
   have m0:wr.cell? ⟨m,0,none⟩=some (.string b):=cr e rfl;have m1:wr.cell? ⟨m,1,none⟩=some (.string b):=cr e rfl;have O:wr.cell? ⟨m,2,none⟩=some (.int .i64 99):=cr e rfl;have m3:wr.cell? ⟨m,3,none⟩=some (.string ⟨#[]⟩):=cr e rfl;have m4:wr.cell? ⟨m,4,none⟩=some (.int .i64 0):=cr e rfl;have m5:wr.cell? ⟨m,5,none⟩=some (.string b):=cr e rfl;obtain⟨u0,y0⟩:=y 0 S4;obtain⟨u1,y1⟩:=y 1 S4;obtain⟨u2,y2⟩:=y 2 S4;obtain⟨u3,y3⟩:=y 3 S4;obtain⟨u4,y4⟩:=y 4 S4;obtain⟨u5,y5⟩:=y 5 S4;rw[aR]at y0;have E:L1 2 D B P Q vN N M H (.slice (some ⟨g,0,none⟩) n C) n xs (i+1) ((((((wr.setCell ⟨g,i*6,none⟩ (str (gp (N+1)))).setCell ⟨g,i*6+1,none⟩ (str (gp (N+1)))).setCell ⟨g,i*6+2,none⟩ (.int .i64 99)).setCell ⟨g,i*6+3,none⟩ (.string ⟨#[]⟩)).setCell ⟨g,i*6+4,none⟩ (.int .i64 0)).setCell ⟨g,i*6+5,none⟩ (str (gp (N+1)))):=E;rw[HX.Z]at E;have bd:=bZ E;clear E y e;go_wp2;refine⟨⟨i+1,by go_num,by omega,bd⟩,?_⟩;simp[intOf];omega
  have bj:¬(i:Int)<(n:Int):=R5;obtain rfl:i=n:=R5;have ao:=bZ (G.Z.nm p.Z.2.2.1 p.Z.2.1.1);clear G H1 e;go_wp2
  go_loopw [6,7] (λgv z wr=>∃j:Nat,z=.int .i64 (j:Int)/\j<=3/\(∃o c,gv=.slice o (i+j) c)/\Hid (∃bt bq H',Nm 2 D B P Q N M H (.slice F i C) (i+j) j gv bt bq H' wr)) (λ_ z _=>3-(intOf z).toNat)
  case atStart=>exact⟨0,rfl,ar _,⟨_,_,rfl⟩,bZ ⟨_,_,_,ao.Z⟩⟩
  case round =>
   clear ao;obtain⟨j,rfl,hj,⟨og,X,rfl⟩,HM⟩:=hrel;obtain⟨bF,bB,H2,hM⟩:=HM.Z;obtain⟨oN,O,cN,xN,bz,bD,c2,c3,a6,a5⟩:=hM.qp R5 (c:=5) (t:=163) rfl rfl;have ab:=a9.Z 2;have bv:8<=wr.1.size:=UU;have ap:=bZ a5;have av:=bZ a6;clear hM a5 a6 HM;by_cases bx:j<3
   ·have bk:(j:Int)<3:=R5
    go_upto_region 10 with fail
    go_cut []from 32 to 54 (λwx=>Hid (∃a8 a7 H3,Nm 2 D B P Q N M H (.slice F i C) (i+j) (j+1) (.slice og (i+j) X) a8 a7 H3 wx))
    case first =>
     go_region_law (refine fV rfl (.tmp 40) (.tmp 47) 89 rfl 163 _ 2 32 underlying89 Og sQ S4 (.slice oN O cN) _ xN rfl (VY (w:=wr.drewN _) av.Z _) ⟨wr.1.size,0,none⟩ 1 [.slice og (i+j) X,.int .i64 ((N:Int)+1)] rfl rfl (jQ _ _ _ _) T0 R5 Th Tc ?_;intro Y V w3 ho aa ad;obtain⟨q1,⟨v0,br⟩,a2,bo⟩:=ap.Z _ w3 Y V (lU _ _ _) ho aa ad;have U:=bZ q1)
     all_goals
      go_wp2
      go_meet
      case rel=>exact U
    case rest =>
     generalize wc=r at *;obtain⟨a8,a7,H3,J⟩:=hcut.Z;have bg:8<=r.1.size:=by have:=J.mK.size;have:=S.Z.size;have:=p.Z.2.2.2;omega
     have e:=am.Z r J.mK;have bA:=cj e;have m0:r.cell? ⟨m,0,none⟩=some (.string b):=cr e rfl;have m1:r.cell? ⟨m,1,none⟩=some (.string b):=cr e rfl;have O:r.cell? ⟨m,2,none⟩=some (.int .i64 99):=cr e rfl;have m3:r.cell? ⟨m,3,none⟩=some (.string ⟨#[]⟩):=cr e rfl;have m4:r.cell? ⟨m,4,none⟩=some (.int .i64 0):=cr e rfl;have m5:r.cell? ⟨m,5,none⟩=some (.string b):=cr e rfl;obtain⟨g5,bu,w5,bp,bn,bh,bl⟩:=pF (cs:=#[.string b,.string b,.int .i64 99,.string ⟨#[]⟩,.int .i64 0,.string b]) J.sv R5 bg rfl (by rw[<-HX.Z];rfl) underlying55 sE rfl rfl S4;have bc:=bZ (J.more ((VM _ r).alloc (af _) _) bn bh bl);have bf:=bZ bp;clear e
     apply_assumption
     go_wp2_with(at_builtin;refine cW _ rfl _ _ _ _ rfl _ _ _ _ rfl rfl bf.Z ?_)
     go_roundw
     case rel=>exact⟨j+1,by go_num,by omega,⟨_,_,rfl⟩,bZ ⟨_,_,_,bc.Z⟩⟩
     case measure=>simp[intOf];omega
   have bk:¬(j:Int)<3:=R5;obtain rfl:j=3:=R5
   go_upto_region 12 with fail
   go_region_law (refine fV rfl (.tmp 59) (.tmp 66) 89 rfl 163 _ 2 32 underlying89 Og sQ S4 (.slice oN O cN) _ xN rfl (VY (w:=wr.drewN _) av.Z _) ⟨wr.1.size,0,none⟩ 1 [.slice og (i+3) X,.int .i64 ((N:Int)+1)] rfl rfl (jQ _ _ _ _) T0 R5 Th Tc ?_;intro Y V w3 ho aa ad;obtain⟨q1,⟨v0,br⟩,a2,bo⟩:=ap.Z _ w3 Y V (lU _ _ _) ho aa ad;have U:=bZ q1)
   all_goals
    go_wp2
    go_end0
    obtain⟨_,_,_,hq⟩:=U.Z;exact hq.done S.Z
end jU
end
