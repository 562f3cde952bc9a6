/- Out of U11. -/
import Derived.Test.YtpekpdimdelncaaGreatDoorP15
set_option maxRecDepth 100000
set_option maxHeartbeats 4000000
set_option linter.defProp false
namespace Go.Proofs.YtpekpdimdelncaaGreatDoor
open Go.RowKit Go.Shelf
section
open bY
open Tryz
def Ht(E)(ok:gh E)(n)(ih:gJ E n)(t it x xi F st w)(hlen:t.parts.length=2)(h0:ib n it.isSome (t.cG 0)=true)(h1:ib n true (t.cG 1)=true)(hx:dI w (n+1) t x)(hi:gI w it xi)(h:St E F st w):Calls prog 249 #[.pointer (some ⟨E.rb,0,none⟩),x,xi] w (PW (Ψ E F w (iX (ev E.N n (t.cG 0) it st) λv s=>match eK v with|.ok l=>jx (λu s=>ev E.N n (t.cG 1) (some u) s) l [] s|.error e=>(.error e,s)))):=by
 obtain⟨b,i,o,m,c,rfl,nd⟩:=hx.node;obtain⟨b0,q0,rfl,d0,bg⟩:=nd.cG 0 RM;have am:=ih (t.cG 0) it _ xi F st w h0 bg hi h;have hm:=nd.len;obtain⟨_,_,_,_,c4⟩:=nd.cells w (cK.refl w);have e0:=d0 w (cK.refl w);have bI:(0:Int)<(m:Int):=RM;have ND:=bZ nd;have R:=bZ am;have IH:=bZ ih;clear am nd d0 bg hx ih hi h;generalize ev E.N n (t.cG 0) it st=q at R ⊢;obtain⟨r,Y⟩:=q;generalize bf:E.rb=rb at R;have bn:=bZ bf;clear bf;cases r with
 |error e1 =>
  show Calls _ _ _ _ (PW (Ψ E F w (.error e1,Y)));go_enter func249,ntmps249;go_wp2_with fail;refine R.Z.mono ?_;rintro e w1⟨r,⟨O,aa⟩,⟨v,y,p,rfl,hv⟩|⟨c1,p,rfl,hc⟩⟩
  ·rw[O]at p;cases p
  rw[O]at p;cases p;exact⟨rfl,.error e1,⟨rfl,aa⟩,.inr ⟨e1,rfl,rfl,hc⟩⟩
 |ok v1 =>
  show Calls _ _ _ _ (PW (Ψ E F w (match eK v1 with|.ok l=>jx (λu s=>ev E.N n (t.cG 1) (some u) s) l [] Y|.error e=>(.error e,Y))));cases hl:eK v1 with
  |error c9 =>
   show Calls _ _ _ _ (PW (Ψ E F w (.error c9,Y)));have a2:c9=9:=by
    rcases v1 with⟨k|b|l⟩<;>cases hl<;>rfl
   subst a2;have Z:=bZ hl;clear hl;go_enter func249,ntmps249;go_wp2_with fail;refine R.Z.mono ?_;rintro e w1⟨r,⟨O,F1,aa,hF,U⟩,⟨v,y,p,rfl,hv⟩|⟨c1,p,rfl,hc⟩⟩
   ·rw[O]at p;cases p;have ao:∃t a,y=.iface t a/\(t=215\/t=219):=by
     rcases hv.fP with⟨i,rfl,rfl,_⟩|⟨b,rfl,rfl,_⟩|⟨m2,l2,s2,bl,bx,rfl,rfl,_⟩
     ·exact⟨_,_,rfl,.inr rfl⟩
     ·exact⟨_,_,rfl,.inl rfl⟩
     have:=Z.Z;cases this
    obtain⟨t1,a1,rfl,bC⟩:=ao;clear hv R;go_wp2_with fail;refine(k_ _ _ _ bC).mono ?_;rintro e w2⟨rfl,rfl⟩;exact⟨rfl,PW.pS ok aa hF U (PV.err (Uz _ _)) (λc' a0=>by cases a0;omega)⟩
   rw[O]at p;cases p
  |ok l =>
   show Calls _ _ _ _ (PW (Ψ E F w (jx (λu s=>ev E.N n (t.cG 1) (some u) s) l [] Y)));have Z:=bZ hl;clear hl;generalize K:jx (λu s=>ev E.N n (t.cG 1) (some u) s) l [] Y=fin;have a6:=bZ K;clear K;go_enter func249,ntmps249;go_wp2_with fail;refine R.Z.mono ?_;rintro e w1⟨r,⟨O,F1,aa,hF,U⟩,⟨v,y,p,rfl,hv⟩|⟨c1,p,rfl,hc⟩⟩
   ·rw[O]at p;cases p;have bu:∃s zs,y=.iface 248 s/\fX w1 s zs/\iW w1 2 l zs/\l.length<=12:=by
     rcases hv.fP with⟨i,rfl,rfl,_⟩|⟨b,rfl,rfl,_⟩|⟨m2,l2,s2,bl,bx,rfl,rfl,p,bt,a9,bD⟩
     ·have:=Z.Z;cases this
     ·have:=Z.Z;cases this
     have:=Z.Z;cases this;obtain rfl:m2=2:=RM;exact⟨s2,bl,rfl,p,⟨bt,bD⟩,a9⟩
    obtain⟨s1,zs,rfl,a4,a5,a9⟩:=bu;obtain⟨os,cs,rfl⟩:=a4.len;have bH:=a5.1;obtain⟨bj,qj,bq,dj,bh⟩:=ND.Z.cG 1 RM;cases bq;have ak:=bZ (λ(w':QV) (hk:cK w w')=>(ND.Z.cells w' hk).2.2.2.2);have DJ:=bZ dj;have ad:=bZ bh;have ab:=bZ a4;have ai:=bZ a5;have bv:=aa.lt;have a7:=bZ (Lp.start aa);have bJ:(1:Int)<(m:Int):=RM;clear hv R a4 a5 dj bh ND Z;go_wp2_with(go_at_call 278;refine(px _ _ _ _).mono ?_;rintro e w2 ⟨rfl,rfl⟩)
    go_loopw [7,21] (λa idx wr=>∃(k:Nat) (B:List V) (ys:List Xa) (F':Nat->Prop) (X:Nat×E.σ),k<=zs.length/\idx=.int .i64 k/\B.length<=k/\Hid (Lp E F1 w2 a ys B F' X wr)/\Hid (jx (λu s=>ev E.N n (t.cG 1) (some u) s) (l.drop k) B X=fin)) (λ_ idx _=>zs.length-(intOf idx).toNat)
    case atStart=>exact⟨0,[],[],F1,Y,au _,rfl,af _,a7,a6⟩
    case round =>
     clear a7 a6;obtain⟨k,B,ys,F',X,hk,rfl,bF,LP,HR⟩:=hrel;have bK:B.length=ys.length:=LP.Z.qd.1;have a3:=(U.trans LP.Z.fm).keeps;by_cases bw:k<zs.length
     ·obtain⟨u,hu⟩:∃u,l[k]?=some u:=⟨_,aq RM⟩;obtain⟨y,hy⟩:∃y,zs[k]?=some y:=⟨_,aq bw⟩;obtain⟨bz,rfl,hc⟩:=(ab.Z.keeps LP.Z.fm.keeps).cell hy;have hval:=((ai.Z.2 k u y hu hy).keeps LP.Z.fm.keeps).up;obtain⟨ty,ay,rfl⟩:=hval.one;have ek:=ak.Z _ a3;have ej:=DJ.Z _ a3;have hw:=IH.Z (t.cG 1) (some u) _ _ F' X _ h1 (ad.Z.keeps a3) (.inr ⟨u,rfl,hval⟩) LP.Z.st;have T:=HR.Z;rw[drop_cons hu]at T;have J:iX (ev E.N n (t.cG 1) (some u) X) (λv s=>match fg v with|.ok i=>if i=0 then jx (λu s=>ev E.N n (t.cG 1) (some u) s) (l.drop (k+1)) B s else jx (λu s=>ev E.N n (t.cG 1) (some u) s) (l.drop (k+1)) (B++[u]) s|.error e=>(.error e,s))=fin:=T;rw[bn.Z]at hw;generalize ev E.N n (t.cG 1) (some u) X=q at hw J;obtain⟨r,G⟩:=q;have S:=bZ hw;have HU:=bZ hval;have bG:(k:Int)<(zs.length:Int):=RM;clear hw T HR hval;cases r with
      |error e1 =>
       have aC:fin=(.error e1,G):=J.symm;subst aC;clear J ak DJ ad IH ab ai;go_wp2_with fail;refine S.Z.mono ?_;rintro e w3 hp;have K:=PW.after hF U (PW.after LP.Z.sH LP.Z.fm hp);obtain⟨r3,⟨I,_⟩,⟨v3,y3,j,_⟩|⟨c3,j,rfl,_⟩⟩:=hp
       ·rw[I]at j;cases j
       rw[I]at j;cases j;exact⟨rfl,K⟩
      |ok v2 =>
       cases C:fg v2 with
       |error c9 =>
        have a2:c9=9:=by
         rcases v2 with⟨k|b|l⟩<;>cases C<;>rfl
        subst a2;have aC:fin=(.error 9,G):=by
         have D:(match fg v2 with|.ok i=>if i=0 then jx (λu s=>ev E.N n (t.cG 1) (some u) s) (l.drop (k+1)) B G else jx (λu s=>ev E.N n (t.cG 1) (some u) s) (l.drop (k+1)) (B++[u]) G|.error e=>(.error e,G))=fin:=J;rw[C]at D;exact D.symm
        subst aC;have ap:=bZ C;clear J ak DJ ad IH ab ai C;go_wp2_with fail;refine S.Z.mono ?_;rintro e w3⟨r3,⟨I,F3,P,N,L⟩,⟨v3,y3,j,rfl,Q⟩|⟨c3,j,rfl,_⟩⟩
        ·rw[I]at j;cases j;rcases Q.mX with⟨i',rfl,_⟩|⟨_,t',a',rfl,ht⟩
         ·have:=ap.Z;cases this
         have M:=bZ (LP.Z.worked P N L);clear Q P N L LP S;go_wp2_with fail;refine(gf _ _ _ ht).mono ?_;rintro e w4⟨rfl,rfl⟩;exact⟨rfl,PW.after hF U (PW.pS ok M.Z.st M.Z.sH M.Z.fm (PV.err (Uz _ _)) (λc' a0=>by cases a0;omega))⟩
        rw[I]at j;cases j
       |ok z =>
        have D:(if z=0 then jx (λu s=>ev E.N n (t.cG 1) (some u) s) (l.drop (k+1)) B G else jx (λu s=>ev E.N n (t.cG 1) (some u) s) (l.drop (k+1)) (B++[u]) G)=fin:=by
         have D:(match fg v2 with|.ok i=>if i=0 then jx (λu s=>ev E.N n (t.cG 1) (some u) s) (l.drop (k+1)) B G else jx (λu s=>ev E.N n (t.cG 1) (some u) s) (l.drop (k+1)) (B++[u]) G|.error e=>(.error e,G))=fin:=J;rw[C]at D;exact D
        have ap:=bZ C;clear J ak DJ ad IH ab ai C;by_cases hz:z=0
        ·rw[ag hz]at D;subst hz;have av:=bZ D;clear D;go_wp2_with fail;refine S.Z.mono ?_;rintro e w3⟨r3,⟨I,F3,P,N,L⟩,⟨v3,y3,j,rfl,Q⟩|⟨c3,j,rfl,_⟩⟩
         ·rw[I]at j;cases j;have C:fg v2=.ok 0:=ap.Z;rcases Q.mX with⟨i',rfl,rfl,_⟩|⟨ao,_⟩
          ·cases C;have M:=bZ (LP.Z.worked P N L);clear Q P N L LP S;go_wp2_with(go_at_call 280;refine(eD _ _).mono ?_;rintro e w4 ⟨rfl,rfl⟩);exact⟨⟨k+1,B,_,F3,G,by omega,by go_num,by omega,M,av⟩,by simp[intOf];omega⟩
          exfalso;rcases v2 with⟨k|b|l⟩
          ·exact ao k rfl
          ·cases C
          cases C
         rw[I]at j;cases j
        rw[ae hz]at D;have av:=bZ D;have bL:(z != 0)=true:=by rw[aZ];exact hz
        clear D hz;go_wp2_with fail;refine S.Z.mono ?_;rintro e w3⟨r3,⟨I,F3,P,N,L⟩,⟨v3,y3,j,rfl,Q⟩|⟨c3,j,rfl,_⟩⟩
        ·rw[I]at j;cases j;have C:fg v2=.ok z:=ap.Z;rcases Q.mX with⟨i',rfl,rfl,_⟩|⟨ao,_⟩
         ·cases C;have M:=bZ (LP.Z.worked P N L);have bd:Xb w3 (w3.alloc (Obj.cells #[.iface ty ay] 111)):=(Uz _ w3).alloc (af _) _;have ax:=bZ (M.Z.below ok bd);have bo:=bZ ((HU.Z.keeps L.keeps).keeps (cK.below bd));have br:(w3.alloc (Obj.cells #[.iface ty ay] 111)).cell? ((⟨w3.1.size,0,none⟩:Addr).add 0)=some (.iface ty ay):=cell_one_new _ _ _ 0 _ rfl;have bB:w2.1.size<=(w3.alloc (Obj.cells #[.iface ty ay] 111)).1.size:=ax.Z.fm.size;clear Q P N L LP S M HU;go_wp2_with(first|(go_at_call 280;refine(eD _ _).mono ?_;rintro e w4 ⟨rfl,bk⟩;have bE:=bk.symm;subst bE;clear bk)|(at_builtin;refine lX rfl _ _ 247 underlying247 rfl w2.1.size _ ys rfl ax.Z.mB ⟨w3.1.size,0,none⟩ _ (.iface ty ay) rfl br rfl RM bB ?_;intro v' w5 g2 g3 g4 g5));have bp:=ax.Z.append ok bv bo.Z g2 g3 g4 g5;exact⟨⟨k+1,B++[u],_,F3,G,by omega,by go_num,by simp;omega,bp,av⟩,by simp[intOf];omega⟩
         exfalso;rcases v2 with⟨k|b|l⟩
         ·exact ao k rfl
         ·cases C
         cases C
        rw[I]at j;cases j
     have T:=HR.Z;rw[aQ RM]at T;have J:fin=(dX B,X):=T.symm;have am:=mY B _ ys _ LP.Z.mB.row LP.Z.qd RM;have HL:=bZ (am.mono λe w2 bA=>PW.Hq ok LP.Z bA);obtain⟨oa,ca,rfl⟩:=LP.Z.mB.row.len;clear am T HR ak DJ ad IH ab ai;generalize dX B=res at HL J;subst J;go_wp2_with fail;refine HL.Z.mono ?_;rintro e w4⟨a8,bc⟩;cases res with
     |error c =>
      obtain⟨rfl,K⟩:=bc c rfl;exact⟨rfl,PW.after hF U K⟩
     |ok v =>
      obtain⟨o2,n2,c2,rfl,K⟩:=a8 v rfl;have bm:=bZ (PW.after hF U K);clear K a8 bc HL LP;go_wp2_with fail;go_ret;exact bm.Z
   rw[O]at p;cases p
end
