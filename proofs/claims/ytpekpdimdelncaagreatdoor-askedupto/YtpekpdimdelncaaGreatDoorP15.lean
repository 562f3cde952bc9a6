/- Out of U6. -/
import Derived.Test.YtpekpdimdelncaaGreatDoorP13
import Derived.Deep.RegionHeld3
set_option linter.unusedSimpArgs false
set_option linter.unusedVariables false
set_option maxRecDepth 100000
set_option maxHeartbeats 8000000
set_option linter.defProp false
namespace Go.Proofs.YtpekpdimdelncaaGreatDoor
open Go.RowKit Go.Shelf
section
open bY
open Tryz
def wD(E)(ok:gh E)(n)(ih:gJ E n)(t it x xi F st w)(C:t.cq=7)(hlen:t.parts.length=1)(h0:∀j,j<t.parts.length->ib n it.isSome (t.cG j)=true)(hx:dI w (n+1) t x)(hi:gI w it xi)(h:St E F st w)(ab:E.kO st.2+st.1<400):Calls prog 251 #[.pointer (some ⟨E.rb,0,none⟩),x,xi] w (PW (Ψ E F w (fQ E.N (λu s=>ev E.N n u it s) t st))):=by
 obtain⟨b,i,o,m,c,rfl,nd⟩:=hx.node;obtain⟨b0,q0,rfl,d0,aC⟩:=nd.cG 0 RM;have ai:=ih (t.cG 0) it _ xi F st w (h0 0 RM) aC hi h;have S:=Rz (Nb E.N E.kO ok.Nc n (t.cG 0) it st) ab;have hm:=nd.len;have am:fQ E.N (λu s=>ev E.N n u it s) t st=iX (ev E.N n (t.cG 0) it st) λv s=>match bY.keyOf v with|.ok k=>pR E.N k s|.error e=>(.error e,s):=by
  unfold fQ;rw[C];rfl
 rw[am];obtain⟨c0,_,_,_,c4⟩:=nd.cells w (cK.refl w);have e0:=d0 w (cK.refl w);have O:=hi.form;rw[C]at c0;have Q:=bZ nd;have D:=bZ ai;generalize ev E.N n (t.cG 0) it st=q at D S ⊢;obtain⟨r,B⟩:=q;have X:=bZ S;generalize av:E.rb=rb at D;have aa:=bZ av;cases r with
 |error e1 =>
  rcases O with rfl|⟨tx,R,rfl⟩
  all_goals
   go_enter func251,ntmps251;go_wp2_with fail;refine D.Z.mono ?_;rintro e w1⟨r,⟨p,z⟩,⟨v,y,l,rfl,hv⟩|⟨c1,l,rfl,hc⟩⟩
   ·rw[p]at l;cases l
   rw[p]at l;cases l;exact⟨rfl,.error e1,⟨rfl,z⟩,.inr ⟨e1,rfl,rfl,hc⟩⟩
 |ok v1 =>
  cases L:bY.keyOf v1 with
  |ok k =>
   show Calls _ _ _ _ (PW (Ψ E F w (match bY.keyOf v1 with|.ok k=>pR E.N k B|.error e=>(.error e,B))));rw[L];show Calls _ _ _ _ (PW (Ψ E F w (pR E.N k B)));have I:=bZ L;rcases O with rfl|⟨tx,R,rfl⟩
   all_goals
    go_enter func251,ntmps251;go_wp2_with fail;refine D.Z.mono ?_;rintro e w1⟨r,⟨p,M,z,hF,G⟩,⟨v,y,l,rfl,hv⟩|⟨c1,l,rfl,hc⟩⟩
    ·rw[p]at l;cases l;obtain⟨P,k1,_,_,k4⟩:=Q.Z.cells w1 G.keeps;rw[C]at P;obtain⟨t1,a1,rfl⟩:=hv.one;have J:=bZ hv;have N:=bZ (xj w1 z.g J.Z);go_wp2_with fail;refine N.Z.mono ?_;rintro e w2⟨K,ap,_⟩;obtain rfl:=ap k I.Z;have ay:=z.below ok K;have ao:=G.trans (Fm.below K (ah ok.gj (aE z.lt)));have U:=xl E ok M B ⟨k.toArray⟩ w2 ay (by have:=E5 J.Z I.Z;show k.toArray.size<=200;simpa using this) X.Z;rw[aa.Z]at U;have HN:=bZ U;have Y:=bZ (λ(e:Ending) (w3:QV) (h:PW (Ψ E M w2 (pR E.N k B)) e w3)=>PW.after (F:=F) (w:=w) (λk C=>hF k C) ao h);go_wp2_with fail;refine HN.Z.mono ?_;rintro e w3 V;have T:=Y.Z e w3 V;obtain⟨r3,_,⟨v3,y3,_,rfl,a0⟩|⟨c3,_,rfl,_⟩⟩:=V
     ·obtain⟨t3,a3,rfl⟩:=a0.one;have Z:=bZ T;go_wp2_with fail;go_ret;exact Z.Z
     exact⟨rfl,T⟩
    rw[p]at l;cases l
  |error c =>
   show Calls _ _ _ _ (PW (Ψ E F w (match bY.keyOf v1 with|.ok k=>pR E.N k B|.error e=>(.error e,B))));rw[L];show Calls _ _ _ _ (PW (Ψ E F w (.error c,B)));have I:=bZ L;rcases O with rfl|⟨tx,R,rfl⟩
   all_goals
    go_enter func251,ntmps251;go_wp2_with fail;refine D.Z.mono ?_;rintro e w1⟨r,⟨p,M,z,hF,G⟩,⟨v,y,l,rfl,hv⟩|⟨c1,l,rfl,hc⟩⟩
    ·rw[p]at l;cases l;obtain⟨P,k1,_,_,k4⟩:=Q.Z.cells w1 G.keeps;rw[C]at P;obtain⟨t1,a1,rfl⟩:=hv.one;have J:=bZ hv;have N:=bZ (xj w1 z.g J.Z);go_wp2_with fail;refine N.Z.mono ?_;rintro e w2⟨K,_,ak⟩;obtain⟨rfl,a2⟩:=ak c I.Z;exact⟨rfl,PW.pS ok z hF G (PV.err K) (λc' ad=>by cases ad;omega)⟩
    rw[p]at l;cases l
def yI(E)(ok:gh E)(n)(ih:gJ E n)(t it x xi F st w)(P:t.cq=9)(hlen:t.parts.length=3)(h0:∀j,j<t.parts.length->ib n it.isSome (t.cG j)=true)(hx:dI w (n+1) t x)(hi:gI w it xi)(h:St E F st w):Calls prog 251 #[.pointer (some ⟨E.rb,0,none⟩),x,xi] w (PW (Ψ E F w (fQ E.N (λu s=>ev E.N n u it s) t st))):=by
 obtain⟨b,i,o,m,c,rfl,nd⟩:=hx.node;obtain⟨b0,q0,rfl,d0,a0⟩:=nd.cG 0 RM;have ap:=ih (t.cG 0) it _ xi F st w (h0 0 RM) a0 hi h;have hm:=nd.len;have av:fQ E.N (λu s=>ev E.N n u it s) t st=iX (ev E.N n (t.cG 0) it st) λv s=>match fg v with|.ok i=>if i=0 then ev E.N n (t.cG 2) it s else ev E.N n (t.cG 1) it s|.error e=>(.error e,s):=by
  unfold fQ;rw[P];rfl
 rw[av];obtain⟨c0,_,_,_,c4⟩:=nd.cells w (cK.refl w);have e0:=d0 w (cK.refl w);have U:=hi.form;rw[P]at c0;have N:=bZ nd;have K:=bZ ap;have IH:=bZ ih;have HI:=bZ hi;generalize ev E.N n (t.cG 0) it st=q at K ⊢;obtain⟨r,C⟩:=q;generalize aC:E.rb=rb at K;have ak:=bZ aC;cases r with
 |error e1 =>
  rcases U with rfl|⟨tx,Z,rfl⟩
  all_goals
   go_enter func251,ntmps251;go_wp2_with fail;refine K.Z.mono ?_;rintro e w1⟨r,⟨G,I⟩,⟨v,y,p,rfl,hv⟩|⟨c1,p,rfl,hc⟩⟩
   ·rw[G]at p;cases p
   rw[G]at p;cases p;exact⟨rfl,.error e1,⟨rfl,I⟩,.inr ⟨e1,rfl,rfl,hc⟩⟩
 |ok v1 =>
  cases B:fg v1 with
  |ok z =>
   show Calls _ _ _ _ (PW (Ψ E F w (match fg v1 with|.ok i=>if i=0 then ev E.N n (t.cG 2) it C else ev E.N n (t.cG 1) it C|.error e=>(.error e,C))));rw[B];have T:=bZ B;by_cases hz:z=0
   ·show Calls _ _ _ _ (PW (Ψ E F w (if z=0 then ev E.N n (t.cG 2) it C else ev E.N n (t.cG 1) it C)));rw[ag hz];subst hz;rcases U with rfl|⟨tx,Z,rfl⟩
    all_goals
     go_enter func251,ntmps251;go_wp2_with fail;refine K.Z.mono ?_;rintro e w1⟨r,⟨G,J,I,hF,D⟩,⟨v,y,p,rfl,hv⟩|⟨c1,p,rfl,hc⟩⟩
     ·rw[G]at p;cases p;obtain⟨S,k1,_,_,k4⟩:=N.Z.cells w1 D.keeps;rw[P]at S;obtain⟨t1,a1,rfl⟩:=hv.one;have M:=bZ hv;have B:fg v1=.ok 0:=T.Z;rcases M.Z.mX with⟨i',rfl,L,_⟩|⟨ab,_⟩
      ·cases B;cases L;obtain⟨bj,qj,aa,dj,ad⟩:=N.Z.cG 2 RM;cases aa;have ej:=dj w1 D.keeps;have R:=IH.Z (t.cG 2) it _ _ J C w1 (h0 2 RM) (ad.keeps D.keeps) (HI.Z.keeps D.keeps) I;rw[ak.Z]at R;have Y:=bZ R;have V:=bZ (λ(e:Ending) (w3:QV) (h:PW (Ψ E J w1 (ev E.N n (t.cG 2) it C)) e w3)=>PW.after (F:=F) (w:=w) hF D h);have ay:(2:Int)<(m:Int):=RM;go_wp2_with(go_at_call 280;refine(eD _ _).mono ?_;rintro e w2 ⟨rfl,rfl⟩);refine Y.Z.mono ?_;rintro e w3 Q;have O:=V.Z e w3 Q;obtain⟨r3,_,⟨v3,y3,_,rfl,ai⟩|⟨c3,_,rfl,_⟩⟩:=Q
       ·obtain⟨t3,a3,rfl⟩:=ai.one;have X:=bZ O;go_wp2_with fail;go_ret;exact X.Z
       exact⟨rfl,O⟩
      exfalso;rcases v1 with⟨k|b|l⟩
      ·exact ab k rfl
      ·cases B
      cases B
     rw[G]at p;cases p
   show Calls _ _ _ _ (PW (Ψ E F w (if z=0 then ev E.N n (t.cG 2) it C else ev E.N n (t.cG 1) it C)));rw[ae hz];have a2:(z != 0)=true:=by rw[aZ];exact hz
   rcases U with rfl|⟨tx,Z,rfl⟩
   all_goals
    go_enter func251,ntmps251;go_wp2_with fail;refine K.Z.mono ?_;rintro e w1⟨r,⟨G,J,I,hF,D⟩,⟨v,y,p,rfl,hv⟩|⟨c1,p,rfl,hc⟩⟩
    ·rw[G]at p;cases p;obtain⟨S,k1,_,_,k4⟩:=N.Z.cells w1 D.keeps;rw[P]at S;obtain⟨t1,a1,rfl⟩:=hv.one;have M:=bZ hv;have B:fg v1=.ok z:=T.Z;rcases M.Z.mX with⟨i',rfl,L,_⟩|⟨ab,_⟩
     ·cases B;cases L;obtain⟨bj,qj,aa,dj,ad⟩:=N.Z.cG 1 RM;cases aa;have ej:=dj w1 D.keeps;have R:=IH.Z (t.cG 1) it _ _ J C w1 (h0 1 RM) (ad.keeps D.keeps) (HI.Z.keeps D.keeps) I;rw[ak.Z]at R;have Y:=bZ R;have V:=bZ (λ(e:Ending) (w3:QV) (h:PW (Ψ E J w1 (ev E.N n (t.cG 1) it C)) e w3)=>PW.after (F:=F) (w:=w) hF D h);have ay:(1:Int)<(m:Int):=RM;go_wp2_with(go_at_call 280;refine(eD _ _).mono ?_;rintro e w2 ⟨rfl,rfl⟩);refine Y.Z.mono ?_;rintro e w3 Q;have O:=V.Z e w3 Q;obtain⟨r3,_,⟨v3,y3,_,rfl,ai⟩|⟨c3,_,rfl,_⟩⟩:=Q
      ·obtain⟨t3,a3,rfl⟩:=ai.one;have X:=bZ O;go_wp2_with fail;go_ret;exact X.Z
      exact⟨rfl,O⟩
     exfalso;rcases v1 with⟨k|b|l⟩
     ·exact ab k rfl
     ·cases B
     cases B
    rw[G]at p;cases p
  |error c =>
   show Calls _ _ _ _ (PW (Ψ E F w (match fg v1 with|.ok i=>if i=0 then ev E.N n (t.cG 2) it C else ev E.N n (t.cG 1) it C|.error e=>(.error e,C))));rw[B];have ao:c=9:=by
    rcases v1 with⟨k|b|l⟩<;>cases B<;>rfl
   subst ao;show Calls _ _ _ _ (PW (Ψ E F w (.error 9,C)));have T:=bZ B;rcases U with rfl|⟨tx,Z,rfl⟩
   all_goals
    go_enter func251,ntmps251;go_wp2_with fail;refine K.Z.mono ?_;rintro e w1⟨r,⟨G,J,I,hF,D⟩,⟨v,y,p,rfl,hv⟩|⟨c1,p,rfl,hc⟩⟩
    ·rw[G]at p;cases p;obtain⟨S,k1,_,_,k4⟩:=N.Z.cells w1 D.keeps;rw[P]at S;obtain⟨t1,a1,rfl⟩:=hv.one;have M:=bZ hv;have B:fg v1=.error 9:=T.Z;rcases M.Z.mX with⟨i',rfl,L,_⟩|⟨_,t',a',L,ht⟩
     ·cases B
     cases L;go_wp2_with fail;refine(gf _ _ _ ht).mono ?_;rintro e w2⟨rfl,rfl⟩;exact⟨rfl,PW.pS ok I hF D (PV.err (Uz _ _)) (λc' am=>by cases am;omega)⟩
    rw[G]at p;cases p
end
section
open bY
open Tryz
def lA(E)(ok:gh E)(n)(ih:gJ E n)(t it x xi F st w)(C:t.cq=1\/t.cq=13)(hlen:t.parts.length=2)(Y:∀j,j<t.parts.length->ib n it.isSome (t.cG j)=true)(a7:t.op=43\/t.op=45\/t.op=42\/t.op=47\/t.op=60\/t.op=61\/t.op=109\/t.op=120\/t.op=64)(hx:dI w (n+1) t x)(hi:gI w it xi)(h:St E F st w):Calls prog 251 #[.pointer (some ⟨E.rb,0,none⟩),x,xi] w (PW (Ψ E F w (fQ E.N (λu s=>ev E.N n u it s) t st))):=by
 rcases C with C|C
 all_goals
  obtain⟨b,i,o,m,c,rfl,nd⟩:=hx.node;obtain⟨b0,q0,rfl,d0,bf⟩:=nd.cG 0 RM;have a5:=ih (t.cG 0) it _ xi F st w (Y 0 RM) bf hi h;have hm:=nd.len;have a6:fQ E.N (λu s=>ev E.N n u it s) t st=iX (ev E.N n (t.cG 0) it st) λv s=>iX (ev E.N n (t.cG 1) it s) λu s=>(bY.make t.op v u,s):=by
   unfold fQ;rw[C];rfl
  rw[a6];obtain⟨c0,_,_,_,c4⟩:=nd.cells w (cK.refl w);have e0:=d0 w (cK.refl w);have bl:(0:Int)<(m:Int):=RM;have bh:=hi.form;rw[C]at c0;have G:=bZ nd;have M:=bZ a5;have IH:=bZ ih;have HI:=bZ hi;clear a5 a6 nd d0 bf hx ih hi;generalize ev E.N n (t.cG 0) it st=q at M ⊢;obtain⟨r,am⟩:=q;generalize bc:E.rb=rb at M;have ay:=bZ bc;clear bc;cases r with
  |error e1 =>
   rcases bh with rfl|⟨tx,ax,rfl⟩
   all_goals
    go_enter func251,ntmps251;go_wp2_with fail;refine M.Z.mono ?_;rintro e w1⟨r,⟨B,D⟩,⟨v,y,l,rfl,hv⟩|⟨c1,l,rfl,hc⟩⟩
    ·rw[B]at l;cases l
    rw[B]at l;cases l;exact⟨rfl,.error e1,⟨rfl,D⟩,.inr ⟨e1,rfl,rfl,hc⟩⟩
  |ok v1 =>
   show Calls _ _ _ _ (PW (Ψ E F w (iX (ev E.N n (t.cG 1) it am) λu s=>(bY.make t.op v1 u,s))));generalize a8:ev E.N n (t.cG 1) it am=q2;obtain⟨r2,ao⟩:=q2;have av:=bZ a8;clear a8;cases r2 with
   |error e2 =>
    show Calls _ _ _ _ (PW (Ψ E F w (.error e2,ao)));go_enter func251,ntmps251;go_wp2_with fail;refine M.Z.mono ?_;rintro e w1⟨r,⟨B,N,D,hF,J⟩,⟨v,y,l,rfl,hv⟩|⟨c1,l,rfl,hc⟩⟩
    ·rw[B]at l;cases l;obtain⟨k0,k1,_,_,k4⟩:=G.Z.cells w1 J.keeps;rw[C]at k0;obtain⟨t1,a1,rfl⟩:=hv.one;have HV:=bZ hv;clear M hv B;obtain⟨bj,qj,aa,P,U⟩:=G.Z.cG 1 RM;cases aa;have ej:=P w1 J.keeps;have L:Xb w1 w1.drew:=(Uz _ w1).drew;have T:=D.below ok L;have z:Fm E.base w w1.drew:=J.trans (Fm.below L (ah ok.gj (aE D.lt)));have Q:∀k,N k->F k\/w.1.size<=k:=hF;have K:=IH.Z (t.cG 1) it _ _ N am w1.drew (Y 1 RM) (U.keeps z.keeps) (HI.Z.keeps z.keeps) T;rw[ay.Z,av.Z]at K;have a9:(1:Int)<(m:Int):=RM;have X:=bZ (K.mono (R':=λe w3=>e=gE e2/\PW (Ψ E F w (.error e2,ao)) (gE e2) w3) (λe w3 hp=>by
      have R:=PW.after Q z hp;obtain⟨r3,⟨S,_⟩,⟨v3,y3,p,_⟩|⟨c3,p,rfl,_⟩⟩:=hp
      ·rw[S]at p;cases p
      ·rw[S]at p;cases p;exact⟨rfl,R⟩))
     clear K P U IH G HI Y T z Q;go_wp2_with fail
     go_region_with (go_at_call 203;refine X.Z.mono ?_;rintro e w3 ⟨rfl,R⟩;refine Ky (md:=.text) (a:=⟨#[],[]⟩) (w:=w) ⟨rfl,R⟩ ?_)
     all_goals trivial
    rw[B]at l;cases l
   |ok u2 =>
    show Calls _ _ _ _ (PW (Ψ E F w (bY.make t.op v1 u2,ao)));generalize bd:bY.make t.op v1 u2=res;have ap:=bZ bd;clear bd;cases res with
    |error c2 =>
     go_enter func251,ntmps251;go_wp2_with fail;refine M.Z.mono ?_;rintro e w1⟨r,⟨B,N,D,hF,J⟩,⟨v,y,l,rfl,hv⟩|⟨c1,l,rfl,hc⟩⟩
     ·rw[B]at l;cases l;obtain⟨k0,k1,_,_,k4⟩:=G.Z.cells w1 J.keeps;rw[C]at k0;obtain⟨t1,a1,rfl⟩:=hv.one;have HV:=bZ hv;clear M hv B;obtain⟨bj,qj,aa,P,U⟩:=G.Z.cG 1 RM;cases aa;have ej:=P w1 J.keeps;have L:Xb w1 w1.drew:=(Uz _ w1).drew;have T:=D.below ok L;have z:Fm E.base w w1.drew:=J.trans (Fm.below L (ah ok.gj (aE D.lt)));have Q:∀k,N k->F k\/w.1.size<=k:=hF;have K:=IH.Z (t.cG 1) it _ _ N am w1.drew (Y 1 RM) (U.keeps z.keeps) (HI.Z.keeps z.keeps) T;rw[ay.Z,av.Z]at K;have a9:(1:Int)<(m:Int):=RM;have X:=bZ (K.mono (R':=λe w3=>∃t2 I,e=.returned (.iface t2 I)/\w3.cell? ⟨b,1,none⟩=some (.int .u8 (t.op:Int))/\Hid (Calls prog 281 #[.int .u8 (t.op:Int),.iface t1 a1,.iface t2 I] w3 λe w4=>(∀c,(Except.error c2:Except Nat V)=.error c->e=gE c)/\(∀vv,(Except.error c2:Except Nat V)=.ok vv->∃t4 O,e=.returned (.iface t4 O))/\PW (Ψ E F w (.error c2,ao)) e w4)) (λe w3 hp=>by
       obtain⟨r3,⟨S,F3,a0,aC,ab⟩,⟨v3,y3,p,rfl,ak⟩|⟨c3,p,rfl,_⟩⟩:=hp
       ·rw[S]at p;cases p;obtain⟨t2,I,rfl⟩:=ak.one;have ad:=z.trans ab;refine⟨t2,I,rfl,(G.Z.cells w3 ad.keeps).2.1,?_⟩;have ai:=uh t.op a7 w3 (HV.Z.keeps ((Fm.below L (ah ok.gj (aE D.lt)):Fm E.base w1 w1.drew).trans ab).keeps) ak;rw[ap.Z]at ai;exact ai.mono λe w4 Z=>⟨Z.2.2,λvv a3=>by obtain⟨y,rfl,hy⟩:=Z.2.1 vv a3;obtain⟨t4,O,rfl⟩:=hy.one;exact⟨t4,O,rfl⟩,PW.pS ok a0 (λk C=>by
         rcases aC k C with h'|h'
         ·exact Q k h'
         ·exact .inr (ah z.size h')) ad Z (λc hc=>uB (ap.Z.trans hc))⟩
       ·rw[S]at p;cases p))
      clear K P U IH G HI Y T z Q;go_wp2_with fail
      go_region_with (first|(go_at_call 203;refine X.Z.mono ?_;clear X;rintro e w3 ⟨t2,I,rfl,bk,HM⟩)|(go_at_call 281;refine HM.Z.mono ?_;rintro e w4 ⟨he,_,R⟩;obtain rfl:=he _ rfl;refine Ky (md:=.text) (a:=⟨#[],[]⟩) (w:=w) ⟨rfl,R⟩ ?_))
      all_goals trivial
     rw[B]at l;cases l
    |ok v2 =>
     go_enter func251,ntmps251;go_wp2_with fail;refine M.Z.mono ?_;rintro e w1⟨r,⟨B,N,D,hF,J⟩,⟨v,y,l,rfl,hv⟩|⟨c1,l,rfl,hc⟩⟩
     ·rw[B]at l;cases l;obtain⟨k0,k1,_,_,k4⟩:=G.Z.cells w1 J.keeps;rw[C]at k0;obtain⟨t1,a1,rfl⟩:=hv.one;have HV:=bZ hv;clear M hv B;obtain⟨bj,qj,aa,P,U⟩:=G.Z.cG 1 RM;cases aa;have ej:=P w1 J.keeps;have L:Xb w1 w1.drew:=(Uz _ w1).drew;have T:=D.below ok L;have z:Fm E.base w w1.drew:=J.trans (Fm.below L (ah ok.gj (aE D.lt)));have Q:∀k,N k->F k\/w.1.size<=k:=hF;have K:=IH.Z (t.cG 1) it _ _ N am w1.drew (Y 1 RM) (U.keeps z.keeps) (HI.Z.keeps z.keeps) T;rw[ay.Z,av.Z]at K;have a9:(1:Int)<(m:Int):=RM;have X:=bZ (K.mono (R':=λe w3=>∃t2 I,e=.returned (.iface t2 I)/\w3.cell? ⟨b,1,none⟩=some (.int .u8 (t.op:Int))/\Hid (Calls prog 281 #[.int .u8 (t.op:Int),.iface t1 a1,.iface t2 I] w3 λe w4=>(∀c,(Except.ok v2:Except Nat V)=.error c->e=gE c)/\(∀vv,(Except.ok v2:Except Nat V)=.ok vv->∃t4 O,e=.returned (.iface t4 O))/\PW (Ψ E F w (.ok v2,ao)) e w4)) (λe w3 hp=>by
       obtain⟨r3,⟨S,F3,a0,aC,ab⟩,⟨v3,y3,p,rfl,ak⟩|⟨c3,p,rfl,_⟩⟩:=hp
       ·rw[S]at p;cases p;obtain⟨t2,I,rfl⟩:=ak.one;have ad:=z.trans ab;refine⟨t2,I,rfl,(G.Z.cells w3 ad.keeps).2.1,?_⟩;have ai:=uh t.op a7 w3 (HV.Z.keeps ((Fm.below L (ah ok.gj (aE D.lt)):Fm E.base w1 w1.drew).trans ab).keeps) ak;rw[ap.Z]at ai;exact ai.mono λe w4 Z=>⟨Z.2.2,λvv a3=>by obtain⟨y,rfl,hy⟩:=Z.2.1 vv a3;obtain⟨t4,O,rfl⟩:=hy.one;exact⟨t4,O,rfl⟩,PW.pS ok a0 (λk C=>by
         rcases aC k C with h'|h'
         ·exact Q k h'
         ·exact .inr (ah z.size h')) ad Z (λc hc=>uB (ap.Z.trans hc))⟩
       ·rw[S]at p;cases p))
      clear K P U IH G HI Y T z Q;go_wp2_with fail
      go_region_with (first|(go_at_call 203;refine X.Z.mono ?_;clear X;rintro e w3 ⟨t2,I,rfl,bk,HM⟩)|(go_at_call 281;refine HM.Z.mono ?_;rintro e w4 ⟨_,ho,R⟩;obtain⟨t4,O,rfl⟩:=ho _ rfl;have bg:=bZ R;clear R ho HM))
      all_goals go_wp2_with fail
      all_goals go_ret
      all_goals exact bg.Z
     rw[B]at l;cases l
end
section
open Tryz
variable{v:Xa}{ys:List Xa}
def nf(w:QV)(j:Nat)(v:Xa)(ys:List Xa):Prop :=(v=.slice none 0 0/\ys=[]) \/∃(g b:Nat) (e:Array Xa),v=.slice (some ⟨g,0,none⟩) ys.length b/\j<=g/\w.1[g]?=some (.cells e 111 (0,0))/\ys.length<=b/\b<=maxLen/\e.size=b/\e.toList=ys++List.replicate (b-ys.length) .nilIface
def nf.row{w:QV}{b:Nat}(h:nf w b v ys):fX w v ys:=by
 rcases h with h|⟨g,e,j,h1,h2,l,m,p,r,n⟩
 ·exact .inl h
 refine .inr ⟨g,e,j,(0,0),h1,m,l,by omega,λi hi=>?_⟩;rw[<-Rd,n,aU hi]
def nf.own{w:QV}{b:Nat}(h:nf w b v ys):w.ownsRow b 111 1 v ys.length ys:=by
 rcases h with⟨rfl,rfl⟩|⟨g,e,j,h1,h2,l,m,n,r,p⟩
 ·exact⟨rfl,.inl ⟨rfl,rfl⟩⟩
 exact⟨by simp,.inr ⟨g,e,j,h1,h2,l,m,n,by omega,by rw[p,Qd,QT]⟩⟩
def nf.same{w w':QV}{b:Nat}(h:nf w b v ys)(n:cK w w'):nf w' b v ys:=by
 rcases h with h|⟨g,e,j,h1,h2,l,m⟩
 ·exact .inl h
 exact .inr ⟨g,e,j,h1,h2,n _ _ _ _ l (.inl rfl),m⟩
def not_nil{w:QV}{n:Nat}{v:bY.V}:¬cT w n v .nilIface:=λh=>by
 obtain⟨t,a,h⟩:=h.one;cases h
def cT.mB{w w':QV}{g:Nat}{ys:List Xa}{p j:Array Xa}{k:Nat}(J:w.grownBy w' (some g))(h1:w.1[g]?=some (.cells p 111 (0,0)))(h2:p.toList=ys++List.replicate k .nilIface)
  (G:w'.1[g]?=some (.cells j 111 (0,0))) (O:p.size<=j.size) (I:∀i,i<ys.length->j[i]?=ys[i]?):∀{n:Nat} {v:bY.V} {x:Xa},cT w n v x->cT w' n v x:=by
 intro n
 induction n with
 |zero=>intro v x h;exact h
 |succ n M =>
  intro v x h;rcases h with h|⟨l,s,zs,e1,e2,r,hl,F,hv⟩
  ·exact .inl h
  refine .inr ⟨l,s,zs,e1,e2,?_,hl,F,λi u y hu hy=>M (hv i u y hu hy)⟩;rcases r with r|⟨b,B,cs,fz,D,E,m,N,z⟩
  ·exact .inl r
  by_cases hb:b=g
  ·subst hb;rw[h1]at m;cases m;have P:zs.length<=ys.length:=by
    rcases Qh _ _ with C|K
    ·exfalso;obtain⟨y,hy⟩:∃y,zs[ys.length]?=some y:=⟨_,aq C⟩;obtain⟨u,hu⟩:∃u,l[ys.length]?=some u:=⟨_,aq RM⟩;have hc:=z _ C;rw[<-Rd,h2,aY (af _),hy,Nat.sub_self]at hc;have L:y=.nilIface:=by
      have:=aL hc;exact(List.mem_replicate.1 this).2
     subst L;exact not_nil (hv _ _ _ hu hy)
    exact K
   refine .inr ⟨b,B,j,(0,0),D,E,G,by omega,λi hi=>?_⟩;rw[I i RM,<-z i hi,<-Rd,h2,aU RM]
  exact .inr ⟨b,B,cs,fz,D,E,(J.block b (cj m) (λe=>hb Sv)).trans m,N,z⟩
def Af{w:QV}(t ty)(G:prog.underlying t=some (.slice 111))(z v ys)(h:nf w z v ys)(m c y)(hy:w.cell? (m.add 0)=some y)(h1:y.oneCell'=true)(hn:ys.length<=1000)(Y:z<=w.1.size):∃v' w',(Builtin.append_ #[t,t] ty #[v,.slice (some m) 1 c]).run prog w=.ok v' w'/\nf w' z v' (ys++[y])/\w.grownBy w' v.ownBlock/\(v'.ownBlock=v.ownBlock\/v'.ownBlock=some w.1.size)/\(∀n u x,cT w n u x->cT w' n u x):=by
 obtain⟨I,D,R,p,S⟩:=UJ tt;have F:∀j u,[y][j]?=some u->w.cell? (m.add j)=some u:=λj u hj=>by
  cases j with
  |zero=>cases hj;exact hy
  |succ j=>simp at hj
 have ab:∀u∈[y],u.oneCell'=true:=λu hu=>by rw[P1]at hu;subst hu;exact h1
 have am:∀k,(Builtin.zeroCells (Value.nilIface).cells k).toList=List.replicate k .nilIface:=λk=>by
  apply Rf;intro j;by_cases hj:j<k
  ·simp[Builtin.zeroCells,Value.cells,hj,Nat.mod_one]
  simp[Builtin.zeroCells,Value.cells,hj]
 have U:∀old,nf (w.drew.alloc (.cells (ys.toArray++[y].toArray++Builtin.zeroCells (Value.nilIface).cells (grownCap w (ys.length+1) old 111-(ys.length+1))) 111)) z (.slice (some ⟨w.1.size,0,none⟩) (ys.length+1) (grownCap w (ys.length+1) old 111)) (ys++[y]):=λold=>by
  have L:=grownCap_ge w (ys.length+1) old 111;have N:=UU w (ys.length+1) old 111 R6;generalize grownCap w _ old 111=X at L N;refine .inr ⟨w.1.size,X,_,by simp,Y,heap_alloc_new w.drew _,by simpa using L,N,?_,?_⟩
  ·simp[size_zeroCells,Value.cells];omega
  simp[am]
 have T:∀o row,w.grownBy (w.drew.alloc o) row:=λo row=>⟨rfl,rfl,rfl,by simp,λk E _=>heap_alloc_old w.drew _ E⟩;have V:∀o n u x,cT w n u x->cT _ n u x:=λo n u x hx=>hx.keeps (cK.below (((Uz _ w).drew).alloc (af _) o));rcases h with⟨rfl,rfl⟩|⟨g,b,r,rfl,J,C,aa,K,hcs,B⟩
 ·have l:=run_append_nil (P:=prog) w t ty 111 I .nilIface G D R m 1 c [y] (by rw[p];rfl) F RM RM (by rw[S];omega);have O:=U 0;simp only[P6,aI,Qv]at O ⊢;refine⟨_,_,l,?_,T _ _,.inr rfl,V _⟩;simpa using O
 by_cases ai:ys.length+1<=b
 ·have l:=UN (P:=prog) w t ty 111 I G D g _ b r C m 1 c [y] (by rw[p];rfl) F ab ai (by rw[p];simp;omega);rw[p,Qd]at l;have ak:r.toList.take ys.length=ys:=by rw[B,QT]
  have Z:r.toList.drop (ys.length+[y].length)=List.replicate (b-(ys.length+1)) .nilIface:=by
   rw[B,List.drop_append];simp[aQ];omega
  rw[ak,Z]at l;have Q:=setRow_heap w g r (ys++[y]++List.replicate (b-(ys.length+1)) Value.nilIface).toArray 111 (0,0) C;have M:w.grownBy (w.setRow g (ys++[y]++List.replicate (b-(ys.length+1)) Value.nilIface).toArray) _:=⟨rfl,rfl,rfl,by simp,λk _ E=>setRow_other w g k _ (λe=>E SA)⟩;refine⟨_,_,l,.inr ⟨g,b,_,by simp,J,Q,by simp;omega,K,by simp;omega,by simp⟩,M,.inl rfl,λn u x hx=>cT.mB M C B Q R5 (λi hi=>?_) hx⟩;rw[List.getElem?_toArray,QM,aU hi]
 have holds:∀j u,ys[j]?=some u->w.cell? _=some u:=(nf.own (.inr ⟨g,b,r,rfl,J,C,aa,K,hcs,B⟩)).cells (g:=g) rfl;have l:=run_append_grow (P:=prog) w t ty 111 I .nilIface G D R ⟨g,0,none⟩ _ b ys (by rw[p,Qd]) holds m 1 c [y] (by rw[p];rfl) F RM RM (growslice_fits RM (by rw[S];omega));exact⟨_,_,l,U b,T _ _,.inr rfl,V _⟩
end
section
open bY
open Tryz
variable{ops:Array Oper}{a v:Xa}{Q:Exit->Act->QV->Prop}{ys:List Xa}{E:Env}{F F':Nat->Prop}{acc:List V}{e:Ending}
def lX{w:QV}{rest:List Oper}{o:Oper}{a:Act}(B:o.guard=none)(s x t)(I:prog.underlying t=some (.slice 111))(D:o.op=.call { callee:=.builtin .append,args:=#[s,x],argTypes:=#[t,t] })(b v ys)(hs:a.eval s=v)(h:nf w b v ys)(j c y)(hx:a.eval x=.slice (some j) 1 c)(hy:w.cell? (j.add 0)=some y)(h1:y.oneCell'=true)(C:ys.length<=1000)(z:b<=w.1.size)(r:∀v' w',nf w' b v' (ys++[y])->w.grownBy w' v.ownBlock->(v'.ownBlock=v.ownBlock\/v'.ownBlock=some w.1.size)->(∀n u x,cT w n u x->cT w' n u x)->wpList prog ops Q rest (a.put o.dst v') w'):wpList prog ops Q (o :: rest) a w:=by
 obtain⟨v',w',G,h2,l,m,p⟩:=Af t o.type I b v ys h j c y hy h1 C z;exact Lib.wpList_append_run w B s x t t D v _ hs hx v' w' G (r v' w' h2 l m p)
structure Lp(E:Env)(F:Nat->Prop)(w:QV)(a:Xa)(ys:List Xa)(acc:List V)(F':Nat->Prop)(st':Nat×E.σ)(wr:QV):Prop where
 mB:nf wr w.1.size a ys
 qd:iW wr 3 acc ys
 Z:∀g,a.ownBlock=some g->¬F' g
 st:St E F' st' wr
 sH:∀k,F' k->F k\/w.1.size<=k
 fm:Fm E.base w wr
def nf.lt{w:QV}{b g:Nat}(h:nf w b v ys)(j:v.ownBlock=some g):g<w.1.size/\b<=g:=by
 rcases h with⟨rfl,_⟩|⟨g',m,n,rfl,h2,l,_⟩
 ·cases j
 cases j;exact⟨cj l,h2⟩
def Lp.start{w:QV}{st:Nat×E.σ}(h:St E F st w):Lp E F w (.slice none 0 0) [] [] F st w :=⟨.inl ⟨rfl,rfl⟩,⟨rfl,λi u y hu _=>(by simp at hu)⟩,λg b=>SK,h,λk j=>.inl j,Fm.refl _ _⟩
def Lp.worked{b:Nat->Prop}{w wr w3:QV}{r n:Nat×E.σ}(h:Lp E F w a ys acc F' r wr)(p:St E b n w3)(hF:∀k,b k->F' k\/wr.1.size<=k)(j:Fm E.base wr w3):Lp E F w a ys acc b n w3 :=⟨h.mB.same j.keeps,h.qd.keeps j.keeps,λg m l=>by
  rcases hF g l with h'|h'
  ·exact h.Z g m h'
  ·have:=(h.mB.lt m).1;omega,p,λk l=>by
  rcases hF k l with h'|h'
  ·exact h.sH k h'
  ·exact .inr (ah h.fm.size h'),h.fm.trans j⟩
def Lp.below(ok:gh E){w wr w3:QV}{j:Nat×E.σ}(h:Lp E F w a ys acc F' j wr)(b:Xb wr w3):Lp E F w a ys acc F' j w3 :=h.worked (h.st.below ok b) (λ_ l=>.inl l) (Fm.below b (ah ok.gj (aE h.st.lt)))
def Lp.append{E:Env}(ok:gh E){F F':Nat->Prop}{w wr r:QV}{a v':Xa}{ys:List Xa}{acc:List V}{B:Nat×E.σ}{v:V}{y:Xa}(C:E.rb<w.1.size)(h:Lp E F w a ys acc F' B wr)(hv:cT wr 3 v y)
  (h2:nf r w.1.size v' (ys++[y])) (j:wr.grownBy r a.ownBlock) (l:v'.ownBlock=a.ownBlock\/v'.ownBlock=some wr.1.size) (z:∀n u x,cT wr n u x->cT r n u x):Lp E F w v' (ys++[y]) (acc++[v]) F' B r:=by
 have I:=ah (ah ok.Ae ok.gj) (aE C);refine⟨h2,iW.append ⟨h.qd.1,λi u x hu hx=>z _ _ _ (h.qd.2 i u x hu hx)⟩ ⟨rfl,λi u x hu hx=>?_⟩,λg m=>?_,?_,h.sH,?_⟩
 ·cases i with
  |zero=>cases hu;cases hx;exact z _ _ _ hv
  |succ i=>simp at hu
 ·rcases l with l|l
  ·exact h.Z g (l▸m)
  rw[l]at m;cases m;exact λb=>RC _ (ok.Gt _ _ _ _ h.st.inv b).1
 ·cases hb:a.ownBlock with
  |none =>
   rw[hb]at j;exact h.st.below ok ⟨j.os,j.tape,j.output,j.size,λk b=>j.block k b (λe=>by cases e)⟩
  |some g =>
   rw[hb]at j;have m:=h.mB.lt hb;refine h.st.grown ok j RM (h.Z g hb) RM ⟨z,λk cs t fz b p=>(j.block k (cj b) (λe=>?_)).trans b⟩;cases e;rcases h.mB with⟨rfl,_⟩|⟨g',D,G,rfl,_,hc,_⟩
   ·cases hb
   cases hb;rw[hc]at b;cases b;rcases p with h|h<;>cases h
 refine⟨h.fm.eh.trans ((Uz E.base wr).grown j (ah ok.gj (aE h.st.lt)) (λk b=>?_)),λk cs t fz b p=>?_⟩
 ·have:=(h.mB.lt b).2;have:=ok.gj;omega
 refine(j.block k (cj (h.fm.rQ k cs t fz b p)) (λe=>?_)).trans (h.fm.rQ k cs t fz b p);have:=(h.mB.lt e.symm).2;have:=cj b;omega
def PW.Hq(ok:gh E){w wr w2:QV}{b:Nat×E.σ}(h:Lp E F w a ys acc F' b wr)(p:PL wr (dX acc) e w2):(∀v,dX acc=.ok v->∃o n c,e=.returned (.slice o n c)/\PW (Ψ E F w (.ok v,b)) (.returned (.iface 248 (.slice o n c))) w2)/\(∀c,dX acc=.error c->e=gE c/\PW (Ψ E F w (.error c,b)) (gE c) w2):=by
 obtain⟨j,m,l⟩:=p;have h2:=h.below ok j;refine⟨λv hv=>?_,λc hc=>?_⟩
 ·obtain⟨o,n,c,rfl,hval⟩:=m v hv;exact⟨o,n,c,rfl,.ok v,⟨rfl,F',h2.st,h2.sH,h2.fm⟩,.inl ⟨v,_,rfl,rfl,hval⟩⟩
 have:=uA hc;exact⟨l c hc,.error c,⟨rfl,F',h2.st,h2.sH,h2.fm⟩,.inr ⟨c,rfl,rfl,this.1,this.2⟩⟩
def oO(E)(ok:gh E)(n)(ih:gJ E n)(t it x xi F st w)(hlen:t.parts.length<=200)(h0:∀j,j<t.parts.length->ib n it.isSome (t.cG j)=true)(hx:dI w (n+1) t x)(hi:gI w it xi)(h:St E F st w):Calls prog 250 #[.pointer (some ⟨E.rb,0,none⟩),x,xi] w (PW (Ψ E F w (mZ (λu s=>ev E.N n u it s) t.parts [] st))):=by
 obtain⟨b,i,o,m,c,rfl,nd⟩:=hx.node;have hm:=nd.len;obtain⟨c0,_,_,_,c4⟩:=nd.cells w (cK.refl w);have M:=h.lt;have ND:=bZ nd;have IH:=bZ ih;have T:=bZ hi;have LP:=bZ (Lp.start h);generalize p:mZ (λu s=>ev E.N n u it s) _ [] st=fin;have R:=bZ p;generalize av:E.rb=rb at M;have K:=bZ av;go_enter func250,ntmps250;go_wp2_with fail
 go_loopw [7,15] (λa idx wr=>∃(k:Nat) (acc:List V) (ys:List Xa) (F':Nat->Prop) (y:Nat×E.σ),k<=m/\idx=.int .i64 k/\acc.length<=k/\Hid (Lp E F w a ys acc F' y wr)/\Hid (mZ (λu s=>ev E.N n u it s) (t.parts.drop k) acc y=fin)) (λ_ idx _=>m-(intOf idx).toNat)
 case atStart=>exact⟨0,[],[],F,st,au _,rfl,af _,LP,R⟩
 case round =>
  obtain⟨k,acc,ys,F',y,hk,rfl,a2,LP,J⟩:=hrel;have a5:=LP.Z.qd.1;by_cases a4:k<m
  ·obtain⟨bk,qk,rfl,dk,aC⟩:=ND.Z.cG k RM;have ek:=dk _ LP.Z.fm.keeps;have I:=IH.Z _ it _ _ F' y _ (h0 k RM) (aC.keeps LP.Z.fm.keeps) (T.Z.keeps LP.Z.fm.keeps) LP.Z.st;have C:=J.Z;have ao:t.parts[k]?=some (t.cG k):=by
    rw[bY.T.cG,aq RM];rfl
   rw[drop_cons ao]at C;have z:iX (ev E.N n (t.cG k) it y) (λv s=>mZ (λu s=>ev E.N n u it s) _ _ s)=fin:=C;rw[K.Z]at I;generalize ev E.N n _ it y=q at I z;obtain⟨r,a0⟩:=q;have L:=bZ I;cases r with
   |error e1 =>
    have ad:=z.symm;subst ad;go_wp2_with fail;refine L.Z.mono ?_;rintro e w3 N;have p:=PW.after LP.Z.sH LP.Z.fm N;obtain⟨r3,⟨D,_⟩,⟨v3,y3,l,_⟩|⟨c3,l,rfl,_⟩⟩:=N
    ·rw[D]at l;cases l
    rw[D]at l;cases l;exact⟨rfl,p⟩
   |ok v1 =>
    have U:=z;go_wp2_with fail;refine L.Z.mono ?_;rintro e w3⟨r3,⟨D,P,ax,ab,am⟩,⟨v3,y3,l,rfl,O⟩|⟨c3,l,rfl,_⟩⟩
    ·rw[D]at l;cases l;have Z:=bZ (LP.Z.worked ax ab am);obtain⟨t3,B,rfl⟩:=O.one;have X:=bZ O;have G:=bZ (Z.Z.below ok ((Uz _ w3).alloc (af _) (Obj.cells #[.iface t3 B] 111)));have Y:=bZ (X.Z.keeps (cK.below ((Uz _ w3).alloc (af _) (Obj.cells #[.iface t3 B] 111))));have ai:(w3.alloc (Obj.cells #[.iface t3 B] 111)).cell? ((⟨w3.1.size,0,none⟩:Addr).add 0)=some (.iface t3 B):=cell_one_new _ _ _ 0 _ rfl;have ay:=G.Z.fm.size;go_wp2_with(at_builtin;refine lX rfl _ _ 247 underlying247 rfl w.1.size _ ys rfl G.Z.mB ⟨w3.1.size,0,none⟩ _ (.iface t3 B) rfl ai rfl RM ay ?_;intro v' w5 h2 l h4 h5);have aa:=G.Z.append ok (by rw[K.Z];exact M) Y.Z h2 l h4 h5;exact⟨⟨k+1,acc++[v1],_,P,a0,by omega,by go_num,by simp;omega,aa,U⟩,by simp[intOf];omega⟩
    rw[D]at l;cases l
  have C:=J.Z;rw[aQ RM]at C;have z:fin=(dX acc,y):=C.symm;have ak:=mY acc _ ys _ LP.Z.mB.row LP.Z.qd RM;have HL:=bZ (ak.mono λe w2 ap=>PW.Hq ok LP.Z ap);obtain⟨oa,ca,rfl⟩:=LP.Z.mB.row.len;generalize dX acc=res at HL z;subst z;go_wp2_with fail;refine HL.Z.mono ?_;rintro e w2⟨h1,h2⟩;cases res with
  |error c =>
   obtain⟨rfl,p⟩:=h2 c rfl;exact⟨rfl,p⟩
  |ok v =>
   obtain⟨o2,n2,c2,rfl,p⟩:=h1 v rfl;have S:=bZ p;go_wp2_with fail;go_ret;exact S.Z
end
section
open bY
open Tryz
def Hr(E)(ok:gh E)(n)(ih:gJ E n)(t it x xi F st w)(hlen:t.parts.length=2)(h0:ib n it.isSome (t.cG 0)=true)(h1:ib n true (t.cG 1)=true)(hx:dI w (n+1) t x)(hi:gI w it xi)(h:St E F st w):Calls prog 248 #[.pointer (some ⟨E.rb,0,none⟩),x,xi] w (PW (Ψ E F w (iX (ev E.N n (t.cG 0) it st) λv s=>match eK v with|.ok l=>mZ (λu s=>ev E.N n (t.cG 1) (some u) s) l [] s|.error e=>(.error e,s)))):=by
 obtain⟨b,i,o,m,c,rfl,nd⟩:=hx.node;obtain⟨b0,q0,rfl,d0,a8⟩:=nd.cG 0 RM;have Q:=ih (t.cG 0) it _ xi F st w h0 a8 hi h;have hm:=nd.len;obtain⟨_,_,_,_,c4⟩:=nd.cells w (cK.refl w);have e0:=d0 w (cK.refl w);have bG:(0:Int)<(m:Int):=RM;have ND:=bZ nd;have G:=bZ Q;have IH:=bZ ih;clear Q nd d0 a8 hx ih hi h;generalize ev E.N n (t.cG 0) it st=q at G ⊢;obtain⟨r,K⟩:=q;generalize a6:E.rb=rb at G;have bg:=bZ a6;clear a6;cases r with
 |error e1 =>
  show Calls _ _ _ _ (PW (Ψ E F w (.error e1,K)));go_enter func248,ntmps248;go_wp2_with fail;refine G.Z.mono ?_;rintro e w1⟨r,⟨D,O⟩,⟨v,y,j,rfl,hv⟩|⟨c1,j,rfl,hc⟩⟩
  ·rw[D]at j;cases j
  rw[D]at j;cases j;exact⟨rfl,.error e1,⟨rfl,O⟩,.inr ⟨e1,rfl,rfl,hc⟩⟩
 |ok v1 =>
  show Calls _ _ _ _ (PW (Ψ E F w (match eK v1 with|.ok l=>mZ (λu s=>ev E.N n (t.cG 1) (some u) s) l [] K|.error e=>(.error e,K))));cases hl:eK v1 with
  |error c9 =>
   show Calls _ _ _ _ (PW (Ψ E F w (.error c9,K)));have bp:c9=9:=by
    rcases v1 with⟨k|b|l⟩<;>cases hl<;>rfl
   subst bp;have L:=bZ hl;clear hl;go_enter func248,ntmps248;go_wp2_with fail;refine G.Z.mono ?_;rintro e w1⟨r,⟨D,F1,O,hF,M⟩,⟨v,y,j,rfl,hv⟩|⟨c1,j,rfl,hc⟩⟩
   ·rw[D]at j;cases j;have bw:∃t a,y=.iface t a/\(t=215\/t=219):=by
     rcases hv.fP with⟨i,rfl,rfl,_⟩|⟨b,rfl,rfl,_⟩|⟨m2,l2,s2,bc,bv,rfl,rfl,_⟩
     ·exact⟨_,_,rfl,.inr rfl⟩
     ·exact⟨_,_,rfl,.inl rfl⟩
     have:=L.Z;cases this
    obtain⟨t1,a1,rfl,bB⟩:=bw;clear hv G;go_wp2_with fail;refine(k_ _ _ _ bB).mono ?_;rintro e w2⟨rfl,rfl⟩;exact⟨rfl,PW.pS ok O hF M (PV.err (Uz _ _)) (λc' bn=>by cases bn;omega)⟩
   rw[D]at j;cases j
  |ok l =>
   show Calls _ _ _ _ (PW (Ψ E F w (mZ (λu s=>ev E.N n (t.cG 1) (some u) s) l [] K)));have L:=bZ hl;clear hl;generalize B:mZ (λu s=>ev E.N n (t.cG 1) (some u) s) l [] K=fin;have ao:=bZ B;clear B;go_enter func248,ntmps248;go_wp2_with fail;refine G.Z.mono ?_;rintro e w1⟨r,⟨D,F1,O,hF,M⟩,⟨v,y,j,rfl,hv⟩|⟨c1,j,rfl,hc⟩⟩
   ·rw[D]at j;cases j;have br:∃s zs,y=.iface 248 s/\fX w1 s zs/\iW w1 2 l zs/\l.length<=12:=by
     rcases hv.fP with⟨i,rfl,rfl,_⟩|⟨b,rfl,rfl,_⟩|⟨m2,l2,s2,bc,bv,rfl,rfl,j,bq,aC,bC⟩
     ·have:=L.Z;cases this
     ·have:=L.Z;cases this
     have:=L.Z;cases this;obtain rfl:m2=2:=RM;exact⟨s2,bc,rfl,j,⟨bq,bC⟩,aC⟩
    obtain⟨s1,zs,rfl,ad,ak,aC⟩:=br;obtain⟨os,cs,rfl⟩:=ad.len;have bF:=ak.1;obtain⟨bj,qj,bl,dj,a9⟩:=ND.Z.cG 1 RM;cases bl;have Y:=bZ (λ(w':QV) (hk:cK w w')=>(ND.Z.cells w' hk).2.2.2.2);have R:=bZ dj;have U:=bZ a9;have T:=bZ ad;have X:=bZ ak;have bt:=O.lt;have ap:=bZ (Lp.start O);have bH:(1:Int)<(m:Int):=RM;clear hv G ad ak dj a9 ND L;go_wp2_with(go_at_call 278;refine(px _ _ _ _).mono ?_;rintro e w2 ⟨rfl,rfl⟩)
    go_loopw [7,21] (λa idx wr=>∃(k:Nat) (p:List V) (ys:List Xa) (F':Nat->Prop) (J:Nat×E.σ),k<=zs.length/\idx=.int .i64 k/\p.length<=k/\Hid (Lp E F1 w2 a ys p F' J wr)/\Hid (mZ (λu s=>ev E.N n (t.cG 1) (some u) s) (l.drop k) p J=fin)) (λ_ idx _=>zs.length-(intOf idx).toNat)
    case atStart=>exact⟨0,[],[],F1,K,au _,rfl,af _,ap,ao⟩
    case round =>
     clear ap ao;obtain⟨k,p,ys,F',J,hk,rfl,bD,LP,S⟩:=hrel;have bI:p.length=ys.length:=LP.Z.qd.1;have ab:=(M.trans LP.Z.fm).keeps;by_cases bu:k<zs.length
     ·obtain⟨u,hu⟩:∃u,l[k]?=some u:=⟨_,aq RM⟩;obtain⟨y,hy⟩:∃y,zs[k]?=some y:=⟨_,aq bu⟩;obtain⟨bz,rfl,hc⟩:=(T.Z.keeps LP.Z.fm.keeps).cell hy;have hval:=((X.Z.2 k u y hu hy).keeps LP.Z.fm.keeps).up;obtain⟨ty,ay,rfl⟩:=hval.one;have ek:=Y.Z _ ab;have ej:=R.Z _ ab;have Z:=IH.Z (t.cG 1) (some u) _ _ F' J _ h1 (U.Z.keeps ab) (.inr ⟨u,rfl,hval⟩) LP.Z.st;have I:=S.Z;rw[drop_cons hu]at I;have C:iX (ev E.N n (t.cG 1) (some u) J) (λv s=>mZ (λu s=>ev E.N n (t.cG 1) (some u) s) (l.drop (k+1)) (p++[v]) s)=fin:=I;rw[bg.Z]at Z;generalize ev E.N n (t.cG 1) (some u) J=q at Z C;obtain⟨r,am⟩:=q;have HW:=bZ Z;have HU:=bZ hval;have bE:(k:Int)<(zs.length:Int):=RM;clear Z I S hval;cases r with
      |error e1 =>
       have bm:fin=(.error e1,am):=C.symm;subst bm;clear C Y R U IH T X;go_wp2_with fail;refine HW.Z.mono ?_;rintro e w3 hp;have B:=PW.after hF M (PW.after LP.Z.sH LP.Z.fm hp);obtain⟨r3,⟨N,_⟩,⟨v3,y3,z,_⟩|⟨c3,z,rfl,_⟩⟩:=hp
       ·rw[N]at z;cases z
       rw[N]at z;cases z;exact⟨rfl,B⟩
      |ok v2 =>
       have bf:Hid (mZ (λu s=>ev E.N n (t.cG 1) (some u) s) (l.drop (k+1)) (p++[v2]) am=fin):=C;clear C Y R U IH T X;go_wp2_with fail;refine HW.Z.mono ?_;rintro e w3⟨r3,⟨N,F3,a7,a4,a5⟩,⟨v3,y3,z,rfl,ai⟩|⟨c3,z,rfl,_⟩⟩
       ·rw[N]at z;cases z;have av:=bZ (LP.Z.worked a7 a4 a5);obtain⟨t3,P,rfl⟩:=ai.one;have a2:Xb w3 (w3.alloc (Obj.cells #[.iface t3 P] 111)):=(Uz _ w3).alloc (af _) _;have aa:=bZ (av.Z.below ok a2);have bh:=bZ (ai.keeps (cK.below a2));have bo:(w3.alloc (Obj.cells #[.iface t3 P] 111)).cell? ((⟨w3.1.size,0,none⟩:Addr).add 0)=some (.iface t3 P):=cell_one_new _ _ _ 0 _ rfl;have bA:w2.1.size<=(w3.alloc (Obj.cells #[.iface t3 P] 111)).1.size:=aa.Z.fm.size;clear ai a7 a4 a5 N LP HW av;go_wp2_with(at_builtin;refine lX rfl _ _ 247 underlying247 rfl w2.1.size _ ys rfl aa.Z.mB ⟨w3.1.size,0,none⟩ _ (.iface t3 P) rfl bo rfl RM bA ?_;intro v' w5 g2 g3 g4 g5);have bk:=aa.Z.append ok bt bh.Z g2 g3 g4 g5;exact⟨⟨k+1,p++[v2],_,F3,am,by omega,by go_num,by simp;omega,bk,bf⟩,by simp[intOf];omega⟩
       rw[N]at z;cases z
     have I:=S.Z;rw[aQ RM]at I;have C:fin=(dX p,J):=I.symm;have Q:=mY p _ ys _ LP.Z.mB.row LP.Z.qd RM;have HL:=bZ (Q.mono λe w2 bx=>PW.Hq ok LP.Z bx);obtain⟨oa,ca,rfl⟩:=LP.Z.mB.row.len;clear Q I S Y R U IH T X;generalize dX p=res at HL C;subst C;go_wp2_with fail;refine HL.Z.mono ?_;rintro e w4⟨ax,a0⟩;cases res with
     |error c =>
      obtain⟨rfl,B⟩:=a0 c rfl;exact⟨rfl,PW.after hF M B⟩
     |ok v =>
      obtain⟨o2,n2,c2,rfl,B⟩:=ax v rfl;have bd:=bZ (PW.after hF M B);clear B ax a0 HL LP;go_wp2_with fail;go_ret;exact bd.Z
   rw[D]at j;cases j
end
def Fm.own{j g:Nat}{w w2 w':QV}(h:Fm j w w2)(l:w2.grownBy w' (some g))(n:w.1.size<=g)(hb:j<=w.1.size):Fm j w w' :=⟨h.eh.trans ((Uz j w2).grown l (ah hb h.size) (λk b=>by cases b;omega)),λk cs t fz b m=>(l.block k (cj (h.rQ k cs t fz b m)) (λe=>by cases e;have:=cj b;omega)).trans (h.rQ k cs t fz b m)⟩
def Hu(E)(ok:gh E)(n)(Z:gJ E n)(t it b D p1 G xi F st w)(hlen:t.parts.length=2)(T:bY.ib n it.isSome (t.cG 0)=true)(hx:dI w (n+1) t (.pointer (some ⟨b,0,none⟩)))(hi:gI w it xi)(h:St E F st w)(d0:w.1[D]?=some (.cells #[.pointer (some ⟨E.rb,0,none⟩)] 242 (0,0)))(d1:w.1[p1]?=some (.cells #[.pointer (some ⟨b,0,none⟩)] 121 (0,0)))(d2:w.1[G]?=some (.cells #[xi] 111 (0,0))):Calls Tryz.prog 277 #[.pointer (some ⟨D,0,none⟩),.pointer (some ⟨p1,0,none⟩),.pointer (some ⟨G,0,none⟩)] w (PW (Ψ E F w (bY.ev E.N n (t.cG 0) it st))):=by
 obtain⟨b',i,o,m,c,e,nd⟩:=hx.node;cases e;obtain⟨b0,q0,rfl,O,X⟩:=nd.cG 0 RM;have L:Xb w w.drew:=(Uz _ w).drew;have J:=Fm.below L (ah ok.gj (aE h.lt));have C:=(Z _ it _ xi F st w.drew T (X.keeps J.keeps) (hi.keeps J.keeps) (h.below ok L)).mono (λe w3 p=>PW.after (λk V=>.inl V) J p);have hm:=nd.len;have l:0<m:=RM;have U:=hi.form;have cells:∀w3,Fm E.base w w3->w3.cell? ⟨D,0,none⟩=some (.pointer (some ⟨E.rb,0,none⟩))/\w3.cell? ⟨p1,0,none⟩=some (.pointer (some ⟨b,0,none⟩))/\w3.cell? ⟨G,0,none⟩=some xi/\w3.cell? ⟨b,4,none⟩=some _/\w3.cell? ⟨b0,0,none⟩=some _:=λw3 hf=>by
  have f0:=hf.rQ _ _ _ _ d0 (.inr (.inr rfl));have f1:=hf.rQ _ _ _ _ d1 (.inl (.inr (.inr rfl)));have f2:=hf.rQ _ _ _ _ d2 (.inl (.inl rfl));exact⟨by simp[World.cell?,f0],by simp[World.cell?,f1],by simp[World.cell?,f2],(nd.cells w3 hf.keeps).2.2.2.2,O w3 hf.keeps⟩
 have C:=C.mono (R':=λe w3=>PW _ e w3/\_) (λe w3 p=>⟨p,by
  obtain⟨_,⟨_,_,_,_,hf⟩,_⟩:=p;exact cells w3 hf⟩)
 obtain⟨d0,d1,d2,R,e0⟩:=cells w (Fm.refl _ _);generalize bY.ev E.N n _ it st=q at C ⊢;generalize E.rb=rb at C d0;have P:=bZ C;rcases U with rfl|⟨tx,ax,rfl⟩
 all_goals
  go_enter Tryz.func277,Tryz.ntmps277;go_wp2_with fail;refine wp_region_held_drew (S:=λw'=>w'.cell? ⟨D,0,none⟩=some _/\w'.cell? ⟨p1,0,none⟩=some _/\w'.cell? ⟨G,0,none⟩=_/\w'.cell? ⟨b,4,none⟩=some _/\w'.cell? ⟨b0,0,none⟩=some _) RO ⟨d0,d1,d2,R,e0⟩ (λhHeld=>?_);refine wpAnyH_take (i:=0) (v:=?_) rfl RO RO RO (λ_ _ _ h=>h) (Or.inl ⟨by rfl,?_⟩) R9 ?_
  rotate_left
  ·intro w' j;obtain⟨r,u,y,z,B⟩:=j;go_simp
   try rw[ag l]
   try with_reducible rfl
  simp only[Act.put,ar,Xc,Xd];refine wpAnyH_take (i:=1) (v:=?_) rfl RO RO RO (λ_ _ _ h=>h) (Or.inl ⟨by rfl,?_⟩) R9 ?_
  rotate_left
  ·intro w' j;obtain⟨r,u,y,z,B⟩:=j;go_simp
   try rw[ag l]
   try with_reducible rfl
  simp only[Act.put,ar,Xc,Xd];refine wpAnyH_take (i:=2) (v:=?_) rfl RO RO RO (λ_ _ _ h=>h) (Or.inl ⟨by rfl,?_⟩) R9 ?_
  rotate_left
  ·intro w' j;obtain⟨r,u,y,z,B⟩:=j;go_simp
   try rw[ag l]
   try with_reducible rfl
  simp only[Act.put,ar,Xc,Xd];refine wpAnyH_take (i:=3) (v:=?_) rfl RO RO RO (λ_ _ _ h=>h) (Or.inl ⟨by rfl,?_⟩) R9 ?_
  rotate_left
  ·intro w' j;obtain⟨r,u,y,z,B⟩:=j;go_simp
   try rw[ag l]
   try with_reducible rfl
  simp only[Act.put,ar,Xc,Xd];refine wpAnyH_take (i:=4) (v:=?_) rfl RO RO RO (λ_ _ _ h=>h) (Or.inl ⟨by rfl,?_⟩) R9 ?_
  rotate_left
  ·intro w' j;obtain⟨r,u,y,z,B⟩:=j;go_simp
   try rw[ag l]
   try with_reducible rfl
  simp only[Act.put,ar,Xc,Xd];refine wpAnyH_take (i:=5) (v:=?_) rfl RO RO RO (λ_ _ _ h=>h) (Or.inl ⟨by rfl,?_⟩) R9 ?_
  rotate_left
  ·intro w' j;obtain⟨r,u,y,z,B⟩:=j;go_simp
   try rw[ag l]
   try with_reducible rfl
  simp only[Act.put,ar,Xc,Xd];refine wpAnyH_take (i:=6) (v:=?_) rfl RO RO RO (λ_ _ _ h=>h) (Or.inl ⟨by rfl,?_⟩) R9 ?_
  rotate_left
  ·intro w' j;obtain⟨r,u,y,z,B⟩:=j;go_simp
   try rw[ag l]
   try with_reducible rfl
  simp only[Act.put,ar,Xc,Xd];refine wpAnyH_take (i:=7) (v:=?_) rfl RO RO RO (λ_ _ _ h=>h) (Or.inl ⟨by rfl,?_⟩) R9 ?_
  rotate_left
  ·intro w' j;obtain⟨r,u,y,z,B⟩:=j;go_simp
   try rw[ag l]
   try with_reducible rfl
  simp only[Act.put,ar,Xc,Xd];refine wpAnyH_ready (rs:=[8]) RO R2 ?_;refine AllReadyH.cons rfl (λK I=>?_) AllReadyH.nil;go_simp;refine P.Z.mono ?_;rintro e w3⟨p,M⟩;have N:=p;obtain⟨r3,_,⟨v3,y3,_,rfl,Y⟩|⟨c3,_,rfl,_⟩⟩:=p
  ·obtain⟨t3,a3,rfl⟩:=Y.one;have Q:=bZ N;refine I.out _ _ M (λ_=>?_);refine wpAnyH_ready (rs:=[9]) RO R2 ?_;refine AllReadyH.cons rfl (λK I=>?_) AllReadyH.nil;go_simp;refine I.out _ _ M (λ_=>?_);refine wpAnyH_done RO ?_ _;go_wp2_with fail;go_ret;exact Q.Z
  exact⟨rfl,N⟩
