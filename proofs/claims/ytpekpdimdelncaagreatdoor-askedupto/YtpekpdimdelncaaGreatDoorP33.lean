/- Out of Y10. -/
import Derived.Test.YtpekpdimdelncaaGreatDoorP32
set_option linter.unusedVariables false
set_option maxRecDepth 100000
set_option maxHeartbeats 8000000
set_option linter.defProp false
namespace Go.Proofs.YtpekpdimdelncaaGreatDoor
open Go.RowKit
section
open bY
open Tryz
namespace Ref
def LK(s:ba)(y B n b l:Nat)(hs:s.size<=200)(hd:b<=20)(G:l+1<=b) :
  jh s y B n b l ⟨#[105,116]⟩ (λi=>(Except.ok i)) (PK s.1.1 n b l 4 [105,116]):=by
 intro i c w hi E h hc;have e1:dN (⟨#[105,116]⟩:ba).1.1=false:=RZ;have e2:dJ (⟨#[105,116]⟩:ba).1.1=none:=RZ;have p:=eJ ⟨#[105,116]⟩ w RZ;have m:=eC ⟨#[105,116]⟩ w RZ;rw[e1]at p;rw[e2]at m;have u:=bZ p;have r:=bZ m;clear p m e1 e2;have D:Good s i (.ok i):=λa z=>by cases z;exact⟨af _,hi⟩
 go_enter func230,ntmps230;go_wp2_with(first|(go_at_call 144;refine u.Z.mono ?_;rintro e w' ⟨rfl,rfl⟩)|(go_at_call 231;refine r.Z.mono ?_;rintro e w' ⟨rfl,rfl⟩;unfold gp));clear u r;refine(kD s y B l c (Except.ok i) w h _ _ _ _ _ RM).mono ?_;rintro e w1⟨rfl,k1,C⟩;go_wp2_with fail;go_ret;refine⟨_,_,rfl,k1,C,by rw[aj,aD];omega,(Ex.one w c _ rfl),λj hj=>⟨c.length,rfl,by rw[aj,aD];omega,λI F=>?_⟩⟩;cases hj;exact Pc (ie c _) rfl
def C_(s:ba)(p B n l b:Nat)(hs:s.size<=200)(hd:l<=20)(S:b+1<=l)(I:RT s p B 192 3 n):jh s p B n l b ⟨#[45]⟩ (λi=>(bY.andThen (Except.ok i) (bY.P s.1.1 n 3 l b))) (PK s.1.1 n l b 5 [45]):=by
 intro i c w hi Q h hc;have e1:dN (⟨#[45]⟩:ba).1.1=false:=RZ;have e2:dJ (⟨#[45]⟩:ba).1.1=none:=RZ;have u:=eJ ⟨#[45]⟩ w RZ;have r:=eC ⟨#[45]⟩ w RZ;rw[e1]at u;rw[e2]at r;have C:=bZ u;have z:=bZ r;clear u r e1 e2;have E:Good s i (.ok i):=λa K=>by cases K;exact⟨af _,hi⟩
 go_enter func230,ntmps230;go_wp2_with(first|(go_at_call 144;refine C.Z.mono ?_;rintro e w' ⟨rfl,rfl⟩)|(go_at_call 231;refine z.Z.mono ?_;rintro e w' ⟨rfl,rfl⟩;unfold gp));clear C z;refine(kD s p B b c (Except.ok i) w h _ _ _ _ _ RM).mono ?_;rintro e w1⟨rfl,k1,y⟩;go_wp2_with fail;refine(I l b i (Except.ok i) w1 _ hd RM R8 E k1 (by rw[aj,aD];omega)).mono ?_;rintro e w2⟨x2,m,rfl,k2,G,b2,D,N⟩;rw[aj,aD]at b2;have P:=Good.P E n 3 l b;go_wp2_with fail;refine(kD s p B b m _ w2 k2 _ _ _ _ _ RM).mono ?_;rintro e w3⟨rfl,k3,L⟩;go_wp2_with fail;go_ret;refine⟨_,_,rfl,k3,(y.trans (G.trans L)),by rw[aj,aD];omega,(((Ex.one w c _ rfl).then D y.size).then (Ex.one w2 m _ rfl) (y.trans G).size),λj hj=>⟨m.length,rfl,by rw[aj,aD];omega,λT R=>?_⟩⟩;obtain⟨U,F,e2⟩:=andThen_ok hj;obtain⟨O,J,V,c2⟩:=N _ hj;have M:=c2 _ F;cases F;exact Pd (ie m _) rfl rfl J ((Ext.one m _).at (D.ext.at (ie c _))) rfl rfl (Sub.ext M (Ext.one m _))
def Da(s:ba)(y B n b l:Nat)(hs:s.size<=200)(hd:b<=20)(T:l+1<=b)(H:∀m,m<=n->RT s y B 65 0 m):jh s y B n b l ⟨#[40]⟩ (λi=>(bY.andThen (bY.andThen (Except.ok i) (bY.P s.1.1 n 0 b l)) (bY.cv s.1.1 [41]))) (PK s.1.1 n b l 6 [40]):=by
 intro i c w hi R h hc;have e1:dN (⟨#[40]⟩:ba).1.1=false:=RZ;have e2:dJ (⟨#[40]⟩:ba).1.1=none:=RZ;have u:=eJ ⟨#[40]⟩ w RZ;have r:=eC ⟨#[40]⟩ w RZ;rw[e1]at u;rw[e2]at r;have C:=bZ u;have z:=bZ r;clear u r e1 e2;have D:Good s i (.ok i):=λa J=>by cases J;exact⟨af _,hi⟩
 go_enter func230,ntmps230;go_wp2_with(first|(go_at_call 144;refine C.Z.mono ?_;rintro e w' ⟨rfl,rfl⟩)|(go_at_call 231;refine z.Z.mono ?_;rintro e w' ⟨rfl,rfl⟩;unfold gp));clear C z;refine(H n (af _) b l i (Except.ok i) w _ hd RM R8 D h RM).mono ?_;rintro e w1⟨x1,L,rfl,k1,M,b1,I,P⟩;have p:=Good.P D n 0 b l;go_wp2_with fail;refine(j9 s y B _ L _ w1 k1 hs ⟨#[41]⟩ RZ i p).mono ?_;rintro e w2⟨rfl,k2,N⟩;have Q:=Good.cv p (t:=[41]) R2;have b2:=eO p (t:=[41]) R2;go_wp2_with fail;go_ret;refine⟨_,_,rfl,k2,(M.trans N),by omega,I,λj hj=>?_⟩;obtain⟨V,F,e2⟩:=andThen_ok hj;obtain⟨j1,E,e1⟩:=andThen_ok F;obtain⟨a1,G,K,c1⟩:=P _ F;have O:=c1 _ E;cases E;exact⟨a1,G,K,λU S=>Pf O e2⟩
def Je(s:ba)(r B n b l:Nat)(hs:s.size<=200)(hd:b<=20)(T:l+1<=b)(H:∀m,m<=n->RT s r B 65 0 m):jh s r B n b l ⟨#[91]⟩ (λi=>(bY.andThen (bY.andThen (Except.ok i) (bY.P s.1.1 n 0 b l)) (bY.cv s.1.1 [93]))) (PK s.1.1 n b l 7 [91]):=by
 intro i c w hi R h hc;have e1:dN (⟨#[91]⟩:ba).1.1=false:=RZ;have e2:dJ (⟨#[91]⟩:ba).1.1=none:=RZ;have z:=eJ ⟨#[91]⟩ w RZ;have y:=eC ⟨#[91]⟩ w RZ;rw[e1]at z;rw[e2]at y;have D:=bZ z;have C:=bZ y;clear z y e1 e2;have E:Good s i (.ok i):=λa M=>by cases M;exact⟨af _,hi⟩
 go_enter func230,ntmps230;go_wp2_with(first|(go_at_call 144;refine D.Z.mono ?_;rintro e w' ⟨rfl,rfl⟩)|(go_at_call 231;refine C.Z.mono ?_;rintro e w' ⟨rfl,rfl⟩;unfold gp));clear D C;refine(H n (af _) b l i (Except.ok i) w _ hd RM R8 E h RM).mono ?_;rintro e w1⟨x1,p,rfl,k1,I,b1,L,P⟩;have u:=Good.P E n 0 b l;go_wp2_with fail;refine(j9 s r B _ p _ w1 k1 hs ⟨#[93]⟩ RZ i u).mono ?_;rintro e w2⟨rfl,k2,J⟩;have Q:=Good.cv u (t:=[93]) R2;have b2:=eO u (t:=[93]) R2;go_wp2_with fail;refine(kD s r B l p _ w2 k2 _ _ _ _ _ RM).mono ?_;rintro e w3⟨rfl,k3,N⟩;go_wp2_with fail;go_ret;refine⟨_,_,rfl,k3,(I.trans (J.trans N)),by rw[aj,aD];omega,(L.then (Ex.one w2 p _ rfl) (I.trans J).size),λj hj=>⟨p.length,rfl,by rw[aj,aD];omega,λU S=>?_⟩⟩;obtain⟨V,G,e2⟩:=andThen_ok hj;obtain⟨j1,F,e1⟩:=andThen_ok G;obtain⟨a1,K,X,c1⟩:=P _ G;have O:=c1 _ F;cases F;exact Pj (ie p _) rfl K (Sub.ext O (Ext.one p _)) e2
def LL(s:ba)(r B n b l:Nat)(hs:s.size<=200)(hd:b<=20)(ax:l+1<=b)(H:∀m,m<=n->RT s r B 65 0 m)(X:RT s r B 192 3 n):jh s r B n b l ⟨#[105,102]⟩ (λi=>(bY.andThen (bY.andThen (bY.andThen (bY.andThen (bY.andThen (Except.ok i) (bY.P s.1.1 n 0 b l)) (bY.cv s.1.1 [116,104,101,110])) (bY.P s.1.1 n 0 b l)) (bY.cv s.1.1 [101,108,115,101])) (bY.P s.1.1 n 3 b l))) (PK s.1.1 n b l 9 [105,102]):=by
 intro i c w hi ap h hc;have e1:dN (⟨#[105,102]⟩:ba).1.1=false:=RZ;have e2:dJ (⟨#[105,102]⟩:ba).1.1=none:=RZ;have F:=eJ ⟨#[105,102]⟩ w RZ;have E:=eC ⟨#[105,102]⟩ w RZ;rw[e1]at F;rw[e2]at E;have K:=bZ F;have J:=bZ E;clear F E e1 e2;have M:Good s i (.ok i):=λa ha=>by cases ha;exact⟨af _,hi⟩
 go_enter func230,ntmps230;go_wp2_with(first|(go_at_call 144;refine K.Z.mono ?_;rintro e w' ⟨rfl,rfl⟩)|(go_at_call 231;refine J.Z.mono ?_;rintro e w' ⟨rfl,rfl⟩;unfold gp));clear K J;refine(H n (af _) b l i (Except.ok i) w _ hd RM R8 M h RM).mono ?_;rintro e w1⟨x1,n1,rfl,k1,u,b1,ai,ak⟩;have C:=Good.P M n 0 b l;go_wp2_with fail;refine(j9 s r B _ n1 _ w1 k1 hs ⟨#[116,104,101,110]⟩ RZ i C).mono ?_;rintro e w2⟨rfl,k2,y⟩;have N:=Good.cv C (t:=[116,104,101,110]) R2;have b2:=eO C (t:=[116,104,101,110]) R2;go_wp2_with fail;refine(H n (af _) b l i _ w2 _ hd RM R8 N k2 RM).mono ?_;rintro e w3⟨x3,n3,rfl,k3,G,b3,L,am⟩;have D:=Good.P N n 0 b l;go_wp2_with fail;refine(j9 s r B _ n3 _ w3 k3 hs ⟨#[101,108,115,101]⟩ RZ i D).mono ?_;rintro e w4⟨rfl,k4,I⟩;have O:=Good.cv D (t:=[101,108,115,101]) R2;have b4:=eO D (t:=[101,108,115,101]) R2;go_wp2_with fail;refine(X b l i _ w4 _ hd RM R8 O k4 RM).mono ?_;rintro e V⟨x5,p,rfl,k5,U,b5,z,ao⟩;have g5:=Good.P O n 3 b l;go_wp2_with fail;refine(kD s r B l p _ V k5 _ _ _ _ _ RM).mono ?_;rintro e w6⟨rfl,k6,r6⟩;go_wp2_with fail;go_ret
 refine⟨_,_,rfl,k6,(u.trans (y.trans (G.trans (I.trans (U.trans r6))))),by rw[aj,aD];omega,(((ai.then L (u.trans y).size).then z (((u.trans y).trans G).trans I).size).then (Ex.one V p _ rfl) ((((u.trans y).trans G).trans I).trans U).size),λj hj=>⟨p.length,rfl,by rw[aj,aD];omega,λi0 av=>?_⟩⟩;obtain⟨j5,T,e5⟩:=andThen_ok hj;obtain⟨a5,ad,a0,Z⟩:=ao _ hj;have s5:=Z _ T;obtain⟨j4,S,e4⟩:=andThen_ok T;obtain⟨j3,R,e3⟩:=andThen_ok S;obtain⟨a3,ab,aC,Y⟩:=am _ S;have s3:=Y _ R;obtain⟨j2,Q,e2⟩:=andThen_ok R;obtain⟨j1,P,e1⟩:=andThen_ok Q;obtain⟨a1,aa,ay,c1⟩:=ak _ Q;have s1:=c1 _ P;cases P;exact Pm (ie p _) rfl aa ab ad (Sub.ext s1 ((L.ext.trans z.ext).trans (Ext.one p _))) e2 (Sub.ext s3 (z.ext.trans (Ext.one p _))) e4 (Sub.ext s5 (Ext.one p _))
def vz(s:ba)(u B n b l:Nat)(hs:s.size<=200)(hd:b<=20)(ab:l+1<=b)(H:∀m,m<=n->RT s u B 65 0 m)(nm:ba)(k:Nat)(r:(nm=⟨#[115,105,122,101]⟩/\k=10)\/(nm=⟨#[115,117,109]⟩/\k=11)\/(nm=⟨#[119,111,114,100]⟩/\k=12)):jh s u B n b l nm (λi=>(bY.andThen (bY.andThen (bY.andThen (Except.ok i) (bY.cv s.1.1 [40])) (bY.P s.1.1 n 0 b l)) (bY.cv s.1.1 [41]))) (PK s.1.1 n b l k nm.1.1):=by
 intro i c w hi Z h hc;have e1:dN nm.1.1=false:=by rcases r with⟨rfl,rfl⟩|⟨rfl,rfl⟩|⟨rfl,rfl⟩<;>decide
 have e2:dJ nm.1.1=none:=by rcases r with⟨rfl,rfl⟩|⟨rfl,rfl⟩|⟨rfl,rfl⟩<;>decide
 have D:=eJ nm w Tz;have C:=eC nm w Tz;rw[e1]at D;rw[e2]at C;have G:=bZ D;have F:=bZ C;clear D C e1 e2;have y:Good s i (.ok i):=λa Q=>by cases Q;exact⟨af _,hi⟩
 rcases r with⟨rfl,rfl⟩|⟨rfl,rfl⟩|⟨rfl,rfl⟩
 all_goals
  go_enter func230,ntmps230;go_wp2_with(first|(go_at_call 144;refine G.Z.mono ?_;rintro e w' ⟨rfl,rfl⟩)|(go_at_call 231;refine F.Z.mono ?_;rintro e w' ⟨rfl,rfl⟩;unfold gp));clear G F;refine(j9 s u B _ c (Except.ok i) w h hs ⟨#[40]⟩ RZ i y).mono ?_;rintro e w1⟨rfl,k1,E⟩;have I:=Good.cv y (t:=[40]) R2;have b1:=eO y (t:=[40]) R2;go_wp2_with fail;refine(H n (af _) b l i _ w1 _ hd RM R8 I k1 RM).mono ?_;rintro e w2⟨x2,p,rfl,k2,L,b2,P,U⟩;have z:=Good.P I n 0 b l;go_wp2_with fail;refine(j9 s u B _ p _ w2 k2 hs ⟨#[41]⟩ RZ i z).mono ?_;rintro e w3⟨rfl,k3,M⟩;have Y:=Good.cv z (t:=[41]) R2;have X:=eO z (t:=[41]) R2;go_wp2_with fail;refine(kD s u B l p _ w3 k3 _ _ _ _ _ RM).mono ?_;rintro e w4⟨rfl,k4,S⟩;go_wp2_with fail;go_ret;refine⟨_,_,rfl,k4,(E.trans (L.trans (M.trans S))),by rw[aj,aD];omega,(((Ex.refl w c).then P E.size).then (Ex.one w3 p _ rfl) ((E.trans L).trans M).size),λj hj=>⟨p.length,rfl,by rw[aj,aD];omega,λi0 aa=>?_⟩⟩;obtain⟨j3,K,N⟩:=andThen_ok hj;obtain⟨j2,J,e2⟩:=andThen_ok K;obtain⟨V,O,ad,c2⟩:=U _ K;have T:=c2 _ J;obtain⟨j1,R,e1⟩:=andThen_ok J;cases R;exact OH RZ (ie p _) rfl rfl O e1 (Sub.ext T (Ext.one p _)) N
def rl(s:ba)(u B n b l:Nat)(hs:s.size<=200)(hd:b<=20)(ao:l+1<=b)(H:∀m,m<=n->RT s u B 65 0 m)(nm:ba)(k:Nat)(r:(nm=⟨#[109,105,110]⟩/\k=13)\/(nm=⟨#[109,97,120]⟩/\k=13)\/(nm=⟨#[116,114,121]⟩/\k=14)\/(nm=⟨#[97,116]⟩/\k=13)):jh s u B n b l nm (λi=>(bY.andThen (bY.andThen (bY.andThen (bY.andThen (bY.andThen (Except.ok i) (bY.cv s.1.1 [40])) (bY.P s.1.1 n 0 b l)) (bY.cv s.1.1 [44])) (bY.P s.1.1 n 0 b l)) (bY.cv s.1.1 [41]))) (PK s.1.1 n b l k nm.1.1):=by
 intro i c w hi am h hc;have e1:dN nm.1.1=false:=by rcases r with⟨rfl,rfl⟩|⟨rfl,rfl⟩|⟨rfl,rfl⟩|⟨rfl,rfl⟩<;>decide
 have e2:dJ nm.1.1=none:=by rcases r with⟨rfl,rfl⟩|⟨rfl,rfl⟩|⟨rfl,rfl⟩|⟨rfl,rfl⟩<;>decide
 have I:=eJ nm w TA;have G:=eC nm w TA;rw[e1]at I;rw[e2]at G;have N:=bZ I;have M:=bZ G;clear I G e1 e2;have D:Good s i (.ok i):=λa ha=>by cases ha;exact⟨af _,hi⟩
 obtain⟨o,ad,z⟩:∃o:Int,((k=13/\o=(I7 13 (bY.byteOf nm.1.1):Int))\/(k=14/\o=116))/\∀w,Calls prog 273 #[.string nm] w λe w'=>e=.returned (.int .u8 o)/\w=w':=by
  rcases r with⟨rfl,rfl⟩|⟨rfl,rfl⟩|⟨rfl,rfl⟩|⟨rfl,rfl⟩
  ·exact⟨_,.inl ⟨rfl,rfl⟩,LH⟩
  ·exact⟨_,.inl ⟨rfl,rfl⟩,LI⟩
  ·exact⟨_,.inr ⟨rfl,rfl⟩,LJ⟩
  exact⟨_,.inl ⟨rfl,rfl⟩,NG⟩
 have z:=bZ z;have hk:nm=⟨#[109,105,110]⟩\/nm=⟨#[109,97,120]⟩\/nm=⟨#[116,114,121]⟩\/nm=⟨#[97,116]⟩:=by rcases r with⟨rfl,rfl⟩|⟨rfl,rfl⟩|⟨rfl,rfl⟩|⟨rfl,rfl⟩<;>simp
 clear r;rcases hk with rfl|rfl|rfl|rfl
 all_goals
  go_enter func230,ntmps230;go_wp2_with(first|(go_at_call 144;refine N.Z.mono ?_;rintro e w' ⟨rfl,rfl⟩)|(go_at_call 231;refine M.Z.mono ?_;rintro e w' ⟨rfl,rfl⟩;unfold gp));clear N M;refine(j9 s u B _ c (Except.ok i) w h hs ⟨#[40]⟩ RZ i D).mono ?_;rintro e w1⟨rfl,k1,y⟩;have S:=Good.cv D (t:=[40]) R2;have b1:=eO D (t:=[40]) R2;go_wp2_with fail;refine(H n (af _) b l i _ w1 _ hd RM R8 S k1 RM).mono ?_;rintro e w2⟨x2,n2,rfl,k2,J,b2,aa,ai⟩;have E:=Good.P S n 0 b l;go_wp2_with fail;refine(j9 s u B _ n2 _ w2 k2 hs ⟨#[44]⟩ RZ i E).mono ?_;rintro e w3⟨rfl,k3,K⟩;have T:=Good.cv E (t:=[44]) R2;have b3:=eO E (t:=[44]) R2;go_wp2_with fail;refine(H n (af _) b l i _ w3 _ hd RM R8 T k3 RM).mono ?_;rintro e w4⟨x4,p,rfl,k4,Z,b4,C,ak⟩;have F:=Good.P T n 0 b l;go_wp2_with fail;refine(j9 s u B _ p _ w4 k4 hs ⟨#[41]⟩ RZ i F).mono ?_;rintro e L⟨rfl,k5,r5⟩;have g5:=Good.cv F (t:=[41]) R2;have b5:=eO F (t:=[41]) R2;go_wp2_with fail;refine(z.Z L).mono ?_;rintro e w6⟨rfl,rfl⟩;go_wp2_with fail;refine(kD s u B l p _ L k5 _ _ _ _ _ RM).mono ?_;rintro e w7⟨rfl,k7,r7⟩;go_wp2_with fail;go_ret
  refine⟨_,_,rfl,k7,(y.trans (J.trans (K.trans (Z.trans (r5.trans r7))))),by rw[aj,aD];omega,((((Ex.refl w c).then aa y.size).then C ((y.trans J).trans K).size).then (Ex.one L p _ rfl) ((((y.trans J).trans K).trans Z).trans r5).size),λj hj=>⟨p.length,rfl,by rw[aj,aD];omega,λi0 ab=>?_⟩⟩;obtain⟨j5,Y,P⟩:=andThen_ok hj;obtain⟨j4,X,e4⟩:=andThen_ok Y;obtain⟨a4,R,av,c4⟩:=ak _ Y;have s4:=c4 _ X;obtain⟨j3,V,O⟩:=andThen_ok X;obtain⟨j2,U,e2⟩:=andThen_ok V;obtain⟨a2,Q,ap,c2⟩:=ai _ V;have s2:=c2 _ U;obtain⟨j1,q1,e1⟩:=andThen_ok U;cases q1;rcases ad with⟨rfl,rfl⟩|⟨rfl,rfl⟩
  ·exact OI (ie p _) (by rw[ab]) Q R e1 (Sub.ext s2 (C.ext.trans (Ext.one p _))) O (Sub.ext s4 (Ext.one p _)) P
  exact OJ (ie p _) rfl Q R e1 (Sub.ext s2 (C.ext.trans (Ext.one p _))) O (Sub.ext s4 (Ext.one p _)) P
def A2(s:ba)(b B n l its:Nat)(hs:s.size<=200)(hd:l<=20)(av:its+1<=l)(H:∀m,m<=n->RT s b B 65 0 m)(nm:ba)(k:Nat)(r:(nm=⟨#[101,97,99,104]⟩/\k=15)\/(nm=⟨#[115,111,109,101]⟩/\k=16)):jh s b B n l its nm (λi=>(bY.andThen (bY.andThen (bY.andThen (bY.andThen (bY.andThen (Except.ok i) (bY.cv s.1.1 [40])) (bY.P s.1.1 n 0 l its)) (bY.cv s.1.1 [44])) (bY.P s.1.1 n 0 l (its+1))) (bY.cv s.1.1 [41]))) (PK s.1.1 n l its k nm.1.1):=by
 intro i c w hi ao h hc;have e1:dN nm.1.1=false:=by rcases r with⟨rfl,rfl⟩|⟨rfl,rfl⟩<;>decide
 have e2:dJ nm.1.1=none:=by rcases r with⟨rfl,rfl⟩|⟨rfl,rfl⟩<;>decide
 have J:=eJ nm w TB;have I:=eC nm w TB;rw[e1]at J;rw[e2]at I;have P:=bZ J;have O:=bZ I;clear J I e1 e2;have E:Good s i (.ok i):=λa ha=>by cases ha;exact⟨af _,hi⟩
 obtain⟨o,ai,C⟩:∃o:Int,((k=15/\o=101)\/(k=16/\o=115))/\∀w,Calls prog 273 #[.string nm] w λe w'=>e=.returned (.int .u8 o)/\w=w':=by
  rcases r with⟨rfl,rfl⟩|⟨rfl,rfl⟩
  ·exact⟨_,.inl ⟨rfl,rfl⟩,Jc⟩
  exact⟨_,.inr ⟨rfl,rfl⟩,Jd⟩
 have C:=bZ C;have hk:nm=⟨#[101,97,99,104]⟩\/nm=⟨#[115,111,109,101]⟩:=by rcases r with⟨rfl,rfl⟩|⟨rfl,rfl⟩<;>simp
 clear r;rcases hk with rfl|rfl
 all_goals
  go_enter func230,ntmps230;go_wp2_with(first|(go_at_call 144;refine P.Z.mono ?_;rintro e w' ⟨rfl,rfl⟩)|(go_at_call 231;refine O.Z.mono ?_;rintro e w' ⟨rfl,rfl⟩;unfold gp));clear P O;refine(j9 s b B _ c (Except.ok i) w h hs ⟨#[40]⟩ RZ i E).mono ?_;rintro e w1⟨rfl,k1,y⟩;have R:=Good.cv E (t:=[40]) R2;have b1:=eO E (t:=[40]) R2;go_wp2_with fail;refine(H n (af _) l its i _ w1 _ hd RM R8 R k1 RM).mono ?_;rintro e w2⟨x2,U,rfl,k2,K,b2,ad,ak⟩;have F:=Good.P R n 0 l its;go_wp2_with fail;refine(j9 s b B _ U _ w2 k2 hs ⟨#[44]⟩ RZ i F).mono ?_;rintro e w3⟨rfl,k3,L⟩;have S:=Good.cv F (t:=[44]) R2;have b3:=eO F (t:=[44]) R2;obtain⟨u,cf,D⟩:=k3.cells;go_wp2_with fail;have k4:RX s b B (its+1) U (bY.andThen (bY.andThen (bY.andThen (Except.ok i) (bY.cv s.1.1 [40])) (bY.P s.1.1 n 0 l its)) (bY.cv s.1.1 [44])) (w3.setCell ⟨b,5,none⟩ (.int .i64 ((its:Int)+1))):=k3.its (its+1);have M:RF b B w3 (w3.setCell ⟨b,5,none⟩ (.int .i64 ((its:Int)+1))):=RF.set 5 _;clear u cf D;refine(H n (af _) l (its+1) i _ (w3.setCell ⟨b,5,none⟩ (.int .i64 ((its:Int)+1))) _ hd RM R8 S k4 RM).mono ?_;rintro e z⟨x5,p,rfl,T,r5,b5,Q,am⟩;have G:=Good.P S n 0 l (its+1);obtain⟨u,cf,D⟩:=T.cells;go_wp2_with fail
  have k6:RX s b B its p (bY.andThen (bY.andThen (bY.andThen (bY.andThen (Except.ok i) (bY.cv s.1.1 [40])) (bY.P s.1.1 n 0 l its)) (bY.cv s.1.1 [44])) (bY.P s.1.1 n 0 l (its+1))) (z.setCell ⟨b,5,none⟩ (.int .i64 (its:Int))):=T.its its;have r6:RF b B z (z.setCell ⟨b,5,none⟩ (.int .i64 (its:Int))):=RF.set 5 _;clear u cf D;refine(j9 s b B _ p _ (z.setCell ⟨b,5,none⟩ (.int .i64 (its:Int))) k6 hs ⟨#[41]⟩ RZ i G).mono ?_;rintro e N⟨rfl,k7,r7⟩;have g7:=Good.cv G (t:=[41]) R2;have b7:=eO G (t:=[41]) R2;go_wp2_with fail;refine(C.Z N).mono ?_;rintro e w8⟨rfl,rfl⟩;go_wp2_with fail;refine(kD s b B its p _ N k7 _ _ _ _ _ RM).mono ?_;rintro e w9⟨rfl,k9,r9⟩;go_wp2_with fail;go_ret;refine⟨_,_,rfl,k9,(y.trans (K.trans (L.trans (M.trans (r5.trans (r6.trans (r7.trans r9))))))),by rw[aj,aD];omega,((((Ex.refl w c).then ad y.size).then Q (((y.trans K).trans L).trans M).size).then (Ex.one N p _ rfl) ((((((y.trans K).trans L).trans M).trans r5).trans r6).trans r7).size),λj hj=>⟨p.length,rfl,by rw[aj,aD];omega,λi0 ap=>?_⟩⟩;obtain⟨j7,Z,e7⟩:=andThen_ok hj;obtain⟨j5,Y,e5⟩:=andThen_ok Z;obtain⟨a5,ab,ay,u⟩:=am _ Z;have s5:=u _ Y;obtain⟨j3,X,e3⟩:=andThen_ok Y;obtain⟨j2,V,e2⟩:=andThen_ok X;obtain⟨a2,aa,ax,c2⟩:=ak _ X;have s2:=c2 _ V;obtain⟨j1,q1,e1⟩:=andThen_ok V;cases q1;rcases ai with⟨rfl,rfl⟩|⟨rfl,rfl⟩
  all_goals exact OL RZ (ie p _) rfl aa ab e1 (Sub.ext s2 (Q.ext.trans (Ext.one p _))) e3 (Sub.ext s5 (Ext.one p _)) e7
end Ref
end
section
open bY
open Tryz
namespace Ref
variable{l x:a_}{ns:List Nd}{d:Nd}{s t:ba}
def NH(h:(bY.tok l).1=2)(a:(dJ (l.take (jq l))).isSome=true):∃v,m_ l=some v/\l.take (jq l)=wr 3 v:=by
 rw[kP l RM]at a ⊢;obtain⟨n,b⟩:=Q_.1 a;obtain⟨h1,h2⟩:=lR b;refine⟨vn n,?_,?_⟩
 ·unfold m_;rw[h];show some (vn ((dT (l.take (bY.tok l).2)).getD 0))=_;have e:dT (Lib.decDigits n)=some (n:Int):=by
   have:=gY (n:Int) RM RM;rw[oD RM]at this;exact this
  rw[h1,e];rfl
 rw[wE,h1,oD RM];rfl
def LO(h:(bY.tok l).1=3)(a:dN (l.take (jq l))=true):∃v,m_ l=some v/\l.take (jq l)=wr 3 v:=by
 rw[kP l RM]at a ⊢;have j:=BJ l;refine⟨vw ((l.drop 1).take ((bY.tok l).2-2)),?_,?_⟩
 ·unfold m_;rw[h];rfl
 unfold dN at a;rw[QB,QF]at a;obtain⟨⟨h2,_,e,b⟩,_⟩:=a;rw[rV];generalize (bY.tok l).2=k at *;rw[P7,RH j]at h2;cases l with
 |nil=>simp at j;omega
 |cons c r =>
  obtain⟨m,rfl⟩:∃m,k=m+2:=⟨k-2,by omega⟩;have n:m<r.length:=by simp at j;omega
  have e1:(c :: r).take (m+2)=c :: (r.take m++[r[m]]):=by
   rw[P5,Q2,aq n];rfl
  rw[e1]at e b ⊢;simp at e;rw[<-Qs,List.getLast?_concat]at b;injection b with b
  rw[e,b];rfl
def OM{n e p b j y:Nat}{v:V}(hd:ns[y]?=some d)(m:d.op=118)(hi:m_ (l.drop b)=some v)(hs:d.s.1.1=wr 3 v):PC l n e p 2 b j j ns y :=⟨0,[],by simp[gq],by simp only[mH,ij];exact⟨d,v,hd,m,hi,hs⟩⟩
def Pn{n e p b j y:Nat}(hd:ns[y]?=some d)(m:d.op=107)(hs:d.s.1.1=tx l b):PC l n e p 3 b j j ns y :=⟨0,[],by simp[gq],by simp only[mH,ij];exact⟨d,hd,m,hs⟩⟩
def FT(s:ba)(y B n b p:Nat)(hs:s.size<=200)(hd:b<=20)(K:p+1<=b)(H:∀m,m<=n->RT s y B 65 0 m):jh s y B n b p ⟨#[123]⟩ (λi=>Jb s.1.1 n b p i) (PK s.1.1 n b p 8 [123]):=by
 intro i c w hi F h hc;have e1:dN (⟨#[123]⟩:ba).1.1=false:=RZ;have e2:dJ (⟨#[123]⟩:ba).1.1=none:=RZ;have u:=eJ ⟨#[123]⟩ w RZ;have r:=eC ⟨#[123]⟩ w RZ;rw[e1]at u;rw[e2]at r;have C:=bZ u;have z:=bZ r;clear u r;have HL:=bZ (C' s y B n b p i c hs hi hd RM F H w h RM);go_enter func230,ntmps230;go_wp2_with(first|(go_at_call 144;refine C.Z.mono ?_;rintro e w' ⟨rfl,rfl⟩)|(go_at_call 231;refine z.Z.mono ?_;rintro e w' ⟨rfl,rfl⟩;unfold gp));clear C z;refine HL.Z.mono ?_;rintro e w1⟨x1,G,rfl,k1,I,b1,E,J⟩;go_wp2_with fail;go_ret;exact⟨_,G,rfl,k1,I,by omega,E,λj hj=>(by obtain⟨k,e1,e2,D⟩:=J j hj;exact⟨k,e1,e2,λL _=>Pk D⟩)⟩
def vC(s:ba)(C B n D y:Nat)(t:ba)(K:t.size<=1000)(hv:(dJ t.1.1).isSome=true\/(dJ t.1.1=none/\dN t.1.1=true))(G:Nat)(hval:∃v,m_ (s.1.1.drop G)=some v/\t.1.1=wr 3 v):jh s C B n D y t (λi=>.ok i) (PC s.1.1 n D y 2 G):=by
 obtain⟨L,E,F⟩:=hval;have u:=bZ (And.intro E F);clear E F;intro i c w hi J h hc;have m:=eJ t w RM;have b:=eC t w RM;cases hd:dJ t.1.1 with
 |some d =>
  rw[hd]at b;generalize dN t.1.1=I at m;have r:=bZ m;have p:=bZ b;clear m b hv hd;cases I
  all_goals
   go_enter func230,ntmps230;go_wp2_with(first|(go_at_call 144;refine r.Z.mono ?_;rintro e w' ⟨rfl,rfl⟩)|(go_at_call 231;refine p.Z.mono ?_;rintro e w' ⟨rfl,rfl⟩;unfold gp));clear r p;refine(kD s C B y c _ w h _ _ _ _ _ RM).mono ?_;rintro e w1⟨rfl,k1,z⟩;go_wp2_with fail;go_ret;exact⟨_,_,rfl,k1,z,by rw[aj,aD];omega,Ex.one w c _ rfl,λj hj=>⟨c.length,rfl,by rw[aj,aD];omega,(by cases hj;exact OM (ie c _) rfl u.Z.1 u.Z.2)⟩⟩
 |none =>
  rw[hd]at hv b;have hb:dN t.1.1=true:=by
   rcases hv with hv|hv
   ·cases hv
   exact hv.2
  rw[hb]at m;have r:=bZ m;have p:=bZ b;clear m b hv hd hb;go_enter func230,ntmps230;go_wp2_with(first|(go_at_call 144;refine r.Z.mono ?_;rintro e w' ⟨rfl,rfl⟩)|(go_at_call 231;refine p.Z.mono ?_;rintro e w' ⟨rfl,rfl⟩;unfold gp));clear r p;refine(kD s C B y c _ w h _ _ _ _ _ RM).mono ?_;rintro e w1⟨rfl,k1,z⟩;go_wp2_with fail;go_ret;exact⟨_,_,rfl,k1,z,by rw[aj,aD];omega,Ex.one w c _ rfl,λj hj=>⟨c.length,rfl,by rw[aj,aD];omega,(by cases hj;exact OM (ie c _) rfl u.Z.1 u.Z.2)⟩⟩
def FU(s:ba)(D B n z r:Nat)(t:ba)(J:t.size<=1000)(h1:dJ t.1.1=none)(h2:dN t.1.1=false)(b:om t.1.1=false)(F:(t.1.1==[105,116])=false)(C:Nat)(hval:t.1.1=tx s.1.1 C):jh s D B n z r t (λi=>.ok i) (PC s.1.1 n z r 3 C):=by
 have E:=bZ hval;clear hval;intro i c w hi I h hc;have p:=eJ t w RM;have m:=eC t w RM;rw[h2]at p;rw[h1]at m;have y:=bZ p;have u:=bZ m;clear p m h1 h2;rw[<-UC]at b F;simp only[om,Bool.or_eq_false_iff]at b;obtain⟨⟨⟨⟨⟨⟨⟨⟨⟨⟨⟨⟨⟨K,Q⟩,R⟩,S⟩,T⟩,U⟩,V⟩,X⟩,Y⟩,L⟩,M⟩,N⟩,O⟩,P⟩:=b;go_enter func230,ntmps230;go_wp2_with(first|(go_at_call 144;refine y.Z.mono ?_;rintro e w' ⟨rfl,rfl⟩)|(go_at_call 231;refine u.Z.mono ?_;rintro e w' ⟨rfl,rfl⟩;unfold gp));clear y u;refine(kD s D B r c _ w h _ _ _ _ _ RM).mono ?_;rintro e w1⟨rfl,k1,G⟩;go_wp2_with fail;go_ret;exact⟨_,_,rfl,k1,G,by rw[aj,aD];omega,Ex.one w c _ rfl,λj hj=>⟨c.length,rfl,by rw[aj,aD];omega,(by cases hj;exact Pn (ie c _) rfl E.Z)⟩⟩
def fK(r:Except (Nat×Nat) Nat)(f g:Nat->Except (Nat×Nat) Nat):bY.andThen (bY.andThen r f) g=bY.andThen r λj=>bY.andThen (f j) g:=by cases r<;>rfl
def gm(i:Nat)(f:Nat->Except (Nat×Nat) Nat):bY.andThen (.ok i) f=f i:=rfl
def LQ(l:a_)(n b e i:Nat):(bY.andThen (bY.andThen (bY.andThen (bY.andThen (bY.andThen (Except.ok i) (bY.P l n 0 b e)) (bY.cv l [116,104,101,110])) (bY.P l n 0 b e)) (bY.cv l [101,108,115,101])) (bY.P l n 3 b e))=fE l n b e 9 i:=by
 simp[fE,bY.parts,fK,gm]
def Jf(l:a_)(n b e i:Nat):(bY.andThen (bY.andThen (bY.andThen (Except.ok i) (bY.cv l [40])) (bY.P l n 0 b e)) (bY.cv l [41]))=fE l n b e 10 i:=by
 simp[fE,bY.parts,fK,gm]
def Jg(l:a_)(n b e i:Nat):(bY.andThen (bY.andThen (bY.andThen (Except.ok i) (bY.cv l [40])) (bY.P l n 0 b e)) (bY.cv l [41]))=fE l n b e 11 i:=by
 simp[fE,bY.parts,fK,gm]
def Jh(l:a_)(n b e i:Nat):(bY.andThen (bY.andThen (bY.andThen (Except.ok i) (bY.cv l [40])) (bY.P l n 0 b e)) (bY.cv l [41]))=fE l n b e 12 i:=by
 simp[fE,bY.parts,fK,gm]
def vD(l:a_)(n b e i:Nat):(bY.andThen (bY.andThen (bY.andThen (bY.andThen (bY.andThen (Except.ok i) (bY.cv l [40])) (bY.P l n 0 b e)) (bY.cv l [44])) (bY.P l n 0 b e)) (bY.cv l [41]))=fE l n b e 13 i:=by
 simp[fE,bY.parts,fK,gm]
def Ji(l:a_)(n b e i:Nat):(bY.andThen (bY.andThen (bY.andThen (bY.andThen (bY.andThen (Except.ok i) (bY.cv l [40])) (bY.P l n 0 b e)) (bY.cv l [44])) (bY.P l n 0 b e)) (bY.cv l [41]))=fE l n b e 14 i:=by
 simp[fE,bY.parts,fK,gm]
def Jj(l:a_)(n b e i:Nat):(bY.andThen (bY.andThen (bY.andThen (bY.andThen (bY.andThen (Except.ok i) (bY.cv l [40])) (bY.P l n 0 b e)) (bY.cv l [44])) (bY.P l n 0 b (e+1))) (bY.cv l [41]))=fE l n b e 15 i:=by
 simp[fE,bY.parts,fK,gm]
def Jk(l:a_)(n b e i:Nat):(bY.andThen (bY.andThen (bY.andThen (bY.andThen (bY.andThen (Except.ok i) (bY.cv l [40])) (bY.P l n 0 b e)) (bY.cv l [44])) (bY.P l n 0 b (e+1))) (bY.cv l [41]))=fE l n b e 16 i:=by
 simp[fE,bY.parts,fK,gm]
def jh.of{r B n b m k p:Nat}{F F':Nat->Except (Nat×Nat) Nat}(h:jh s r B n b m t F (PK s.1.1 n b m k x))(e:∀i,F i=F' i)(hx:tx s.1.1 p=x):jh s r B n b m t F' (PC s.1.1 n b m k p):=by
 have:F=F':=funext e;rw[<-this];intro i c w h1 h2 z C;refine(h i c w h1 h2 z C).mono ?_;rintro e w'⟨x,n',D,E,G,I,J,y⟩;exact⟨x,n',D,E,G,I,J,λj hj=>by obtain⟨k,e1,e2,u⟩:=y j hj;exact⟨k,e1,e2,u p hx⟩⟩
def oY(h:t.1.1=x):t=⟨x.toArray⟩:=by
 cases t with
 |mk d=>simp at h;subst h;simp
def NI{t:a_}(h1:gU t=false)(h2:∃c r,t=c :: r/\eo c=true):om t=false/\(t==[105,116])=false:=by
 obtain⟨c,r,rfl,hc⟩:=h2;constructor
 ·cases b:om (c :: r) with
  |false=>rfl
  |true =>
   exfalso;simp only[om,Ql,P']at b;rcases b with((((((((((((h|h)|h)|h)|h)|h)|h)|h)|h)|h)|h)|h)|h)|h
   all_goals first
    |(rw[h]at h1;revert h1;decide)
    |(injection h with h _;rw[h]at hc;revert hc;decide)
 rw[aw];intro h;rw[h]at h1;revert h1;decide
def Jl(s:ba)(u B n r p i:Nat)(hs:s.size<=200)(hd:r<=20)(C:p+1<=r)(z:cq s.1.1 i p≠0)(H:∀m,m<=n->RT s u B 65 0 m)(L:RT s u B 192 3 n):jh s u B n r p (s.extract i (i+jq (s.1.1.drop i))) (λj=>fE s.1.1 n r p (cq s.1.1 i p) j) (PC s.1.1 n r p (cq s.1.1 i p) i):=by
 have I:(s.extract i (i+jq (s.1.1.drop i))).size<=1000:=by rw[QD];omega
 have D:=kq s i;have F:cq s.1.1 i p=kindOf (bY.tok (s.1.1.drop i)).1 (tx s.1.1 i) p:=rfl;have G:2<=(bY.tok (s.1.1.drop i)).1->Ko s.1.1 i=tx s.1.1 i:=λh=>by unfold Ko;rw[kP _ h];rfl
 generalize s.extract i (i+jq (s.1.1.drop i))=t at I D;rcases kZ (s.1.1.drop i) (Ko s.1.1 i) rfl with⟨h,a⟩|⟨h,a,b⟩|⟨h,a,b,c,d,e⟩|⟨h,a,b,c,d⟩|⟨h,a,b,c,O,d,e⟩|⟨h,a,b,c,d⟩
 ·have E:cq s.1.1 i p=2:=by rw[F,h];rfl
  rw[E];exact vC s u B n r p t I (Or.inl (by rw[D];exact a)) i (by rw[D];exact NH h a)
 ·have E:cq s.1.1 i p=2:=by rw[F,h];rfl
  rw[E];exact vC s u B n r p t I (Or.inr (by rw[D];exact⟨a,b⟩)) i (by rw[D];exact LO h b)
 ·have E:cq s.1.1 i p=3:=by rw[F,h];rfl
  rw[E];obtain⟨M,N⟩:=NI d e;exact FU s u B n r p t I (by rw[D];exact a) (by rw[D];exact b) (by rw[D];exact M) (by rw[D];exact N) i (by rw[D];exact G RM)
 ·have E:cq s.1.1 i p=fu (Ko s.1.1 i) p:=by rw[F,h,G RM];rfl
  rw[E]at z ⊢;have y:=(G RM).symm;generalize Ko s.1.1 i=x at d D z y;simp only[gU,Ql,P']at d;rcases d with(((((((((((d|d)|d)|d)|d)|d)|d)|d)|d)|d)|d)|d)|d<;>subst d<;>have K:=oY D<;>subst K
  ·have e1:fu [105,102] p=9:=Sl;rw[e1];exact(LL s u B n r p hs hd C H L).of (λj=>LQ _ _ _ _ _) y
  ·exact absurd rfl z
  ·exact absurd rfl z
  ·have e0:0<p:=by
    rcases Nat.eq_zero_or_pos p with J|J
    ·subst J;exact absurd rfl z
    exact J
   have e1:fu [105,116] p=4:=by simp[fu,e0]
   rw[e1];exact(LK s u B n r p hs hd C).of (λj=>rfl) y
  ·have e1:fu [116,114,121] p=14:=Sl;rw[e1];exact(rl s u B n r p hs hd C H _ _ (.inr (.inr (.inl ⟨rfl,rfl⟩)))).of (λj=>Ji _ _ _ _ _) y
  ·have e1:fu [109,105,110] p=13:=Sl;rw[e1];exact(rl s u B n r p hs hd C H _ _ (.inl ⟨rfl,rfl⟩)).of (λj=>vD _ _ _ _ _) y
  ·have e1:fu [109,97,120] p=13:=Sl;rw[e1];exact(rl s u B n r p hs hd C H _ _ (.inr (.inl ⟨rfl,rfl⟩))).of (λj=>vD _ _ _ _ _) y
  ·have e1:fu [115,105,122,101] p=10:=Sl;rw[e1];exact(vz s u B n r p hs hd C H _ _ (.inl ⟨rfl,rfl⟩)).of (λj=>Jf _ _ _ _ _) y
  ·have e1:fu [97,116] p=13:=Sl;rw[e1];exact(rl s u B n r p hs hd C H _ _ (.inr (.inr (.inr ⟨rfl,rfl⟩)))).of (λj=>vD _ _ _ _ _) y
  ·have e1:fu [101,97,99,104] p=15:=Sl;rw[e1];exact(A2 s u B n r p hs hd C H _ _ (.inl ⟨rfl,rfl⟩)).of (λj=>Jj _ _ _ _ _) y
  ·have e1:fu [115,111,109,101] p=16:=Sl;rw[e1];exact(A2 s u B n r p hs hd C H _ _ (.inr ⟨rfl,rfl⟩)).of (λj=>Jk _ _ _ _ _) y
  ·have e1:fu [115,117,109] p=11:=Sl;rw[e1];exact(vz s u B n r p hs hd C H _ _ (.inr (.inl ⟨rfl,rfl⟩))).of (λj=>Jg _ _ _ _ _) y
  have e1:fu [119,111,114,100] p=12:=Sl;rw[e1];exact(vz s u B n r p hs hd C H _ _ (.inr (.inr ⟨rfl,rfl⟩))).of (λj=>Jh _ _ _ _ _) y
 ·have E:cq s.1.1 i p=jL (Ko s.1.1 i):=by rw[F,h,G RM];rfl
  rw[E]at z ⊢;have y:=(G RM).symm;rw[d]at D z y ⊢;rw[rF]at e;simp only[aP,RL,QL]at e;rcases e with rfl|rfl|rfl|rfl|rfl|rfl|rfl|rfl|rfl|rfl|rfl|rfl|rfl<;>have K:=oY D<;>subst K
  ·have e1:jL [40]=6:=by simp[jL]
   rw[e1];exact(Da s u B n r p hs hd C H).of (λj=>rfl) y
  ·exact absurd rfl z
  ·have e1:jL [91]=7:=by simp[jL]
   rw[e1];exact(Je s u B n r p hs hd C H).of (λj=>rfl) y
  ·exact absurd rfl z
  ·have e1:jL [123]=8:=by simp[jL]
   rw[e1];exact(FT s u B n r p hs hd C H).of (λj=>rfl) y
  ·exact absurd rfl z
  ·exact absurd rfl z
  ·exact absurd rfl z
  ·have e1:jL [45]=5:=by simp[jL]
   rw[e1];exact(C_ s u B n r p hs hd C L).of (λj=>rfl) y
  ·exact absurd rfl z
  ·exact absurd rfl z
  ·exact absurd rfl z
  exact absurd rfl z
 exfalso;apply z;rw[F];unfold kindOf;rw[ae RM,ae RM,ae RM,ae RM]
def Jm(l:a_)(i b:Nat):cq l i b≠1:=by
 intro h;unfold cq kindOf at h;split at h
 ·cases h
 split at h
 ·cases h
 split at h
 ·have:=(lU _ _ _ h).1;omega
 split at h
 ·have:=lV _ _ h;omega
 cases h
def NJ{n p b i j a:Nat}(u:cq l i b≠0)(hd:¬p=20)(h:PC l n (p+1) b (cq l i b) i (fC l i) j ns a)(hx:d.x=a)(y:d.op=102):Sub l (n+1) 3 p b i j (ns++[d]) ns.length:=by
 obtain⟨m,ts,h1,h2⟩:=h;refine⟨ij l (cq l i b) i ts,m+1,?_,?_⟩
 ·rw[PT,ae RZ,ae RZ,ae RZ,ag rfl,ae u,ae hd,h1];rfl
 unfold nB;rw[ae (show ¬(ij l (cq l i b) i ts).cq=1 from Jm l i b)];exact⟨d,a,ie ns d,y,hx,h2.mono (λi e r=>(Ext.one ns d).at r) (λx t h=>(Ext.one ns d).rep h (af _))⟩
def zq(s:ba)(u B n:Nat)(hs:s.size<=200)(H:∀m,m<=n->RT s u B 65 0 m)(E:RT s u B 192 3 n):RT s u B 192 3 (n+1):=by
 intro z b i0 st w c hd av ad hg h hc;cases st with
 |error y =>
  obtain⟨hy,v,i1,t1,C,I⟩:=h.err;obtain⟨R,c1,c2,S,T,L,U,cf⟩:=C.cells;have aC:((y.1:Int) != 0)=true:=Sm;show Calls _ _ _ _ (RP s u B b c w (.error y) 0 (.error y) _);go_enter func192,ntmps192;go_wp2_with fail;go_ret;exact⟨_,c,rfl,h,RF.refl _ _ _,af _,Ex.refl w c,λj hj=>SH⟩
 |ok i =>
  have hi:=hg i rfl;obtain⟨v,p,C,I⟩:=h.ok;obtain⟨R,c1,c2,S,T,L,U,cf⟩:=C.cells;have N:bY.andThen (.ok i) (bY.P s.1.1 (n+1) 3 z b)=if cq s.1.1 i b=0 then .error (3,i)else if z=20 then .error (4,i)else fE s.1.1 n (z+1) b (cq s.1.1 i b) (fC s.1.1 i):=rfl
  rw[N];have am:(s.extract i (i+jq (s.1.1.drop i))).size<=1000:=by rw[QD];omega
  have hb:=B8 (s.extract i (i+jq (s.1.1.drop i))) u b w am L;rw[kq]at hb;have M:ke (Ko s.1.1 i) b=decide (cq s.1.1 i b≠0):=zS s.1.1 i b;rw[M]at hb;by_cases r:cq s.1.1 i b=0
  ·rw[ag r];rw[aF (by simpa using r)]at hb;have D:=bZ hb;clear hb M N r H E;have J:=bZ (qC s u i _ p b 3 v w C);go_enter func192,ntmps192;go_wp2_with(go_at_call 229;refine D.Z.mono ?_;rintro e w' ⟨rfl,rfl⟩);refine J.Z.mono ?_;rintro e w1⟨rfl,k1,f1⟩;go_wp2_with fail;go_ret;exact⟨_,c,rfl,RX.eU (y:=(3,i)) k1 R2 (I.fr f1 h.lt) h.lt (ah h.le f1.size),RF.rj f1,by simp only[i_];omega,Ex.refl w c,λj hj=>SH⟩
  rw[ae r];rw[aS r]at hb;have D:=bZ hb;clear hb M N;by_cases G:z=20
  ·rw[ag G];subst G;clear H E r;have J:=bZ (qC s u i _ p b 4 v w C);go_enter func192,ntmps192;go_wp2_with(go_at_call 229;refine D.Z.mono ?_;rintro e w' ⟨rfl,rfl⟩);refine J.Z.mono ?_;rintro e w1⟨rfl,k1,f1⟩;go_wp2_with fail;go_ret;exact⟨_,c,rfl,RX.eU (y:=(4,i)) k1 R2 (I.fr f1 h.lt) h.lt (ah h.le f1.size),RF.rj f1,by simp only[i_];omega,Ex.refl w c,λj hj=>SH⟩
  rw[ae G];have ap:¬(20:Int)<=(z:Int):=RM;have ax:=fO (qy r);have ak:fC s.1.1 i<=s.size:=by have:=fb s.1.1 i (by simpa using hi.2);simpa using this
  have V:2<=(bY.tok (s.1.1.drop i)).1:=by
   rcases(by omega:2<=(bY.tok (s.1.1.drop i)).1\/(bY.tok (s.1.1.drop i)).1<=1)with h2|h2
   ·exact h2
   exfalso;apply r;unfold cq kindOf;rw[ae RM,ae RM,ae RM,ae RM]
  have K:=bZ (Jl s u B n (z+1) b i hs RM RM r H E);have Y:=bZ (vh s u B b c i w h hs hi.2 V);have ab:8*(s.size-fC s.1.1 i)+4<=n:=by simp[bY.nd]at ad;omega
  have ay:c.length+i_ s (.ok (fC s.1.1 i))+4<=c.length+i_ s (.ok i):=Ti;generalize fE s.1.1 n (z+1) b (cq s.1.1 i b)=F at K;have Q:=bZ (And.intro r G);clear H E r V C I;generalize s.extract i (i+jq (s.1.1.drop i))=t at c2 D K;go_enter func192,ntmps192;go_wp2_with(go_at_call 229;refine D.Z.mono ?_;rintro e w' ⟨rfl,rfl⟩);refine Y.Z.mono ?_;rintro e w1⟨rfl,k1,P⟩;clear R c1 c2 S T L U cf;go_wp2_with fail;refine(K.Z _ c w1 ak ab k1 RM).mono ?_;rintro e w2⟨x2,O,rfl,k2,X,b2,aa,ao⟩;go_wp2_with fail;refine(kD s u B b O _ w2 k2 _ _ _ _ _ RM).mono ?_;rintro e w3⟨rfl,k3,r3⟩;go_wp2_with fail;go_ret;refine⟨_,_,rfl,k3,P.trans (X.trans r3),by rw[aj,aD];omega,((Ex.refl w c).then aa P.size).then (Ex.one w2 O _ rfl) (P.trans X).size,λj hj=>⟨O.length,rfl,by rw[aj,aD];omega,λi' ai=>?_⟩⟩;cases ai;obtain⟨a,Z,_,hc⟩:=ao j hj;exact NJ Q.Z.1 Q.Z.2 hc Z rfl
def A3(s:ba)(b B:Nat)(hs:s.size<=200):∀n,RT s b B 65 0 n/\RT s b B 103 1 n/\RT s b B 145 2 n/\RT s b B 192 3 n:=by
 intro n
 induction n using Nat.strongRecOn with
 |ind n r =>
  cases n with
  |zero =>
   refine⟨?_,?_,?_,?_⟩
   all_goals
    intro u z i st w c hd y p;simp[bY.nd]at p
  |succ n =>
   have j:∀m,m<=n->_:=λm e=>r m RM;exact⟨C8 s b B n hs (j n (af _)).2.1,vq s b B n hs _ _ _ _ (.inl ⟨rfl,rfl,rfl,rfl⟩) (λm e=>(j m e).2.2.1),vq s b B n hs _ _ _ _ (.inr ⟨rfl,rfl,rfl,rfl⟩) (λm e=>(j m e).2.2.2),zq s b B n hs (λm e=>(j m e).1) (j n (af _)).2.2.2⟩
end Ref
end
