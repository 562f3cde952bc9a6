/- Out of Y10a. -/
import Derived.Test.YtpekpdimdelncaaGreatDoorP23
set_option linter.unusedVariables false
set_option maxRecDepth 100000
set_option maxHeartbeats 8000000
set_option linter.defProp false
namespace Go.Proofs.YtpekpdimdelncaaGreatDoor
open Go.RowKit
section
open bY
open Tryz
namespace Ref
def RX.its{s:ba}{e B its:Nat}{n:List Nd}{r:Except (Nat×Nat) Nat}{w:Xa}(h:RX s e B its n r w)(k):RX s e B k n r (w.setCell ⟨e,5,none⟩ (.int .i64 k)):=by
 obtain⟨u,i,t,code,place,h1,h2,C,F⟩:=h.held;have m:w.grownBy (w.setCell ⟨e,5,none⟩ (.int .i64 (k:Int))) (some e):=Fr.set (VQ _ _) _ _;exact⟨⟨u,i,t,code,place,iA h1 5 (.int .i64 (k:Int)),h2.fr m h.lt,C,F⟩,h.lt,ah h.le m.size⟩
def RX.cells{s:ba}{e B its:Nat}{n:List Nd}{m:Except (Nat×Nat) Nat}{w:Xa}(h:RX s e B its n m w):w.cell? ⟨e,5,none⟩=some (.int .i64 its)/\(∀o,w.frozen? ⟨e,o,none⟩=false)/\e<w.1.size:=by
 obtain⟨u,i,t,code,place,h1,_⟩:=h.held;have:=h1.cells;exact⟨this.2.2.2.2.2.1,this.2.2.2.2.2.2.2,h1.lt⟩
def RF.set{e B:Nat}{w:Xa}(o v):RF e B w (w.setCell ⟨e,o,none⟩ v):=RF.rF (Fr.set (VQ _ _) _ _)
def Sub(l:a_)(n e z its i j:Nat)(p:List Nd)(k:Nat):Prop:=∃t m,PT l n e z its i []=.ok (j,[t])/\nT p m k t
def Sub.ext{l:a_}{n r z its i j k:Nat}{p e:List Nd}(h:Sub l n r z its i j p k)(u:Ext p e):Sub l n r z its i j e k:=by
 obtain⟨t,m,h1,h2⟩:=h;exact⟨t,m,h1,u.rep h2 (af _)⟩
def PC(l:a_)(n z its k D i j:Nat)(p:List Nd)(y:Nat):Prop :=∃m e,gM l k i (λj=>PT l n 0 z its j []) (λj=>PT l n 3 z its j []) (λj=>PT l n 0 z (its+1) j []) (λj e=>PT l n 6 z its j e)=.ok (j,e)/\mZ p (nT p m) y (iB l k D e)
def PK(l:a_)(n z its k:Nat)(t:a_)(i j:Nat)(p:List Nd)(y:Nat):Prop:=∀D,tx l D=t->PC l n z its k D i j p y
def jv(s:ba)(e B n z its:Nat)(t:ba)(F:Nat->Except (Nat×Nat) Nat)(C:Nat->Nat->List Nd->Nat->Prop):Prop :=∀(i:Nat) (c:List Nd) (w:Xa),i<=s.size->8*(s.size-i)+4<=n->RX s e B its c (.ok i) w->c.length+jl s (.ok i)<=1996 ->Calls prog 230 #[.pointer (some ⟨e,0,none⟩),.string t,.int .i64 (z:Int)] w (RP s e B its c w (.ok i) 2 (F i) (C i))
section
variable {l:a_}{n z its D i j j1 E G I J y a b c:Nat}{p:List Nd}{d d0:Nd}
def Qt(hd:p[y]?=some d)(e:d.op=110):PC l n z its 4 D j j p y:=⟨0,[],by simp[gM],by simp only[mZ,iB];exact⟨d,hd,e⟩⟩
def Qu(hd:p[y]?=some d)(B:d.op=45)(hx:d.x=a)(F:d.y=b)(K:p[a]?=some d0)(u:d0.op=118)(C:d0.s.1.1=[48])(h1:Sub l n 3 z its i j p b):PC l n z its 5 D i j p y:=by
 obtain⟨t,m,e,r⟩:=h1;exact⟨m,[t],by simp only[gM];exact e,by simp only[mZ,iB];exact⟨d,d0,a,b,hd,B,hx,F,K,u,C,r⟩⟩
def Qv(h1:Sub l n 0 z its i j1 p y)(u:bY.cD l [41] j1=.ok j):PC l n z its 6 D i j p y:=by
 obtain⟨t,m,e,r⟩:=h1;exact⟨m,[t],by simp only[gM];rw[e];exact kW u _,by simp only[mZ,iB];exact r⟩
def Qw(hd:p[y]?=some d)(B:d.op=91)(hx:d.x=a)(h1:Sub l n 0 z its i j1 p a)(u:bY.cD l [93] j1=.ok j):PC l n z its 7 D i j p y:=by
 obtain⟨t,m,e,r⟩:=h1;exact⟨m,[t],by simp only[gM];rw[e];exact kW u _,by simp only[mZ,iB];exact⟨d,a,hd,B,hx,r⟩⟩
def Qx(h:LC l n z its i j p y):PC l n z its 8 D i j p y:=by
 obtain⟨d,e,K,hd,B,r,⟨m,u,C⟩,F⟩:=h;exact⟨m,K,by simp only[gM];exact F,by simp only[mZ,iB];exact⟨d,e,hd,B,r,u,C⟩⟩
def nV{m e x:Nat}{t:bY.T}(h:nT p m x t)(r:m<=e):nT p e x t:=h.mono (λ_ _ h=>h) r
def Qy(hd:p[y]?=some d)(u:d.op=63)(hx:d.x=a)(B:d.y=b)(C:d.z=c)(h1:Sub l n 0 z its i j1 p a)(e:bY.cD l [116,104,101,110] j1=.ok E)(h2:Sub l n 0 z its E G p b)(m:bY.cD l [101,108,115,101] G=.ok I)(r:Sub l n 3 z its I j p c):PC l n z its 9 D i j p y:=by
 obtain⟨t1,F,f1,M⟩:=h1;obtain⟨t2,K,f2,N⟩:=h2;obtain⟨t3,L,f3,O⟩:=r;refine⟨F+K+L,[t1,t2,t3],?_,?_⟩
 ·simp only[gM];rw[f1];simp[dh,kW e,f2,kW m,f3]
 simp only[mZ,iB];exact⟨d,a,b,c,hd,u,hx,B,C,nV M R5,nV N R5,nV O R5⟩
def P0{k:Nat}(C:k=10\/k=11\/k=12)(hd:p[y]?=some d)(F:d.op=49)(K:d.s.1.1=if k=10 then[115,105,122,101]else if k=11 then[115,117,109] else[119,111,114,100])(hx:d.x=a)(u:bY.cD l [40] i=.ok j1)(h1:Sub l n 0 z its j1 E p a)(B:bY.cD l [41] E=.ok j):PC l n z its k D i j p y:=by
 obtain⟨t,m,e,r⟩:=h1;rcases C with rfl|rfl|rfl
 all_goals
  refine⟨m,[t],?_,?_⟩
  ·simp only[gM];simp[kW u,dh,e,kW B]
  simp only[mZ,iB];exact⟨d,a,hd,F,K,hx,r⟩
def P1(hd:p[y]?=some d)(u:d.op=(JZ 13 (bY.byteOf (tx l D)):Int))(hx:d.x=a)(B:d.y=b)(e:bY.cD l [40] i=.ok j1)(h1:Sub l n 0 z its j1 E p a)(m:bY.cD l [44] E=.ok G)(h2:Sub l n 0 z its G I p b)(r:bY.cD l [41] I=.ok j):PC l n z its 13 D i j p y:=by
 obtain⟨t1,C,f1,K⟩:=h1;obtain⟨t2,F,f2,L⟩:=h2;refine⟨C+F,[t1,t2],?_,?_⟩
 ·simp only[gM];simp[kW e,dh,f1,kW m,f2,kW r]
 simp only[mZ,iB];exact⟨d,a,b,hd,u,hx,B,nV K R5,nV L R5⟩
def P2(hd:p[y]?=some d)(u:d.op=116)(hx:d.x=a)(B:d.y=b)(e:bY.cD l [40] i=.ok j1)(h1:Sub l n 0 z its j1 E p a)(m:bY.cD l [44] E=.ok G)(h2:Sub l n 0 z its G I p b)(r:bY.cD l [41] I=.ok j):PC l n z its 14 D i j p y:=by
 obtain⟨t1,C,f1,K⟩:=h1;obtain⟨t2,F,f2,L⟩:=h2;refine⟨C+F,[t1,t2],?_,?_⟩
 ·simp only[gM];simp[kW e,dh,f1,kW m,f2,kW r]
 simp only[mZ,iB];exact⟨d,a,b,hd,u,hx,B,nV K R5,nV L R5⟩
def P3{k:Nat}(u:k=15\/k=16)(hd:p[y]?=some d)(B:d.op=if k=15 then 101 else 115)(hx:d.x=a)(C:d.y=b)(e:bY.cD l [40] i=.ok j1)(h1:Sub l n 0 z its j1 E p a)(m:bY.cD l [44] E=.ok G)(h2:Sub l n 0 z (its+1) G I p b)(r:bY.cD l [41] I=.ok j):PC l n z its k D i j p y:=by
 obtain⟨t1,F,f1,L⟩:=h1;obtain⟨t2,K,f2,M⟩:=h2;rcases u with rfl|rfl
 all_goals
  refine⟨F+K,[t1,t2],?_,?_⟩
  ·simp only[gM];simp[kW e,dh,f1,kW m,f2,kW r]
  simp only[mZ,iB];exact⟨d,a,b,hd,B,hx,C,nV L R5,nV M R5⟩
end
def MP(w):Calls prog 273 #[.string ⟨#[109,105,110]⟩] w λe m=>e=.returned (.int .u8 105)/\w=m:=by
 go_enter func273,ntmps273;go_wp2;go_ret;exact⟨rfl,rfl⟩
def MQ(w):Calls prog 273 #[.string ⟨#[109,97,120]⟩] w λe m=>e=.returned (.int .u8 97)/\w=m:=by
 go_enter func273,ntmps273;go_wp2;go_ret;exact⟨rfl,rfl⟩
def OS(w):Calls prog 273 #[.string ⟨#[97,116]⟩] w λe m=>e=.returned (.int .u8 64)/\w=m:=by
 go_enter func273,ntmps273;go_wp2;go_ret;exact⟨rfl,rfl⟩
def MR(w):Calls prog 273 #[.string ⟨#[116,114,121]⟩] w λe m=>e=.returned (.int .u8 116)/\w=m:=by
 go_enter func273,ntmps273;go_wp2;go_ret;exact⟨rfl,rfl⟩
def J5(w):Calls prog 273 #[.string ⟨#[101,97,99,104]⟩] w λe m=>e=.returned (.int .u8 101)/\w=m:=by
 go_enter func273,ntmps273;go_wp2;go_ret;exact⟨rfl,rfl⟩
def J6(w):Calls prog 273 #[.string ⟨#[115,111,109,101]⟩] w λe m=>e=.returned (.int .u8 115)/\w=m:=by
 go_enter func273,ntmps273;go_wp2;go_ret;exact⟨rfl,rfl⟩
end Ref
namespace Ref
def MS(s C B n b l)(N:s.size<=200)(hd:b<=20)(M:l+1<=b):jv s C B n b l ⟨#[105,116]⟩ (λi=>(Except.ok i)) (PK s.1.1 n b l 4 [105,116]):=by
 intro i c w hi K h J;have y:dU (⟨#[105,116]⟩:ba).1.1=false:=S4;have z:dO (⟨#[105,116]⟩:ba).1.1=none:=S4;have p:=eR ⟨#[105,116]⟩ w S4;have m:=eJ ⟨#[105,116]⟩ w S4;rw[y]at p;rw[z]at m;have u:=bZ p;have r:=bZ m;clear p m y z;have I:Good s i (.ok i):=λa D=>by cases D;exact⟨af _,hi⟩
 go_enter func230,ntmps230;go_wp2_with(first|(go_at_call 144;refine u.Z.mono ?_;rintro e G ⟨rfl,rfl⟩)|(go_at_call 231;refine r.Z.mono ?_;rintro e G ⟨rfl,rfl⟩;unfold gK));clear u r;refine b_ (kQ s C B l c (Except.ok i) w h _ _ _ _ _ R5) λP ⟨k1,F⟩=>?_;go_wp2;go_ret;refine⟨_,_,rfl,k1,F,by rw[aj,aD];omega,(Ex.one w c _ rfl),λj E=>⟨c.length,rfl,by rw[aj,aD];omega,λO L=>?_⟩⟩;cases E;exact Qt (iz c _) rfl
def DS(s p B n l b)(hs:s.size<=200)(hd:l<=20)(ab:b+1<=l)(M:RT s p B 192 3 n):jv s p B n l b ⟨#[45]⟩ (λi=>(bY.andThen (Except.ok i) (bY.P s.1.1 n 3 l b))) (PK s.1.1 n l b 5 [45]):=by
 intro i c w hi Z h Y;have E:dU (⟨#[45]⟩:ba).1.1=false:=S4;have r:dO (⟨#[45]⟩:ba).1.1=none:=S4;have y:=eR ⟨#[45]⟩ w S4;have u:=eJ ⟨#[45]⟩ w S4;rw[E]at y;rw[r]at u;have D:=bZ y;have C:=bZ u;clear y u E r;have G:Good s i (.ok i):=λa P=>by cases P;exact⟨af _,hi⟩
 go_enter func230,ntmps230;go_wp2_with(first|(go_at_call 144;refine D.Z.mono ?_;rintro e S ⟨rfl,rfl⟩)|(go_at_call 231;refine C.Z.mono ?_;rintro e S ⟨rfl,rfl⟩;unfold gK));clear D C;refine b_ (kQ s p B b c (Except.ok i) w h _ _ _ _ _ R5) λT ⟨k1,z⟩=>?_;go_wp2_with fail;refine(M l b i (Except.ok i) T _ hd R5 Tk G k1 (by rw[aj,aD];omega)).mono ?_;rintro e L⟨x2,m,rfl,k2,K,b2,F,U⟩;rw[aj,aD]at b2;have X:=Good.P G n 3 l b;go_wp2_with fail;refine b_ (kQ s p B b m _ L k2 _ _ _ _ _ R5) λw3 ⟨k3,Q⟩=>?_;go_wp2;go_ret;refine⟨_,_,rfl,k3,(z.trans (K.trans Q)),by rw[aj,aD];omega,(((Ex.one w c _ rfl).then F z.size).then (Ex.one L m _ rfl) (z.trans K).size),λj I=>⟨m.length,rfl,by rw[aj,aD];omega,λi0 aa=>?_⟩⟩;obtain⟨j2,J,r⟩:=andThen_ok I;obtain⟨V,O,ad,N⟩:=U _ I;have R:=N _ J;cases J;exact Qu (iz m _) rfl rfl O ((Ext.one m _).at (F.ext.at (iz c _))) rfl rfl (Sub.ext R (Ext.one m _))
def DT(s C B n b l)(P:s.size<=200)(hd:b<=20)(ad:l+1<=b)(H:∀m,m<=n->RT s C B 65 0 m):jv s C B n b l ⟨#[40]⟩ (λi=>(bY.andThen (bY.andThen (Except.ok i) (bY.P s.1.1 n 0 b l)) (bY.cD s.1.1 [41]))) (PK s.1.1 n b l 6 [40]):=by
 intro i c w hi aa h hc;have r:dU (⟨#[40]⟩:ba).1.1=false:=S4;have p:dO (⟨#[40]⟩:ba).1.1=none:=S4;have z:=eR ⟨#[40]⟩ w S4;have y:=eJ ⟨#[40]⟩ w S4;rw[r]at z;rw[p]at y;have E:=bZ z;have D:=bZ y;clear z y r p;have F:Good s i (.ok i):=λa N=>by cases N;exact⟨af _,hi⟩
 go_enter func230,ntmps230;go_wp2_with(first|(go_at_call 144;refine E.Z.mono ?_;rintro e V ⟨rfl,rfl⟩)|(go_at_call 231;refine D.Z.mono ?_;rintro e V ⟨rfl,rfl⟩;unfold gK));clear E D;refine(H n (af _) b l i (Except.ok i) w _ hd R5 Tk F h R5).mono ?_;rintro e X⟨x1,R,rfl,k1,S,b1,M,Y⟩;have u:=Good.P F n 0 b l;go_wp2_with fail;refine b_ (kk s C B _ R _ X k1 P ⟨#[41]⟩ S4 i u) λw2 ⟨k2,T⟩=>?_;have Z:=Good.cD u (t:=[41]) S5;have b2:=eV u (t:=[41]) S5;go_wp2;go_ret;refine⟨_,_,rfl,k2,(S.trans T),by omega,M,λj O=>?_⟩;obtain⟨j2,I,p⟩:=andThen_ok O;obtain⟨j1,G,r⟩:=andThen_ok I;obtain⟨J,L,Q,K⟩:=Y _ I;have U:=K _ G;cases G;exact⟨J,L,Q,λi0 ab=>Qv U p⟩
def J7(s u B n b l)(S:s.size<=200)(hd:b<=20)(ad:l+1<=b)(H:∀m,m<=n->RT s u B 65 0 m):jv s u B n b l ⟨#[91]⟩ (λi=>(bY.andThen (bY.andThen (Except.ok i) (bY.P s.1.1 n 0 b l)) (bY.cD s.1.1 [93]))) (PK s.1.1 n b l 7 [91]):=by
 intro i c w hi aa h hc;have y:dU (⟨#[91]⟩:ba).1.1=false:=S4;have r:dO (⟨#[91]⟩:ba).1.1=none:=S4;have D:=eR ⟨#[91]⟩ w S4;have C:=eJ ⟨#[91]⟩ w S4;rw[y]at D;rw[r]at C;have F:=bZ D;have E:=bZ C;clear D C y r;have G:Good s i (.ok i):=λa Q=>by cases Q;exact⟨af _,hi⟩
 go_enter func230,ntmps230;go_wp2_with(first|(go_at_call 144;refine F.Z.mono ?_;rintro e V ⟨rfl,rfl⟩)|(go_at_call 231;refine E.Z.mono ?_;rintro e V ⟨rfl,rfl⟩;unfold gK));clear F E;refine(H n (af _) b l i (Except.ok i) w _ hd R5 Tk G h R5).mono ?_;rintro e X⟨x1,p,rfl,k1,K,b1,P,Y⟩;have z:=Good.P G n 0 b l;go_wp2_with fail;refine b_ (kk s u B _ p _ X k1 S ⟨#[93]⟩ S4 i z) λM ⟨k2,L⟩=>?_;have g2:=Good.cD z (t:=[93]) S5;have b2:=eV z (t:=[93]) S5;go_wp2_with fail;refine b_ (kQ s u B l p _ M k2 _ _ _ _ _ R5) λw3 ⟨k3,T⟩=>?_;go_wp2;go_ret;refine⟨_,_,rfl,k3,(K.trans (L.trans T)),by rw[aj,aD];omega,(P.then (Ex.one M p _ rfl) (K.trans L).size),λj R=>⟨p.length,rfl,by rw[aj,aD];omega,λi0 ab=>?_⟩⟩;obtain⟨j2,J,r⟩:=andThen_ok R;obtain⟨j1,I,y⟩:=andThen_ok J;obtain⟨Z,O,ai,N⟩:=Y _ J;have U:=N _ I;cases I;exact Qw (iz p _) rfl O (Sub.ext U (Ext.one p _)) r
def MT(s r B n b l)(S:s.size<=200)(hd:b<=20)(ax:l+1<=b)(H:∀m,m<=n->RT s r B 65 0 m)(H3:RT s r B 192 3 n):jv s r B n b l ⟨#[105,102]⟩ (λi=>(bY.andThen (bY.andThen (bY.andThen (bY.andThen (bY.andThen (Except.ok i) (bY.P s.1.1 n 0 b l)) (bY.cD s.1.1 [116,104,101,110])) (bY.P s.1.1 n 0 b l)) (bY.cD s.1.1 [101,108,115,101])) (bY.P s.1.1 n 3 b l))) (PK s.1.1 n b l 9 [105,102]):=by
 intro i c w hi ap h hc;have C:dU (⟨#[105,102]⟩:ba).1.1=false:=S4;have u:dO (⟨#[105,102]⟩:ba).1.1=none:=S4;have I:=eR ⟨#[105,102]⟩ w S4;have G:=eJ ⟨#[105,102]⟩ w S4;rw[C]at I;rw[u]at G;have M:=bZ I;have L:=bZ G;clear I G C u;have O:Good s i (.ok i):=λa ha=>by cases ha;exact⟨af _,hi⟩
 go_enter func230,ntmps230;go_wp2_with(first|(go_at_call 144;refine M.Z.mono ?_;rintro e w' ⟨rfl,rfl⟩)|(go_at_call 231;refine L.Z.mono ?_;rintro e w' ⟨rfl,rfl⟩;unfold gK));clear M L;refine(H n (af _) b l i (Except.ok i) w _ hd R5 Tk O h R5).mono ?_;rintro e w1⟨x1,n1,rfl,k1,y,b1,ai,ak⟩;have E:=Good.P O n 0 b l;go_wp2_with fail;refine b_ (kk s r B _ n1 _ w1 k1 S ⟨#[116,104,101,110]⟩ S4 i E) λw2 ⟨k2,z⟩=>?_;have P:=Good.cD E (t:=[116,104,101,110]) S5;have b2:=eV E (t:=[116,104,101,110]) S5;go_wp2_with fail;refine(H n (af _) b l i _ w2 _ hd R5 Tk P k2 R5).mono ?_;rintro e w3⟨x3,n3,rfl,k3,J,b3,N,am⟩;have F:=Good.P P n 0 b l;go_wp2_with fail;refine b_ (kk s r B _ n3 _ w3 k3 S ⟨#[101,108,115,101]⟩ S4 i F) λw4 ⟨k4,K⟩=>?_;have Q:=Good.cD F (t:=[101,108,115,101]) S5;have b4:=eV F (t:=[101,108,115,101]) S5;go_wp2_with fail;refine(H3 b l i _ w4 _ hd R5 Tk Q k4 R5).mono ?_;rintro e w5⟨x5,p,rfl,k5,Z,b5,D,ao⟩;have g5:=Good.P Q n 3 b l;go_wp2_with fail;refine b_ (kQ s r B l p _ w5 k5 _ _ _ _ _ R5) λw6 ⟨k6,r6⟩=>?_;go_wp2;go_ret
 refine⟨_,_,rfl,k6,(y.trans (z.trans (J.trans (K.trans (Z.trans r6))))),by rw[aj,aD];omega,(((ai.then N (y.trans z).size).then D (((y.trans z).trans J).trans K).size).then (Ex.one w5 p _ rfl) ((((y.trans z).trans J).trans K).trans Z).size),λj R=>⟨p.length,rfl,by rw[aj,aD];omega,λi0 av=>?_⟩⟩;obtain⟨j5,Y,e5⟩:=andThen_ok R;obtain⟨a5,ad,a0,c5⟩:=ao _ R;have s5:=c5 _ Y;obtain⟨j4,X,e4⟩:=andThen_ok Y;obtain⟨j3,V,e3⟩:=andThen_ok X;obtain⟨a3,ab,aC,c3⟩:=am _ X;have s3:=c3 _ V;obtain⟨j2,U,u⟩:=andThen_ok V;obtain⟨j1,T,C⟩:=andThen_ok U;obtain⟨a1,aa,ay,c1⟩:=ak _ U;have s1:=c1 _ T;cases T;exact Qy (iz p _) rfl aa ab ad (Sub.ext s1 ((N.ext.trans D.ext).trans (Ext.one p _))) u (Sub.ext s3 (D.ext.trans (Ext.one p _))) e4 (Sub.ext s5 (Ext.one p _))
def wv(s u B n b l)(L:s.size<=200)(hd:b<=20)(ai:l+1<=b)(H:∀m,m<=n->RT s u B 65 0 m)(nm k)(r:(nm=⟨#[115,105,122,101]⟩/\k=10)\/(nm=⟨#[115,117,109]⟩/\k=11)\/(nm=⟨#[119,111,114,100]⟩/\k=12)):jv s u B n b l nm (λi=>(bY.andThen (bY.andThen (bY.andThen (Except.ok i) (bY.cD s.1.1 [40])) (bY.P s.1.1 n 0 b l)) (bY.cD s.1.1 [41]))) (PK s.1.1 n b l k nm.1.1):=by
 intro i c w hi ab h hc;have y:dU nm.1.1=false:=by rcases r with⟨rfl,rfl⟩|⟨rfl,rfl⟩|⟨rfl,rfl⟩<;>decide
 have z:dO nm.1.1=none:=by rcases r with⟨rfl,rfl⟩|⟨rfl,rfl⟩|⟨rfl,rfl⟩<;>decide
 have F:=eR nm w UH;have E:=eJ nm w UH;rw[y]at F;rw[z]at E;have J:=bZ F;have I:=bZ E;clear F E y z;have C:Good s i (.ok i):=λa U=>by cases U;exact⟨af _,hi⟩
 rcases r with⟨rfl,rfl⟩|⟨rfl,rfl⟩|⟨rfl,rfl⟩
 all_goals
  go_enter func230,ntmps230;go_wp2_with(first|(go_at_call 144;refine J.Z.mono ?_;rintro e w' ⟨rfl,rfl⟩)|(go_at_call 231;refine I.Z.mono ?_;rintro e w' ⟨rfl,rfl⟩;unfold gK));clear J I;refine b_ (kk s u B _ c (Except.ok i) w h L ⟨#[40]⟩ S4 i C) λw1 ⟨k1,G⟩=>?_;have K:=Good.cD C (t:=[40]) S5;have b1:=eV C (t:=[40]) S5;go_wp2_with fail;refine(H n (af _) b l i _ w1 _ hd R5 Tk K k1 R5).mono ?_;rintro e w2⟨x2,p,rfl,k2,O,b2,T,aa⟩;have D:=Good.P K n 0 b l;go_wp2_with fail;refine b_ (kk s u B _ p _ w2 k2 L ⟨#[41]⟩ S4 i D) λw3 ⟨k3,P⟩=>?_;have g3:=Good.cD D (t:=[41]) S5;have b3:=eV D (t:=[41]) S5;go_wp2_with fail;refine b_ (kQ s u B l p _ w3 k3 _ _ _ _ _ R5) λw4 ⟨k4,Y⟩=>?_;go_wp2;go_ret;refine⟨_,_,rfl,k4,(G.trans (O.trans (P.trans Y))),by rw[aj,aD];omega,(((Ex.refl w c).then T G.size).then (Ex.one w3 p _ rfl) ((G.trans O).trans P).size),λj V=>⟨p.length,rfl,by rw[aj,aD];omega,λi0 ad=>?_⟩⟩;obtain⟨j3,N,R⟩:=andThen_ok V;obtain⟨j2,M,z⟩:=andThen_ok N;obtain⟨a2,S,ak,Q⟩:=aa _ N;have Z:=Q _ M;obtain⟨j1,X,y⟩:=andThen_ok M;cases X;exact P0 S4 (iz p _) rfl rfl S y (Sub.ext Z (Ext.one p _)) R
def rH(s u B n b l)(K:s.size<=200)(hd:b<=20)(ao:l+1<=b)(H:∀m,m<=n->RT s u B 65 0 m)(nm k)(r:(nm=⟨#[109,105,110]⟩/\k=13)\/(nm=⟨#[109,97,120]⟩/\k=13)\/(nm=⟨#[116,114,121]⟩/\k=14)\/(nm=⟨#[97,116]⟩/\k=13)):jv s u B n b l nm (λi=>(bY.andThen (bY.andThen (bY.andThen (bY.andThen (bY.andThen (Except.ok i) (bY.cD s.1.1 [40])) (bY.P s.1.1 n 0 b l)) (bY.cD s.1.1 [44])) (bY.P s.1.1 n 0 b l)) (bY.cD s.1.1 [41]))) (PK s.1.1 n b l k nm.1.1):=by
 intro i c w hi am h hc;have y:dU nm.1.1=false:=by rcases r with⟨rfl,rfl⟩|⟨rfl,rfl⟩|⟨rfl,rfl⟩|⟨rfl,rfl⟩<;>decide
 have D:dO nm.1.1=none:=by rcases r with⟨rfl,rfl⟩|⟨rfl,rfl⟩|⟨rfl,rfl⟩|⟨rfl,rfl⟩<;>decide
 have L:=eR nm w UI;have J:=eJ nm w UI;rw[y]at L;rw[D]at J;have R:=bZ L;have Q:=bZ J;clear L J y D;have F:Good s i (.ok i):=λa ha=>by cases ha;exact⟨af _,hi⟩
 obtain⟨o,ad,C⟩:∃o:Int,((k=13/\o=(JZ 13 (bY.byteOf nm.1.1):Int))\/(k=14/\o=116))/\∀w,Calls prog 273 #[.string nm] w λe O=>e=.returned (.int .u8 o)/\w=O:=by
  rcases r with⟨rfl,rfl⟩|⟨rfl,rfl⟩|⟨rfl,rfl⟩|⟨rfl,rfl⟩
  ·exact⟨_,.inl ⟨rfl,rfl⟩,MP⟩
  ·exact⟨_,.inl ⟨rfl,rfl⟩,MQ⟩
  ·exact⟨_,.inr ⟨rfl,rfl⟩,MR⟩
  exact⟨_,.inl ⟨rfl,rfl⟩,OS⟩
 have C:=bZ C;have hk:nm=⟨#[109,105,110]⟩\/nm=⟨#[109,97,120]⟩\/nm=⟨#[116,114,121]⟩\/nm=⟨#[97,116]⟩:=by rcases r with⟨rfl,rfl⟩|⟨rfl,rfl⟩|⟨rfl,rfl⟩|⟨rfl,rfl⟩<;>simp
 clear r;rcases hk with rfl|rfl|rfl|rfl
 all_goals
  go_enter func230,ntmps230;go_wp2_with(first|(go_at_call 144;refine R.Z.mono ?_;rintro e O ⟨rfl,rfl⟩)|(go_at_call 231;refine Q.Z.mono ?_;rintro e O ⟨rfl,rfl⟩;unfold gK));clear R Q;refine b_ (kk s u B _ c (Except.ok i) w h K ⟨#[40]⟩ S4 i F) λw1 ⟨k1,z⟩=>?_;have X:=Good.cD F (t:=[40]) S5;have b1:=eV F (t:=[40]) S5;go_wp2_with fail;refine(H n (af _) b l i _ w1 _ hd R5 Tk X k1 R5).mono ?_;rintro e w2⟨x2,n2,rfl,k2,M,b2,aa,ai⟩;have G:=Good.P X n 0 b l;go_wp2_with fail;refine b_ (kk s u B _ n2 _ w2 k2 K ⟨#[44]⟩ S4 i G) λw3 ⟨k3,N⟩=>?_;have Y:=Good.cD G (t:=[44]) S5;have b3:=eV G (t:=[44]) S5;go_wp2_with fail;refine(H n (af _) b l i _ w3 _ hd R5 Tk Y k3 R5).mono ?_;rintro e w4⟨x4,p,rfl,k4,r4,b4,E,ak⟩;have I:=Good.P Y n 0 b l;go_wp2_with fail;refine b_ (kk s u B _ p _ w4 k4 K ⟨#[41]⟩ S4 i I) λP ⟨k5,r5⟩=>?_;have g5:=Good.cD I (t:=[41]) S5;have b5:=eV I (t:=[41]) S5;go_wp2_with fail;refine(C.Z P).mono ?_;rintro e w6⟨rfl,rfl⟩;go_wp2_with fail;refine b_ (kQ s u B l p _ P k5 _ _ _ _ _ R5) λw7 ⟨k7,r7⟩=>?_;go_wp2;go_ret
  refine⟨_,_,rfl,k7,(z.trans (M.trans (N.trans (r4.trans (r5.trans r7))))),by rw[aj,aD];omega,((((Ex.refl w c).then aa z.size).then E ((z.trans M).trans N).size).then (Ex.one P p _ rfl) ((((z.trans M).trans N).trans r4).trans r5).size),λj hj=>⟨p.length,rfl,by rw[aj,aD];omega,λi0 ab=>?_⟩⟩;obtain⟨j5,q5,T⟩:=andThen_ok hj;obtain⟨j4,q4,e4⟩:=andThen_ok q5;obtain⟨a4,V,av,c4⟩:=ak _ q5;have s4:=c4 _ q4;obtain⟨j3,q3,S⟩:=andThen_ok q4;obtain⟨j2,Z,D⟩:=andThen_ok q3;obtain⟨a2,U,ap,c2⟩:=ai _ q3;have s2:=c2 _ Z;obtain⟨j1,q1,y⟩:=andThen_ok Z;cases q1;rcases ad with⟨rfl,rfl⟩|⟨rfl,rfl⟩
  ·exact P1 (iz p _) (by rw[ab]) U V y (Sub.ext s2 (E.ext.trans (Ext.one p _))) S (Sub.ext s4 (Ext.one p _)) T
  exact P2 (iz p _) rfl U V y (Sub.ext s2 (E.ext.trans (Ext.one p _))) S (Sub.ext s4 (Ext.one p _)) T
def BI(s b B n l its)(M:s.size<=200)(hd:l<=20)(av:its+1<=l)(H:∀m,m<=n->RT s b B 65 0 m)(nm k)(r:(nm=⟨#[101,97,99,104]⟩/\k=15)\/(nm=⟨#[115,111,109,101]⟩/\k=16)):jv s b B n l its nm (λi=>(bY.andThen (bY.andThen (bY.andThen (bY.andThen (bY.andThen (Except.ok i) (bY.cD s.1.1 [40])) (bY.P s.1.1 n 0 l its)) (bY.cD s.1.1 [44])) (bY.P s.1.1 n 0 l (its+1))) (bY.cD s.1.1 [41]))) (PK s.1.1 n l its k nm.1.1):=by
 intro i c w hi ao h hc;have y:dU nm.1.1=false:=by rcases r with⟨rfl,rfl⟩|⟨rfl,rfl⟩<;>decide
 have G:dO nm.1.1=none:=by rcases r with⟨rfl,rfl⟩|⟨rfl,rfl⟩<;>decide
 have N:=eR nm w UJ;have L:=eJ nm w UJ;rw[y]at N;rw[G]at L;have U:=bZ N;have T:=bZ L;clear N L y G;have I:Good s i (.ok i):=λa ha=>by cases ha;exact⟨af _,hi⟩
 obtain⟨o,ai,D⟩:∃o:Int,((k=15/\o=101)\/(k=16/\o=115))/\∀w,Calls prog 273 #[.string nm] w λe R=>e=.returned (.int .u8 o)/\w=R:=by
  rcases r with⟨rfl,rfl⟩|⟨rfl,rfl⟩
  ·exact⟨_,.inl ⟨rfl,rfl⟩,J5⟩
  exact⟨_,.inr ⟨rfl,rfl⟩,J6⟩
 have D:=bZ D;have hk:nm=⟨#[101,97,99,104]⟩\/nm=⟨#[115,111,109,101]⟩:=by rcases r with⟨rfl,rfl⟩|⟨rfl,rfl⟩<;>simp
 clear r;rcases hk with rfl|rfl
 all_goals
  go_enter func230,ntmps230;go_wp2_with(first|(go_at_call 144;refine U.Z.mono ?_;rintro e R ⟨rfl,rfl⟩)|(go_at_call 231;refine T.Z.mono ?_;rintro e R ⟨rfl,rfl⟩;unfold gK));clear U T;refine b_ (kk s b B _ c (Except.ok i) w h M ⟨#[40]⟩ S4 i I) λw1 ⟨k1,z⟩=>?_;have X:=Good.cD I (t:=[40]) S5;have b1:=eV I (t:=[40]) S5;go_wp2_with fail;refine(H n (af _) l its i _ w1 _ hd R5 Tk X k1 R5).mono ?_;rintro e w2⟨x2,n2,rfl,k2,O,b2,ad,ak⟩;have J:=Good.P X n 0 l its;go_wp2_with fail;refine b_ (kk s b B _ n2 _ w2 k2 M ⟨#[44]⟩ S4 i J) λw3 ⟨k3,P⟩=>?_;have Y:=Good.cD J (t:=[44]) S5;have b3:=eV J (t:=[44]) S5;obtain⟨u,E,F⟩:=k3.cells;go_wp2_with fail;have k4:RX s b B (its+1) n2 (bY.andThen (bY.andThen (bY.andThen (Except.ok i) (bY.cD s.1.1 [40])) (bY.P s.1.1 n 0 l its)) (bY.cD s.1.1 [44])) (w3.setCell ⟨b,5,none⟩ (.int .i64 ((its:Int)+1))):=k3.its (its+1);have Q:RF b B w3 (w3.setCell ⟨b,5,none⟩ (.int .i64 ((its:Int)+1))):=RF.set 5 _;clear u E F;refine(H n (af _) l (its+1) i _ (w3.setCell ⟨b,5,none⟩ (.int .i64 ((its:Int)+1))) _ hd R5 Tk Y k4 R5).mono ?_;rintro e C⟨x5,p,rfl,Z,r5,b5,V,am⟩;have K:=Good.P Y n 0 l (its+1);obtain⟨u,E,F⟩:=Z.cells;go_wp2_with fail
  have k6:RX s b B its p (bY.andThen (bY.andThen (bY.andThen (bY.andThen (Except.ok i) (bY.cD s.1.1 [40])) (bY.P s.1.1 n 0 l its)) (bY.cD s.1.1 [44])) (bY.P s.1.1 n 0 l (its+1))) (C.setCell ⟨b,5,none⟩ (.int .i64 (its:Int))):=Z.its its;have r6:RF b B C (C.setCell ⟨b,5,none⟩ (.int .i64 (its:Int))):=RF.set 5 _;clear u E F;refine b_ (kk s b B _ p _ (C.setCell ⟨b,5,none⟩ (.int .i64 (its:Int))) k6 M ⟨#[41]⟩ S4 i K) λS ⟨k7,r7⟩=>?_;have g7:=Good.cD K (t:=[41]) S5;have b7:=eV K (t:=[41]) S5;go_wp2_with fail;refine(D.Z S).mono ?_;rintro e w8⟨rfl,rfl⟩;go_wp2_with fail;refine b_ (kQ s b B its p _ S k7 _ _ _ _ _ R5) λw9 ⟨k9,r9⟩=>?_;go_wp2;go_ret;refine⟨_,_,rfl,k9,(z.trans (O.trans (P.trans (Q.trans (r5.trans (r6.trans (r7.trans r9))))))),by rw[aj,aD];omega,((((Ex.refl w c).then ad z.size).then V (((z.trans O).trans P).trans Q).size).then (Ex.one S p _ rfl) ((((((z.trans O).trans P).trans Q).trans r5).trans r6).trans r7).size),λj hj=>⟨p.length,rfl,by rw[aj,aD];omega,λi0 ap=>?_⟩⟩;obtain⟨j7,q7,e7⟩:=andThen_ok hj;obtain⟨j5,q5,e5⟩:=andThen_ok q7;obtain⟨a5,ab,ay,u⟩:=am _ q7;have s5:=u _ q5;obtain⟨j3,q3,e3⟩:=andThen_ok q5;obtain⟨j2,q2,G⟩:=andThen_ok q3;obtain⟨a2,aa,ax,c2⟩:=ak _ q3;have s2:=c2 _ q2;obtain⟨j1,q1,y⟩:=andThen_ok q2;cases q1;rcases ai with⟨rfl,rfl⟩|⟨rfl,rfl⟩
  all_goals exact P3 S4 (iz p _) rfl aa ab y (Sub.ext s2 (V.ext.trans (Ext.one p _))) e3 (Sub.ext s5 (Ext.one p _)) e7
end Ref
namespace Ref
variable{l x:a_}{u:List Nd}{d:Nd}{s t:ba}
def OT(h:(bY.tok l).1=2)(a:(dO (l.take (jD l))).isSome=true):∃v,nG l=some v/\l.take (jD l)=wr 3 v:=by
 rw[k_ l R5]at a ⊢;obtain⟨n,b⟩:=Su.1 a;obtain⟨h1,h2⟩:=mh b;refine⟨vn n,?_,?_⟩
 ·unfold nG;rw[h];show some (vn ((d_ (l.take (bY.tok l).2)).getD 0))=_;have e:d_ (Lib.decDigits n)=some (n:Int):=by
   have:=ie (n:Int) R5 R5;rw[o_ R5]at this;exact this
  rw[h1,e];rfl
 rw[xo,h1,o_ R5];rfl
def MU(h:(bY.tok l).1=3)(a:dU (l.take (jD l))=true):∃v,nG l=some v/\l.take (jD l)=wr 3 v:=by
 rw[k_ l R5]at a ⊢;have j:=Co l;refine⟨vw ((l.drop 1).take ((bY.tok l).2-2)),?_,?_⟩
 ·unfold nG;rw[h];rfl
 unfold dU at a;rw[RO,SD]at a;obtain⟨⟨h2,_,e,b⟩,_⟩:=a;rw[sy];generalize (bY.tok l).2=k at *;rw[Rf,SX j]at h2;cases l with
 |nil=>simp at j;omega
 |cons c r =>
  obtain⟨m,rfl⟩:∃m,k=m+2:=⟨k-2,by omega⟩;have p:m<r.length:=by simp at j;omega
  have n:(c::r).take (m+2)=c::(r.take m++[r[m]]):=by
   rw[Q9,Sf,aq p];rfl
  rw[n]at e b ⊢;simp at e;rw[<-RC,List.getLast?_concat]at b;injection b with b
  rw[e,b];rfl
def P4{n e r b j y:Nat}{v:V}(hd:u[y]?=some d)(m:d.op=118)(hi:nG (l.drop b)=some v)(p:d.s.1.1=wr 3 v):PC l n e r 2 b j j u y :=⟨0,[],by simp[gM],by simp only[mZ,iB];exact⟨d,v,hd,m,hi,p⟩⟩
def Qz{n e r b j y:Nat}(hd:u[y]?=some d)(m:d.op=107)(p:d.s.1.1=tx l b):PC l n e r 3 b j j u y :=⟨0,[],by simp[gM],by simp only[mZ,iB];exact⟨d,hd,m,p⟩⟩
def GL(s D B n b p)(L:s.size<=200)(hd:b<=20)(R:p+1<=b)(H:∀m,m<=n->RT s D B 65 0 m):jv s D B n b p ⟨#[123]⟩ (λi=>J4 s.1.1 n b p i) (PK s.1.1 n b p 8 [123]):=by
 intro i c w hi J h Q;have r:dU (⟨#[123]⟩:ba).1.1=false:=S4;have y:dO (⟨#[123]⟩:ba).1.1=none:=S4;have C:=eR ⟨#[123]⟩ w S4;have z:=eJ ⟨#[123]⟩ w S4;rw[r]at C;rw[y]at z;have F:=bZ C;have E:=bZ z;clear C z;have HL:=bZ (DR s D B n b p i c L hi hd R5 J H w h R5);go_enter func230,ntmps230;go_wp2_with(first|(go_at_call 144;refine F.Z.mono ?_;rintro e O ⟨rfl,rfl⟩)|(go_at_call 231;refine E.Z.mono ?_;rintro e O ⟨rfl,rfl⟩;unfold gK));clear F E;refine HL.Z.mono ?_;rintro e T⟨U,M,rfl,k1,N,b1,I,P⟩;go_wp2;go_ret;exact⟨_,M,rfl,k1,N,by omega,I,λj K=>(by obtain⟨k,r,y,G⟩:=P j K;exact⟨k,r,y,λS _=>Qx G⟩)⟩
def wA(s F B n I C t)(R:t.size<=1000)(b:(dO t.1.1).isSome=true\/(dO t.1.1=none/\dU t.1.1=true))(M)(hval:∃v,nG (s.1.1.drop M)=some v/\t.1.1=wr 3 v):jv s F B n I C t (λi=>.ok i) (PC s.1.1 n I C 2 M):=by
 obtain⟨S,K,L⟩:=hval;have z:=bZ (And.intro K L);clear K L;intro i c w hi Q h P;have p:=eR t w R5;have m:=eJ t w R5;cases hd:dO t.1.1 with
 |some d =>
  rw[hd]at m;generalize dU t.1.1=N at p;have y:=bZ p;have r:=bZ m;clear p m b hd;cases N
  all_goals
   go_enter func230,ntmps230;go_wp2_with(first|(go_at_call 144;refine y.Z.mono ?_;rintro e G ⟨rfl,rfl⟩)|(go_at_call 231;refine r.Z.mono ?_;rintro e G ⟨rfl,rfl⟩;unfold gK));clear y r;refine b_ (kQ s F B C c _ w h _ _ _ _ _ R5) λO ⟨k1,E⟩=>?_;go_wp2;go_ret;exact⟨_,_,rfl,k1,E,by rw[aj,aD];omega,Ex.one w c _ rfl,λj D=>⟨c.length,rfl,by rw[aj,aD];omega,(by cases D;exact P4 (iz c _) rfl z.Z.1 z.Z.2)⟩⟩
 |none =>
  rw[hd]at b m;have J:dU t.1.1=true:=by
   rcases b with b|b
   ·cases b
   exact b.2
  rw[J]at p;have y:=bZ p;have r:=bZ m;clear p m b hd J;go_enter func230,ntmps230;go_wp2_with(first|(go_at_call 144;refine y.Z.mono ?_;rintro e G ⟨rfl,rfl⟩)|(go_at_call 231;refine r.Z.mono ?_;rintro e G ⟨rfl,rfl⟩;unfold gK));clear y r;refine b_ (kQ s F B C c _ w h _ _ _ _ _ R5) λO ⟨k1,E⟩=>?_;go_wp2;go_ret;exact⟨_,_,rfl,k1,E,by rw[aj,aD];omega,Ex.one w c _ rfl,λj D=>⟨c.length,rfl,by rw[aj,aD];omega,(by cases D;exact P4 (iz c _) rfl z.Z.1 z.Z.2)⟩⟩
def GM(s E B n C r t)(N:t.size<=1000)(h1:dO t.1.1=none)(h2:dU t.1.1=false)(b:oX t.1.1=false)(G:(t.1.1==[105,116])=false)(D)(hval:t.1.1=tx s.1.1 D):jv s E B n C r t (λi=>.ok i) (PC s.1.1 n C r 3 D):=by
 have F:=bZ hval;clear hval;intro i c w hi M h L;have p:=eR t w R5;have m:=eJ t w R5;rw[h2]at p;rw[h1]at m;have z:=bZ p;have y:=bZ m;clear p m h1 h2;rw[<-VP]at b G;simp only[oX,Bool.or_eq_false_iff]at b;obtain⟨⟨⟨⟨⟨⟨⟨⟨⟨⟨⟨⟨⟨P,V⟩,X⟩,Y⟩,Z⟩,y6⟩,y7⟩,y8⟩,y9⟩,Q⟩,R⟩,S⟩,T⟩,U⟩:=b;go_enter func230,ntmps230;go_wp2_with(first|(go_at_call 144;refine z.Z.mono ?_;rintro e K ⟨rfl,rfl⟩)|(go_at_call 231;refine y.Z.mono ?_;rintro e K ⟨rfl,rfl⟩;unfold gK));clear z y;refine b_ (kQ s E B r c _ w h _ _ _ _ _ R5) λO ⟨k1,J⟩=>?_;go_wp2;go_ret;exact⟨_,_,rfl,k1,J,by rw[aj,aD];omega,Ex.one w c _ rfl,λj I=>⟨c.length,rfl,by rw[aj,aD];omega,(by cases I;exact Qz (iz c _) rfl F.Z)⟩⟩
def fS(r f g):bY.andThen (bY.andThen r f) g=bY.andThen r λj=>bY.andThen (f j) g:=by cases r<;>rfl
def gJ(i f):bY.andThen (.ok i) f=f i:=rfl
def MV(l n b e i):(bY.andThen (bY.andThen (bY.andThen (bY.andThen (bY.andThen (Except.ok i) (bY.P l n 0 b e)) (bY.cD l [116,104,101,110])) (bY.P l n 0 b e)) (bY.cD l [101,108,115,101])) (bY.P l n 3 b e))=fL l n b e 9 i:=by
 simp[fL,bY.parts,fS,gJ]
def J8(l n b e i):(bY.andThen (bY.andThen (bY.andThen (Except.ok i) (bY.cD l [40])) (bY.P l n 0 b e)) (bY.cD l [41]))=fL l n b e 10 i:=by
 simp[fL,bY.parts,fS,gJ]
def J9(l n b e i):(bY.andThen (bY.andThen (bY.andThen (Except.ok i) (bY.cD l [40])) (bY.P l n 0 b e)) (bY.cD l [41]))=fL l n b e 11 i:=by
 simp[fL,bY.parts,fS,gJ]
def J'(l n b e i):(bY.andThen (bY.andThen (bY.andThen (Except.ok i) (bY.cD l [40])) (bY.P l n 0 b e)) (bY.cD l [41]))=fL l n b e 12 i:=by
 simp[fL,bY.parts,fS,gJ]
def wB(l n b e i):(bY.andThen (bY.andThen (bY.andThen (bY.andThen (bY.andThen (Except.ok i) (bY.cD l [40])) (bY.P l n 0 b e)) (bY.cD l [44])) (bY.P l n 0 b e)) (bY.cD l [41]))=fL l n b e 13 i:=by
 simp[fL,bY.parts,fS,gJ]
def J_(l n b e i):(bY.andThen (bY.andThen (bY.andThen (bY.andThen (bY.andThen (Except.ok i) (bY.cD l [40])) (bY.P l n 0 b e)) (bY.cD l [44])) (bY.P l n 0 b e)) (bY.cD l [41]))=fL l n b e 14 i:=by
 simp[fL,bY.parts,fS,gJ]
def Ka(l n b e i):(bY.andThen (bY.andThen (bY.andThen (bY.andThen (bY.andThen (Except.ok i) (bY.cD l [40])) (bY.P l n 0 b e)) (bY.cD l [44])) (bY.P l n 0 b (e+1))) (bY.cD l [41]))=fL l n b e 15 i:=by
 simp[fL,bY.parts,fS,gJ]
def Kc(l n b e i):(bY.andThen (bY.andThen (bY.andThen (bY.andThen (bY.andThen (Except.ok i) (bY.cD l [40])) (bY.P l n 0 b e)) (bY.cD l [44])) (bY.P l n 0 b (e+1))) (bY.cD l [41]))=fL l n b e 16 i:=by
 simp[fL,bY.parts,fS,gJ]
def jv.of{y B n b m k r:Nat}{F p:Nat->Except (Nat×Nat) Nat}(h:jv s y B n b m t F (PK s.1.1 n b m k x))(e:∀i,F i=p i)(hx:tx s.1.1 r=x):jv s y B n b m t p (PC s.1.1 n b m k r):=by
 have:F=p:=funext e;rw[<-this];intro i c w h1 h2 G I;refine(h i c w h1 h2 G I).mono ?_;rintro e Q⟨x,P,J,K,L,M,N,E⟩;exact⟨x,P,J,K,L,M,N,λj O=>by obtain⟨k,z,C,D⟩:=E j O;exact⟨k,z,C,D r hx⟩⟩
def pz(h:t.1.1=x):t=⟨x.toArray⟩:=by
 cases t with
 |mk d=>simp at h;subst h;simp
def OU{t:a_}(h1:ib t=false)(h2:∃c r,t=c::r/\eE c=true):oX t=false/\(t==[105,116])=false:=by
 obtain⟨c,r,rfl,b⟩:=h2;constructor
 ·cases e:oX (c::r) with
  |false=>rfl
  |true =>
   exfalso;simp only[oX,Rv,Rd]at e;rcases e with((((((((((((h|h)|h)|h)|h)|h)|h)|h)|h)|h)|h)|h)|h)|h
   all_goals first
    |(rw[h]at h1;revert h1;decide)
    |(injection h with h _;rw[h]at b;revert b;decide)
 rw[az];intro h;rw[h]at h1;revert h1;decide
def Kd(s z B n y p i)(F:s.size<=200)(hd:y<=20)(E:p+1<=y)(D:cu s.1.1 i p≠0)(H:∀m,m<=n->RT s z B 65 0 m)(O:RT s z B 192 3 n):jv s z B n y p (s.extract i (i+jD (s.1.1.drop i))) (λj=>fL s.1.1 n y p (cu s.1.1 i p) j) (PC s.1.1 n y p (cu s.1.1 i p) i):=by
 have L:(s.extract i (i+jD (s.1.1.drop i))).size<=1000:=by rw[Sq];omega
 have G:=kI s i;have J:cu s.1.1 i p=kindOf (bY.tok (s.1.1.drop i)).1 (tx s.1.1 i) p:=rfl;have K:2<=(bY.tok (s.1.1.drop i)).1->LB s.1.1 i=tx s.1.1 i:=λh=>by unfold LB;rw[k_ _ h];rfl
 generalize s.extract i (i+jD (s.1.1.drop i))=t at L G;rcases ln (s.1.1.drop i) (LB s.1.1 i) rfl with⟨h,a⟩|⟨h,a,b⟩|⟨h,a,b,c,d,e⟩|⟨h,a,b,c,d⟩|⟨h,a,b,c,S,d,e⟩|⟨h,a,b,c,d⟩
 ·have I:cu s.1.1 i p=2:=by rw[J,h];rfl
  rw[I];exact wA s z B n y p t L (Or.inl (by rw[G];exact a)) i (by rw[G];exact OT h a)
 ·have I:cu s.1.1 i p=2:=by rw[J,h];rfl
  rw[I];exact wA s z B n y p t L (Or.inr (by rw[G];exact⟨a,b⟩)) i (by rw[G];exact MU h b)
 ·have I:cu s.1.1 i p=3:=by rw[J,h];rfl
  rw[I];obtain⟨Q,R⟩:=OU d e;exact GM s z B n y p t L (by rw[G];exact a) (by rw[G];exact b) (by rw[G];exact Q) (by rw[G];exact R) i (by rw[G];exact K R5)
 ·have I:cu s.1.1 i p=fC (LB s.1.1 i) p:=by rw[J,h,K R5];rfl
  rw[I]at D ⊢;have C:=(K R5).symm;generalize LB s.1.1 i=x at d G D C;simp only[ib,Rv,Rd]at d;rcases d with(((((((((((d|d)|d)|d)|d)|d)|d)|d)|d)|d)|d)|d)|d<;>subst d<;>have N:=pz G<;>subst N
  ·have r:fC [105,102] p=9:=TA;rw[r];exact(MT s z B n y p F hd E H O).of (λj=>MV _ _ _ _ _) C
  ·exact absurd rfl D
  ·exact absurd rfl D
  ·have P:0<p:=by
    rcases Nat.eq_zero_or_pos p with M|M
    ·subst M;exact absurd rfl D
    exact M
   have r:fC [105,116] p=4:=by simp[fC,P]
   rw[r];exact(MS s z B n y p F hd E).of (λj=>rfl) C
  ·have r:fC [116,114,121] p=14:=TA;rw[r];exact(rH s z B n y p F hd E H _ _ (.inr (.inr (.inl ⟨rfl,rfl⟩)))).of (λj=>J_ _ _ _ _ _) C
  ·have r:fC [109,105,110] p=13:=TA;rw[r];exact(rH s z B n y p F hd E H _ _ (.inl ⟨rfl,rfl⟩)).of (λj=>wB _ _ _ _ _) C
  ·have r:fC [109,97,120] p=13:=TA;rw[r];exact(rH s z B n y p F hd E H _ _ (.inr (.inl ⟨rfl,rfl⟩))).of (λj=>wB _ _ _ _ _) C
  ·have r:fC [115,105,122,101] p=10:=TA;rw[r];exact(wv s z B n y p F hd E H _ _ (.inl ⟨rfl,rfl⟩)).of (λj=>J8 _ _ _ _ _) C
  ·have r:fC [97,116] p=13:=TA;rw[r];exact(rH s z B n y p F hd E H _ _ (.inr (.inr (.inr ⟨rfl,rfl⟩)))).of (λj=>wB _ _ _ _ _) C
  ·have r:fC [101,97,99,104] p=15:=TA;rw[r];exact(BI s z B n y p F hd E H _ _ (.inl ⟨rfl,rfl⟩)).of (λj=>Ka _ _ _ _ _) C
  ·have r:fC [115,111,109,101] p=16:=TA;rw[r];exact(BI s z B n y p F hd E H _ _ (.inr ⟨rfl,rfl⟩)).of (λj=>Kc _ _ _ _ _) C
  ·have r:fC [115,117,109] p=11:=TA;rw[r];exact(wv s z B n y p F hd E H _ _ (.inr (.inl ⟨rfl,rfl⟩))).of (λj=>J9 _ _ _ _ _) C
  have r:fC [119,111,114,100] p=12:=TA;rw[r];exact(wv s z B n y p F hd E H _ _ (.inr (.inr ⟨rfl,rfl⟩))).of (λj=>J' _ _ _ _ _) C
 ·have I:cu s.1.1 i p=jV (LB s.1.1 i):=by rw[J,h,K R5];rfl
  rw[I]at D ⊢;have C:=(K R5).symm;rw[d]at G D C ⊢;rw[rV]at e;simp only[aK,S3,RM]at e;rcases e with rfl|rfl|rfl|rfl|rfl|rfl|rfl|rfl|rfl|rfl|rfl|rfl|rfl<;>have N:=pz G<;>subst N
  ·have r:jV [40]=6:=by simp[jV]
   rw[r];exact(DT s z B n y p F hd E H).of (λj=>rfl) C
  ·exact absurd rfl D
  ·have r:jV [91]=7:=by simp[jV]
   rw[r];exact(J7 s z B n y p F hd E H).of (λj=>rfl) C
  ·exact absurd rfl D
  ·have r:jV [123]=8:=by simp[jV]
   rw[r];exact(GL s z B n y p F hd E H).of (λj=>rfl) C
  ·exact absurd rfl D
  ·exact absurd rfl D
  ·exact absurd rfl D
  ·have r:jV [45]=5:=by simp[jV]
   rw[r];exact(DS s z B n y p F hd E O).of (λj=>rfl) C
  ·exact absurd rfl D
  ·exact absurd rfl D
  ·exact absurd rfl D
  exact absurd rfl D
 exfalso;apply D;rw[J];unfold kindOf;rw[ae R5,ae R5,ae R5,ae R5]
def Ke(l i b):cu l i b≠1:=by
 intro h;unfold cu kindOf at h;split at h
 ·cases h
 split at h
 ·cases h
 split at h
 ·have:=(mq _ _ _ h).1;omega
 split at h
 ·have:=mr _ _ h;omega
 cases h
def OV{n p b i j a:Nat}(z:cu l i b≠0)(hd:¬p=20)(h:PC l n (p+1) b (cu l i b) i (fX l i) j u a)(hx:d.x=a)(B:d.op=102):Sub l (n+1) 3 p b i j (u++[d]) u.length:=by
 obtain⟨m,r,h1,h2⟩:=h;refine⟨iB l (cu l i b) i r,m+1,?_,?_⟩
 ·rw[PT,ae S4,ae S4,ae S4,ag rfl,ae z,ae hd,h1];rfl
 unfold nT;rw[ae (show ¬(iB l (cu l i b) i r).cu=1 from Ke l i b)];exact⟨d,a,iz u d,B,hx,h2.mono (λi e y=>(Ext.one u d).at y) (λx t h=>(Ext.one u d).rep h (af _))⟩
def zV(s z B n)(hs:s.size<=200)(H:∀m,m<=n->RT s z B 65 0 m)(J:RT s z B 192 3 n):RT s z B 192 3 (n+1):=by
 intro D b i0 st w c hd ax ai hg h hc;cases st with
 |error y =>
  obtain⟨hy,v,i1,t1,G,L⟩:=h.err;obtain⟨X,Y,O,Z,c4,P,c6,cf⟩:=G.cells;have a0:((y.1:Int) != 0)=true:=TC;show Calls _ _ _ _ (RP s z B b c w (.error y) 0 (.error y) _);go_enter func192,ntmps192;go_wp2;go_ret;exact⟨_,c,rfl,h,RF.refl _ _ _,af _,Ex.refl w c,λj E=>(by cases E)⟩
 |ok i =>
  have hi:=hg i rfl;obtain⟨v,p,G,L⟩:=h.ok;obtain⟨X,Y,O,Z,c4,P,c6,cf⟩:=G.cells;have R:bY.andThen (.ok i) (bY.P s.1.1 (n+1) 3 D b)=if cu s.1.1 i b=0 then .error (3,i)else if D=20 then .error (4,i)else fL s.1.1 n (D+1) b (cu s.1.1 i b) (fX s.1.1 i):=rfl
  rw[R];have ao:(s.extract i (i+jD (s.1.1.drop i))).size<=1000:=by rw[Sq];omega
  have C:=CP (s.extract i (i+jD (s.1.1.drop i))) z b w ao P;rw[kI]at C;have Q:kr (LB s.1.1 i) b=decide (cu s.1.1 i b≠0):=AD s.1.1 i b;rw[Q]at C;by_cases r:cu s.1.1 i b=0
  ·rw[ag r];rw[aN Ua]at C;have I:=bZ C;clear C Q R r H J;have M:=bZ (qQ s z i _ p b 3 v w G);go_enter func192,ntmps192;go_wp2_with(go_at_call 229;refine I.Z.mono ?_;rintro e w' ⟨rfl,rfl⟩);refine b_ M.Z λU ⟨k1,f1⟩=>?_;go_wp2;go_ret;exact⟨_,c,rfl,RX.fy (y:=(3,i)) k1 S5 (L.fr f1 h.lt) h.lt (ah h.le f1.size),RF.rF f1,by simp only[jl];omega,Ex.refl w c,λj E=>(by cases E)⟩
  rw[ae r];rw[aQ r]at C;have I:=bZ C;clear C Q R;by_cases K:D=20
  ·rw[ag K];subst K;clear H J r;have M:=bZ (qQ s z i _ p b 4 v w G);go_enter func192,ntmps192;go_wp2_with(go_at_call 229;refine I.Z.mono ?_;rintro e w' ⟨rfl,rfl⟩);refine b_ M.Z λU ⟨k1,f1⟩=>?_;go_wp2;go_ret;exact⟨_,c,rfl,RX.fy (y:=(4,i)) k1 S5 (L.fr f1 h.lt) h.lt (ah h.le f1.size),RF.rF f1,by simp only[jl];omega,Ex.refl w c,λj E=>(by cases E)⟩
  rw[ae K];have av:¬(20:Int)<=(D:Int):=R5;have ay:=gu (qM r);have am:fX s.1.1 i<=s.size:=by have:=fu s.1.1 i (by simpa using hi.2);simpa using this
  have aa:2<=(bY.tok (s.1.1.drop i)).1:=by
   rcases(by omega:2<=(bY.tok (s.1.1.drop i)).1\/(bY.tok (s.1.1.drop i)).1<=1)with h2|h2
   ·exact h2
   exfalso;apply r;unfold cu kindOf;rw[ae R5,ae R5,ae R5,ae R5]
  have N:=bZ (Kd s z B n (D+1) b i hs R5 R5 r H J);have HN:=bZ (wj s z B b c i w h hs hi.2 aa);have ad:8*(s.size-fX s.1.1 i)+4<=n:=by simp[bY.nd]at ai;omega
  have aC:c.length+jl s (.ok (fX s.1.1 i))+4<=c.length+jl s (.ok i):=Ut;generalize fL s.1.1 n (D+1) b (cu s.1.1 i b)=F at N;have V:=bZ (And.intro r K);clear H J r aa G L;generalize s.extract i (i+jD (s.1.1.drop i))=t at O I N;go_enter func192,ntmps192;go_wp2_with(go_at_call 229;refine I.Z.mono ?_;rintro e w' ⟨rfl,rfl⟩);refine b_ HN.Z λU ⟨k1,T⟩=>?_;clear X Y O Z c4 P c6 cf;go_wp2_with fail;refine(N.Z _ c U am ad k1 R5).mono ?_;rintro e w2⟨x2,S,rfl,k2,r2,b2,ab,ap⟩;go_wp2_with fail;refine b_ (kQ s z B b S _ w2 k2 _ _ _ _ _ R5) λw3 ⟨k3,r3⟩=>?_;go_wp2;go_ret;refine⟨_,_,rfl,k3,T.trans (r2.trans r3),by rw[aj,aD];omega,((Ex.refl w c).then ab T.size).then (Ex.one w2 S _ rfl) (T.trans r2).size,λj E=>⟨S.length,rfl,by rw[aj,aD];omega,λi' ak=>?_⟩⟩;cases ak;obtain⟨a,ea,_,hc⟩:=ap j E;exact OV V.Z.1 V.Z.2 hc ea rfl
def BJ(s b B)(p:s.size<=200):∀n,RT s b B 65 0 n/\RT s b B 103 1 n/\RT s b B 145 2 n/\RT s b B 192 3 n:=by
 intro n
 induction n using Nat.strongRecOn with
 |ind n y =>
  cases n with
  |zero =>
   refine⟨?_,?_,?_,?_⟩
   all_goals
    intro z D i E w c hd C r;simp[bY.nd]at r
  |succ n =>
   have j:∀m,m<=n->_:=λm e=>y m R5;exact⟨DP s b B n p (j n (af _)).2.1,wo s b B n p _ _ _ _ (.inl ⟨rfl,rfl,rfl,rfl⟩) (λm e=>(j m e).2.2.1),wo s b B n p _ _ _ _ (.inr ⟨rfl,rfl,rfl,rfl⟩) (λm e=>(j m e).2.2.2),zV s b B n p (λm e=>(j m e).1) (j n (af _)).2.2.2⟩
end Ref
namespace Ref
variable{ns:List Nd}{u:Xb}
def Kf(l):(bY.tok l).1=0↔l=[]:=by
 cases l with
 |nil=>simp[bY.tok]
 |cons c r =>
  rw[gy (c::r) c r rfl];constructor
  ·intro h;exfalso;split at h
   ·split at h<;>simp at h
   split at h
   ·split at h
    ·simp at h
    split at h<;>simp at h
   split at h
   ·cases b:dS (c::r) with
    |none=>rw[b]at h;simp[fh]at h
    |some n=>rw[b]at h;simp[fh]at h
   split at h<;>simp at h
  intro h;cases h
def MW(c r):1<=jD (c::r):=by
 show 1<=if c=39 then max (fD (c::r)) 1 else if eE c=true then dJ eM (c::r)else if dH c=true then dJ dH (c::r)else 1
 split
 ·omega
 split
 ·rename_i h;exact kH eM c r (by rw[qO,h];rfl)
 split
 ·rename_i h;exact kH dH c r h
 exact af _
def Kg(s:ba)(j):((s.extract j (j+jD (s.1.1.drop j))).toList==[])=decide ((bY.tok (s.1.1.drop j)).1=0):=by
 rw[VP,kI,R6,Rd,SD,Kf];unfold LB;cases e:s.1.1.drop j with
 |nil=>simp
 |cons c r =>
  have:=MW c r;constructor
  ·intro h;exfalso;obtain⟨m,b⟩:∃m,jD (c::r)=m+1:=⟨jD (c::r)-1,by omega⟩;rw[b]at h;cases h
  intro h;cases h
def wC{α:Type}(F m)(hF:∀a,(F a).length=m):∀(l:List α) (k) (a) (j) (u:Xb),l[k]?=some a->(F a)[j]?=some u->(l.flatMap F)[k*m+j]?=some u
 |[],k,a,j,u,h,_=>by cases h
 |e::r,0,a,j,u,h,hu=>by
  have h:e=a:=aB h;rw[<-h]at hu;have:j<(F e).length:=(aA.1 hu).1;rw[Q7,RY,aG,aP this];exact hu
 |e::r,k+1,a,j,u,h,hu=>by
  have n:=hF e;rw[Q7,Sl,aX R5];have b:k*m+m+j-(F e).length=k*m+j:=R5;rw[b];exact wC F m hF r k a j u h hu
def ll{w:Xa}{base g b:Nat}{k j:Nat}{d:Nd}(h:w.ownsRow base 147 6 (.slice (some ⟨g,0,none⟩) ns.length b) ns.length (ns.flatMap Nd.cells))(hd:ns[k]?=some d)(hu:d.cells[j]?=some u):w.cell? ⟨g,k*6+j,none⟩=some u:=by
 have:=h.cells (g:=g) rfl _ u (wC Nd.cells 6 (λ_=>rfl) ns k d j u hd hu);rw[addr_add,aG]at this;exact this
structure xB(w:Xa)(base:Nat)(v:Xb)(ns:List Nd):Prop where
 row:w.ownsRow base 147 6 v ns.length (ns.flatMap Nd.cells)
 all:∀d∈ns,d.pn=d.all.length/\w.ownsRow base 3 1 (.slice d.p d.pn d.pc) d.all.length (d.all.map λa=>.int .i64 a)
def Kh(l:a_)(w:Xa)(c i:Nat)(e:Ending)(w':Xa):Prop :=(∃p n k,e=.returned (.tuple #[.slice p n k,.int .i64 (c:Int),.int .i64 (i:Int)])/\(c=0->∃(ns:List Nd) (m:Nat),n=ns.length/\ns.length<=2000/\xB w' w.1.size (.slice p n k) ns/\nT ns m (ns.length-1) (gZ l)/\0<ns.length))/\Xc w w'
def GN(s w)(e:200<s.size)(b:s.size<=9223372036854775807):Calls prog 38 #[.string s] w (Kh s.1.1 w 2 0):=by
 have j:(200:Int)<(s.size:Int):=R5;go_enter func38,ntmps38;go_wp2;exact VN (V2 rfl _ _ _) rfl ⟨⟨none,0,0,rfl,λh=>Tl⟩,VM _ _⟩
def below_drewN{b:Nat}{w w':Xa}(h:Below b w w')(n):Below b w (w'.drewN n):=⟨h.os,h.tape,h.output,h.size,h.block⟩
def RF.below{w w':Xa}{o:Obj}(h:RF w.1.size (w.1.size+1) (w.alloc o) w'):Xc w w' :=⟨h.os,h.tape,h.output,by have:=h.size;simp at this;omega,λk b=>(h.low k R5 Tc R5).trans (VR w o k b)⟩
def DU(s w)(hs:s.size<=200):Calls prog 38 #[.string s] w (Kh s.1.1 w (bY.check s.1.1).1 (bY.check s.1.1).2):=by
 have bv:¬(200:Int)<(s.size:Int):=R5;have a4:bY.skip s.1.1 0<=s.size:=by have:=pI s.1.1 0 (ar _);simpa using this
 have l:bY.check s.1.1=xE s.1.1 (bY.P s.1.1 (8*s.1.1.length+5) 0 0 0 (bY.skip s.1.1 0)):=by
  rw[bY.check,ae Tc]
 generalize Y:bY.skip s.1.1 0=b at a4 l;have a3:Good s b (.ok b):=λa ha=>by cases ha;exact⟨af _,a4⟩
 have bu:jl s (.ok b)<=800:=Ut;have ad:=λC (k1:RX s w.1.size (w.1.size+1) 0 [] (.ok b) C)=>(BJ s w.1.size (w.1.size+1) hs (8*s.1.1.length+5)).1 0 0 b (.ok b) C [] R5 (af _) Tk a3 k1 (by simp only[Ra];omega);have bc:∀j t,PT s.1.1 (8*s.1.1.length+5) 0 0 0 b []=.ok (j,[t])->gZ s.1.1=t:=λj t h=>by
  unfold gZ;rw[Y,h];rfl
 have ap:=bZ bc;clear bc;have F:bY.check s.1.1=xE s.1.1 (bY.andThen (.ok b) (bY.P s.1.1 (8*s.1.1.length+5) 0 0 0)):=l;have a7:=a3.P (8*s.1.1.length+5) 0 0 0;generalize bY.andThen (.ok b) (bY.P s.1.1 (8*s.1.1.length+5) 0 0 0)=r at F ad a7;generalize bY.check s.1.1=E at F;have K:=bZ F;have am:=bZ ad;have V:ic (w.alloc (.cells #[.string s,.int .i64 0,.string ⟨#[]⟩,.int .i64 0,.int .i64 0,.int .i64 0,.slice none 0 0] 142)) s w.1.size 0 ⟨#[]⟩ 0 0 0 (.slice none 0 0):=heap_alloc_new _ _;have aa:=AB s w.1.size 0 ⟨#[]⟩ 0 0 0 (.slice none 0 0) _ V R5 (by show 0+0<=s.size;omega);rw[show 0+(⟨#[]⟩:ba).size=0 from rfl,Y]at aa;have ak:=bZ aa;clear l F ad Y aa V;go_enter func38,ntmps38;go_wp2_with fail;refine b_ ak.Z λC ⟨B,f1⟩=>?_;have k1:RX s w.1.size (w.1.size+1) 0 [] (.ok b) C:=RX.kP B ⟨⟨rfl,Or.inl ⟨rfl,rfl⟩⟩,λd hd=>by cases hd⟩ R5 (by have:=f1.size;simpa using this);have r1:RF w.1.size (w.1.size+1) _ C:=RF.rF f1;clear ak B f1;go_wp2_with fail;refine(am.Z C k1).mono ?_;rintro e w2⟨x2,z,rfl,k2,r2,b2,_,xk⟩;have L:=r1.trans r2;have bf:=L.below;clear am k1 r1 r2;cases r with
 |error y =>
  have l:E=y:=K.Z;subst l;obtain⟨hy,v,i1,t1,B,J⟩:=k2.err;obtain⟨M,N,O,P,Q,R,S,T⟩:=B.cells;have bw:((E.1:Int)==0)=false:=Tj;have bx:((E.1:Int) != 0)=true:=TC;go_wp2_with fail
  go_quiet (fail)
  go_wp2;exact VN (V2 rfl _ _ _) rfl ⟨⟨none,0,0,rfl,λh=>(hy h).elim⟩,below_drewN bf _⟩
 |ok j =>
  have hj:=a7 j rfl;have a8:=Kg s j;have l:E=if(bY.tok (s.1.1.drop j)).1=0 then(0,0) else(3,j):=K.Z;obtain⟨v,p,B,J⟩:=k2.ok;obtain⟨M,N,O,P,Q,R,S,T⟩:=B.cells;clear K;by_cases G:(bY.tok (s.1.1.drop j)).1=0
  ·rw[ag G]at l;rw[aQ G]at a8;subst l;obtain⟨k,rfl,bj,aC⟩:=xk j rfl;obtain⟨t,m,a0,a6⟩:=aC b rfl;have a9:=ap.Z j t a0;have ao:=bZ (And.intro a9 a6);clear a9 a6 a0 aC ap;have D:=aq bj;generalize z[k]=d at D;obtain⟨a5,a2⟩:=J.all d (aJ D);have ab:=J.own;rcases ab.2 with⟨_,V⟩|⟨g,bn,bo,rfl,bp,bg,bq,br,bh,bk⟩
   ·omega
   have bt:(k:Int)<(z.length:Int):=R5;have hcell:=λ(j:Nat) (u:Xb) (hu:d.cells[j]?=some u)=>ll ab D hu;have z0:=hcell 0 _ rfl;have z1:=hcell 1 _ rfl;have z2:=hcell 2 _ rfl;have z3:=hcell 3 _ rfl;have z4:=hcell 4 _ rfl;have z5:=hcell 5 _ rfl;simp only[aR]at z0;have bd:=bZ D;have ai:=bZ (And.intro a5 a2);clear hcell bg bh bk ab J a5 a2;obtain⟨av,ds,dx,dy,dz,dp,ay,ax,U⟩:=d;simp only at z0 z1 z2 z3 z4 z5;clear D;go_wp2_with fail;refine b_ (J2 s w.1.size (w.1.size+1) 0 z (.ok j) w2 k2 _ _ _ _ _ _ _ _ U (by simp at b2;omega) ai.Z.1 ai.Z.2) λw3 ⟨k3,r3⟩=>?_;have X:=(L.trans r3).below;obtain⟨v3,p3,q3,q4⟩:=k3.ok;obtain⟨d0,d1,d2,d3,d4,d5,d6,df⟩:=q3.cells;have I:=q4.own;have Z:(z++[(⟨av,ds,dx,dy,dz,dp,ay,ax,U⟩:Nd)]).length=z.length+1:=S5;rw[Z]at I;obtain⟨bm,bl,rfl⟩:=dD I;have n:=bZ (And.intro I (And.intro q4.all Z));clear Z;clear M N O P Q R S T z0 z1 z2 z3 z4 z5 I q4;go_wp2_with fail;refine VN (V2 rfl _ _ _) rfl ⟨⟨bm,z.length+1,bl,rfl,λ_=>⟨z++[⟨av,ds,dx,dy,dz,dp,ay,ax,U⟩],m,n.Z.2.2.symm,by rw[n.Z.2.2];simp at b2;omega,⟨by rw[n.Z.2.2];exact wq n.Z.1 R5,λd hd=>⟨(n.Z.2.1 d hd).1,wq (n.Z.2.1 d hd).2 R5⟩⟩,?_,by rw[n.Z.2.2];omega⟩⟩,X⟩;rw[n.Z.2.2,Nat.add_sub_cancel,ao.Z.1];exact ao.Z.2.again bd.Z
  rw[ae G]at l;rw[aN G]at a8;subst l;have HF:=bZ (qQ s w.1.size j _ p 0 3 v w2 B);go_wp2_with fail;refine b_ HF.Z λw3 ⟨q3,f3⟩=>?_;have X:=(L.fr f3).below;obtain⟨d0,d1,d2,d3,d4,d5,d6,df⟩:=q3.cells;clear M N O P Q R S T;go_wp2_with fail
  go_quiet (fail)
  go_wp2;exact VN (V2 rfl _ _ _) rfl ⟨⟨none,0,0,rfl,λh=>Tl⟩,below_drewN X _⟩
end Ref
end
