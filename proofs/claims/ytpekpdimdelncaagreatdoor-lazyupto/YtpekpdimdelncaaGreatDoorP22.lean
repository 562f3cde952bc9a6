/- Out of Q5. -/
import Derived.Test.YtpekpdimdelncaaGreatDoorP20
import Derived.StillTailTactics
set_option linter.unusedVariables false
set_option linter.unusedSimpArgs false
set_option maxRecDepth 100000
set_option maxHeartbeats 8000000
set_option linter.defProp false
namespace Go.Proofs.YtpekpdimdelncaaGreatDoor
open Go.RowKit Go.Shelf
section
open bY
open Tryz
namespace Ref
variable{v:V}{ks:List (a_)}{s:ba}
def KF(v:V)(a:Int)(m p u:Bool)(ks:List (a_)):Prop :=(m=true/\p=false/\u=false/\v=vn a/\(-9223372036854775808<=a/\a<=9223372036854775807))\/(m=false/\p=true/\u=false/\∃b,v=vw b)\/(m=false/\p=false/\u=true/\∃l,v=vl l/\ks=l.map (wr 3)/\∀x∈l,L3 x)
def KF.num{a:Int}{p u:Bool}(h:KF v a true p u ks):v=vn a/\p=false/\u=false/\-9223372036854775808<=a/\a<=9223372036854775807:=by
 rcases h with⟨_,h1,h2,h,b⟩|⟨h,_⟩|⟨h,_⟩
 ·exact⟨h,h1,h2,b⟩
 ·cases h
 cases h
def sG{m n:V}{p r:Int}{e j z B u1 u2:Bool}{u y:List (a_)}(f)(h1:KF m p e z u1 u)(h2:KF n r j B u2 y)(h:¬(e=true/\j=true)):mO m n f=.error 9:=by
 rcases h1 with⟨rfl,_,_,rfl,_⟩|⟨_,_,_,b,rfl⟩|⟨_,_,_,l,rfl,_⟩
 ·rcases h2 with⟨rfl,_⟩|⟨_,_,_,b,rfl⟩|⟨_,_,_,l,rfl,_⟩
  ·exact absurd ⟨rfl,rfl⟩ h
  ·rfl
  rfl
 ·rfl
 rfl
def KC(s:ba)(a:Int)(m p u:Bool)(ks:List (a_))(w:Xa):Prop :=(Calls prog 193 #[.string s] w λe b=>e=.returned (.tuple #[.int .i64 a,.bool m])/\b=w) /\(Calls prog 144 #[.string s] w λe b=>e=.returned (.bool p)/\b=w) /\(8<=w.1.size->Calls prog 194 #[.string s] w λe b=>∃o c,e=.returned (.tuple #[.slice o ks.length c,.bool u])/\iY w b (.slice o ks.length c) ks)
def kinds(h:L3 v)(s)(y:s.1.1=wr 3 v)(z:s.size<=20000000):∃a m p u ks,KF v a m p u ks/\(∀w,KC s a m p u ks w)/\(u=false->ks=[]):=by
 have j:∀(r:Option Int) (p:Bool) (q:Option (List (a_))),d_ (wr 3 v)=r->(j_ (wr 3 v)).isSome=p->fG (wr 3 v)=q->∀w,KC s (r.getD 0) r.isSome p q.isSome (q.getD []) w:=λr p q h1 h2 D w=>by
  refine⟨(qz s w z).mono ?_,(eR s w z).mono ?_,λE=>(x9 s w E z).mono ?_⟩
  ·rintro e C⟨rfl,rfl⟩;refine⟨?_,rfl⟩;rw[y,h1];cases r<;>rfl
  ·rintro e C⟨rfl,rfl⟩;refine⟨?_,rfl⟩;rw[y,x_,h2]
  rintro e C⟨o,n,c,rfl,rfl,B⟩;rw[y,D]at B ⊢;exact⟨o,c,rfl,B⟩
 rcases v with⟨i|b|l⟩
 ·exact⟨i,true,false,false,[],.inl ⟨rfl,rfl,rfl,rfl,pS h rfl⟩,j (some i) false none (N0 h) (by show(j_ (wr 3 (vn i))).isSome=false;rw[Qm];rfl) (Qp i),λ_=>rfl⟩
 ·exact⟨0,false,true,false,[],.inr (.inl ⟨rfl,rfl,rfl,b,rfl⟩),j none true none (N2 b) (by show(j_ (wr 3 (vw b))).isSome=true;rw[Qn h];rfl) (Qq b),λ_=>rfl⟩
 exact⟨0,false,false,true,l.map (wr 3),.inr (.inr ⟨rfl,rfl,rfl,l,rfl,rfl,A8 h rfl⟩),j none false (some (l.map (wr 3))) (N3 l) (by show(j_ (wr 3 (vl l))).isSome=false;rw[Qo];rfl) (PG h),λe=>by cases e⟩
def eZ{w:Xa}(h:8<=w.1.size):8<=(dV w).1.size:=by unfold dV;simp;omega
def dw(r:Wo):∃c t,dC r=.agg #[.int .i64 c,.string t]:=by cases r<;>exact⟨_,_,rfl⟩
def Tx(s:ba)(v:V):Prop:=s.1.1=wr 3 v
def nR(h:Tx s v):dC (.ok v)=.agg #[.int .i64 0,.string s]:=by
 show Value.agg #[_,str (wr 3 v)]=_;rw[<-h,dG]
def rE(c:Nat)(i)(h:(c:Int)=i):dC (.error c)=.agg #[.int .i64 i,.string ⟨#[]⟩]:=by rw[<-h];rfl
def GD(v u x y w)(D:8<=w.1.size)(L:L3 v)(hu:L3 u)(hx:Tx x v)(M:Tx y u)(aa:x.size<=100000)(ab:y.size<=100000):Calls prog 239 #[.int .u8 61,.string x,.string y] w λe S=>e=.returned (dC (bY.make 61 v u))/\Xc w S:=by
 obtain⟨V,m1,p1,u1,ad,k1,l,_⟩:=kinds L x hx R5;obtain⟨X,m2,p2,u2,ai,k2,m,_⟩:=kinds hu y M R5;have l:=bZ l;have m:=bZ m;have J:bY.make 61 v u=.ok (bY.bit (x.toList==y.toList)):=by
  show Except.ok (bY.bit (bY.same 3 v u))=_;rw[Bb L hu,<-hx,<-M,VP,VP,Bool.beq_eq_decide_eq]
 rw[J];have C:=bZ (λw=>wg (x.toList==y.toList) w);obtain⟨b,P⟩:∃b,(x.toList==y.toList)=b:=⟨_,rfl⟩;rw[P]at C ⊢;obtain⟨Q,R,K⟩:=dw (.ok (bY.bit b));rw[K]at C ⊢;clear K J k1 k2;go_enter func239,ntmps239;go_wp2_with fail;refine b_ (l.Z (dV w)).1 λz j=>?_;obtain rfl:=j.symm;dsimp only;go_wp2_with fail;refine b_ (m.Z _).1 λz j=>?_;obtain rfl:=j.symm;dsimp only;go_wp2_with fail;refine b_ (l.Z _).2.1 λz j=>?_;obtain rfl:=j.symm;dsimp only;go_wp2_with fail;refine b_ (m.Z _).2.1 λz j=>?_;obtain rfl:=j.symm;dsimp only;go_wp2_with fail;refine((l.Z _).2.2 (eZ D)).mono ?_;rintro e z⟨o1,I,rfl,p⟩;dsimp only;go_wp2_with fail;refine((m.Z _).2.2 (ah (eZ D) p.eD.size)).mono ?_;rintro e B⟨o2,Y,rfl,r⟩;have T:=bZ (p.below r.eD);have U:=bZ r;have n:Below (dV w).1.size (dV w) B:=p.eD.trans (r.eD.mono p.eD.size);have Z:8<=B.1.size:=ah (eZ D) n.size;have G:=bZ (λw3 (h:Xc B w3)=>gI (n.trans (h.mono n.size)));have F:=bZ (λw3 (h:Xc B w3) x y=>fj (n.trans (h.mono n.size)) x y);clear p r l m n;dsimp only;go_wp2_with fail;refine b_ (C.Z _) λw3 E=>?_;obtain⟨O,I,f0,f1⟩:=G.Z _ E;have N:=bZ (F.Z _ E);clear E G F;dsimp only;go_wp2;exact VN (v:=.agg #[.int .i64 Q,.string R]) (by simp[results,results239,go_sem,O,I]) rfl ⟨rfl,N.Z _ _⟩
def BD(op k)(E:Int->Int->Int)(K:(op=45/\k=45/\E=λa b=>a-b)\/(op=42/\k=42/\E=λa b=>a*b))(v u x y w)(O:8<=w.1.size)(X:L3 v)(hu:L3 u)(hx:Tx x v)(Y:Tx y u)(ap:x.size<=100000)(av:y.size<=100000):Calls prog 239 #[.int .u8 op,.string x,.string y] w λe w'=>e=.returned (dC (bY.make k v u))/\Xc w w':=by
 obtain⟨I,U,p1,u1,ax,k1,p,_⟩:=kinds X x hx R5;obtain⟨J,V,p2,u2,ay,k2,r,_⟩:=kinds hu y Y R5;have p:=bZ p;have r:=bZ r;obtain⟨R,j⟩:∃R,dC (bY.make k v u)=R:=⟨_,rfl⟩;rw[j];go_enter func239,ntmps239;go_wp2_with fail;refine b_ (p.Z (dV w)).1 λM l=>?_;obtain rfl:=l.symm;dsimp only;go_wp2_with fail;refine b_ (r.Z _).1 λM l=>?_;obtain rfl:=l.symm;dsimp only;go_wp2_with fail;refine b_ (p.Z _).2.1 λM l=>?_;obtain rfl:=l.symm;dsimp only;go_wp2_with fail;refine b_ (r.Z _).2.1 λM l=>?_;obtain rfl:=l.symm;dsimp only;go_wp2_with fail;refine((p.Z _).2.2 (eZ O)).mono ?_;rintro e M⟨o1,z,rfl,G⟩;dsimp only;go_wp2_with fail;refine((r.Z _).2.2 (ah (eZ O) G.eD.size)).mono ?_;rintro e N⟨o2,c2,rfl,L⟩;have aa:=bZ (G.below L.eD);have ab:=bZ L;have B:Below (dV w).1.size (dV w) N:=G.eD.trans (L.eD.mono G.eD.size);have ao:8<=N.1.size:=ah (eZ O) B.size;have n:=bZ (λw3 (h:Xc N w3)=>gI (B.trans (h.mono B.size)));have m:=bZ (λw3 (h:Xc N w3) x y=>fj (B.trans (h.mono B.size)) x y);clear G L p r B;dsimp only;by_cases Q:U=true/\V=true
 ·obtain⟨rfl,rfl⟩:=Q;obtain⟨rfl,rfl,rfl,ad,ai⟩:=k1.num;obtain⟨rfl,rfl,rfl,ak,am⟩:=k2.num;clear k1 k2;have F:bY.make k (vn I) (vn J)=.ok (vn (wrap64 (E I J))):=by
   rcases K with⟨rfl,rfl,rfl⟩|⟨rfl,rfl,rfl⟩<;>(rw[<-qT];rfl)
  rw[F]at j;obtain⟨Z,ts,T⟩:=dw (.ok (vn (wrap64 (E I J))));have S:=bZ (λw=>mF (wrap64 (E I J)) w TX TX);rw[T]at S j;subst j;clear T F;rcases K with⟨rfl,rfl,rfl⟩|⟨rfl,rfl,rfl⟩
  all_goals
   go_wp2_with fail;refine b_ (S.Z _) λw3 P=>?_;obtain⟨D,z,f0,f1⟩:=n.Z _ P;have C:=bZ (m.Z _ P);clear P n m;dsimp only;go_wp2;exact VN (v:=.agg #[.int .i64 Z,.string ts]) Us rfl ⟨rfl,C.Z _ _⟩
 have F:bY.make k v u=.error 9:=by rcases K with⟨rfl,rfl,rfl⟩|⟨rfl,rfl,rfl⟩<;>exact sG _ k1 k2 Q
 rw[F]at j;rw[rE 9 9 rfl]at j;subst j;clear F k1 k2;rcases K with⟨rfl,rfl,rfl⟩|⟨rfl,rfl,rfl⟩
 all_goals
  cases U with
  |false =>
   obtain⟨D,z,f0,f1⟩:=n.Z _ (VM _ _);have C:=bZ (m.Z _ (VM _ _));clear n m;go_wp2;exact VN (v:=.agg #[.int .i64 9,.string ⟨#[]⟩]) Us rfl ⟨rfl,C.Z _ _⟩
  |true =>
   obtain rfl:V=false:=by simpa using Q
   obtain⟨D,z,f0,f1⟩:=n.Z _ (VM _ _);have C:=bZ (m.Z _ (VM _ _));clear n m;go_wp2;exact VN (v:=.agg #[.int .i64 9,.string ⟨#[]⟩]) Us rfl ⟨rfl,C.Z _ _⟩
end Ref
namespace Ref
def JY(v u x y w)(M:8<=w.1.size)(U:L3 v)(hu:L3 u)(hx:Tx x v)(V:Tx y u)(av:x.size<=100000)(ax:y.size<=100000):Calls prog 239 #[.int .u8 47,.string x,.string y] w λe Z=>e=.returned (dC (bY.make 47 v u))/\Xc w Z:=by
 obtain⟨F,S,p1,u1,ay,k1,C,_⟩:=kinds U x hx R5;obtain⟨r,T,p2,u2,aC,k2,D,_⟩:=kinds hu y V R5;have C:=bZ C;have D:=bZ D;obtain⟨R,b⟩:∃R,dC (bY.make 47 v u)=R:=⟨_,rfl⟩;rw[b];go_enter func239,ntmps239;go_wp2_with fail;refine b_ (C.Z (dV w)).1 λJ B=>?_;obtain rfl:=B.symm;dsimp only;go_wp2_with fail;refine b_ (D.Z _).1 λJ B=>?_;obtain rfl:=B.symm;dsimp only;go_wp2_with fail;refine b_ (C.Z _).2.1 λJ B=>?_;obtain rfl:=B.symm;dsimp only;go_wp2_with fail;refine b_ (D.Z _).2.1 λJ B=>?_;obtain rfl:=B.symm;dsimp only;go_wp2_with fail;refine((C.Z _).2.2 (eZ M)).mono ?_;rintro e J⟨o1,m,rfl,G⟩;dsimp only;go_wp2_with fail;refine((D.Z _).2.2 (ah (eZ M) G.eD.size)).mono ?_;rintro e K⟨o2,c2,rfl,I⟩;have aa:=bZ (G.below I.eD);have ab:=bZ I;have E:Below (dV w).1.size (dV w) K:=G.eD.trans (I.eD.mono G.eD.size);have ap:8<=K.1.size:=ah (eZ M) E.size;have l:=bZ (λw3 (h:Xc K w3)=>gI (E.trans (h.mono E.size)));have j:=bZ (λw3 (h:Xc K w3) x y=>fj (E.trans (h.mono E.size)) x y);clear G I C D E;dsimp only;by_cases O:S=true/\T=true
 ·obtain⟨rfl,rfl⟩:=O;obtain⟨rfl,rfl,rfl,ai,ak⟩:=k1.num;obtain⟨rfl,rfl,rfl,am,ao⟩:=k2.num;clear k1 k2;by_cases L:r=0
  ·subst L;have n:bY.make 47 (vn F) (vn 0)=.error 8:=rfl;rw[n]at b;rw[rE 8 8 rfl]at b;subst b;clear n;obtain⟨z,m,f0,f1⟩:=l.Z _ (VM _ _);have p:=bZ (j.Z _ (VM _ _));clear l j;go_wp2;exact VN (v:=.agg #[.int .i64 8,.string ⟨#[]⟩]) Uh rfl ⟨rfl,p.Z _ _⟩
  have ad:(r==0)=false:=T5;have n:bY.make 47 (vn F) (vn r)=.ok (vn (wrap64 (F.tdiv r))):=by
   rw[<-qT];show(if r=0 then _ else _)=_;rw[ae L]
  rw[n]at b;obtain⟨X,Y,Q⟩:=dw (.ok (vn (wrap64 (F.tdiv r))));have P:=bZ (λw=>mF (wrap64 (F.tdiv r)) w TX TX);rw[Q]at P b;subst b;clear Q n;go_wp2_with fail;refine b_ (P.Z _) λw3 N=>?_;obtain⟨z,m,f0,f1⟩:=l.Z _ N;have p:=bZ (j.Z _ N);clear N l j;dsimp only;go_wp2;exact VN (v:=.agg #[.int .i64 X,.string Y]) Uh rfl ⟨rfl,p.Z _ _⟩
 have n:bY.make 47 v u=.error 9:=sG _ k1 k2 O;rw[n]at b;rw[rE 9 9 rfl]at b;subst b;clear n k1 k2;cases S with
 |false =>
  obtain⟨z,m,f0,f1⟩:=l.Z _ (VM _ _);have p:=bZ (j.Z _ (VM _ _));clear l j;go_wp2;exact VN (v:=.agg #[.int .i64 9,.string ⟨#[]⟩]) Uh rfl ⟨rfl,p.Z _ _⟩
 |true =>
  obtain rfl:T=false:=Ud;obtain⟨z,m,f0,f1⟩:=l.Z _ (VM _ _);have p:=bZ (j.Z _ (VM _ _));clear l j;go_wp2;exact VN (v:=.agg #[.int .i64 9,.string ⟨#[]⟩]) Uh rfl ⟨rfl,p.Z _ _⟩
def yp(op k v u x y P Q)(G:(op=105/\k=109/\P=x/\Q=y)\/(op=97/\k=120/\P=y/\Q=x))(w)(M:8<=w.1.size)(V:L3 v)(hu:L3 u)(hx:Tx x v)(O:Tx y u)(ao:x.size<=100000)(ap:y.size<=100000):Calls prog 239 #[.int .u8 op,.string x,.string y] w λe X=>e=.returned (dC (bY.make k v u))/\Xc w X:=by
 obtain⟨b,S,p1,u1,av,k1,D,_⟩:=kinds V x hx R5;obtain⟨j,T,p2,u2,ax,k2,E,_⟩:=kinds hu y O R5;have D:=bZ D;have E:=bZ E;obtain⟨R,p⟩:∃R,dC (bY.make k v u)=R:=⟨_,rfl⟩;rw[p];go_enter func239,ntmps239;go_wp2_with fail;refine b_ (D.Z (dV w)).1 λK C=>?_;obtain rfl:=C.symm;dsimp only;go_wp2_with fail;refine b_ (E.Z _).1 λK C=>?_;obtain rfl:=C.symm;dsimp only;go_wp2_with fail;refine b_ (D.Z _).2.1 λK C=>?_;obtain rfl:=C.symm;dsimp only;go_wp2_with fail;refine b_ (E.Z _).2.1 λK C=>?_;obtain rfl:=C.symm;dsimp only;go_wp2_with fail;refine((D.Z _).2.2 (eZ M)).mono ?_;rintro e K⟨o1,n,rfl,I⟩;dsimp only;go_wp2_with fail;refine((E.Z _).2.2 (ah (eZ M) I.eD.size)).mono ?_;rintro e L⟨o2,c2,rfl,J⟩;have Y:=bZ (I.below J.eD);have Z:=bZ J;have F:Below (dV w).1.size (dV w) L:=I.eD.trans (J.eD.mono I.eD.size);have ak:8<=L.1.size:=ah (eZ M) F.size;have m:=bZ (λw3 (h:Xc L w3)=>gI (F.trans (h.mono F.size)));have l:=bZ (λw3 (h:Xc L w3) x y=>fj (F.trans (h.mono F.size)) x y);clear I J D E F;dsimp only;by_cases N:S=true/\T=true
 ·obtain⟨rfl,rfl⟩:=N;obtain⟨rfl,rfl,rfl,aa,ab⟩:=k1.num;obtain⟨rfl,rfl,rfl,ad,ai⟩:=k2.num;clear k1 k2;by_cases U:b<j
  ·have r:dC (bY.make k (vn b) (vn j))=.agg #[.int .i64 0,.string P]:=by
    rcases G with⟨rfl,rfl,rfl,rfl⟩|⟨rfl,rfl,rfl,rfl⟩
    ·show dC (.ok (vn (min b j)))=_;rw[show min b j=b by omega];exact nR hx
    show dC (.ok (vn (max b j)))=_;rw[show max b j=j by omega];exact nR O
   rw[r]at p;subst p;clear r;rcases G with⟨rfl,rfl,rfl,rfl⟩|⟨rfl,rfl,rfl,rfl⟩
   all_goals
    obtain⟨B,n,f0,f1⟩:=m.Z _ (VM _ _);have z:=bZ (l.Z _ (VM _ _));clear m l;go_wp2;exact VN (v:=.agg #[.int .i64 0,.string _]) Ui rfl ⟨rfl,z.Z _ _⟩
  have r:dC (bY.make k (vn b) (vn j))=.agg #[.int .i64 0,.string Q]:=by
   rcases G with⟨rfl,rfl,rfl,rfl⟩|⟨rfl,rfl,rfl,rfl⟩
   ·show dC (.ok (vn (min b j)))=_;rw[show min b j=j by omega];exact nR O
   show dC (.ok (vn (max b j)))=_;rw[show max b j=b by omega];exact nR hx
  rw[r]at p;subst p;have hd:decide (b<j)=false:=aN U;have am:j<=b:=R5;clear r;rcases G with⟨rfl,rfl,rfl,rfl⟩|⟨rfl,rfl,rfl,rfl⟩
  all_goals
   obtain⟨B,n,f0,f1⟩:=m.Z _ (VM _ _);have z:=bZ (l.Z _ (VM _ _));clear m l;go_wp2;exact VN (v:=.agg #[.int .i64 0,.string _]) Ui rfl ⟨rfl,z.Z _ _⟩
 have r:bY.make k v u=.error 9:=by rcases G with⟨rfl,rfl,rfl,rfl⟩|⟨rfl,rfl,rfl,rfl⟩<;>exact sG _ k1 k2 N
 rw[r]at p;rw[rE 9 9 rfl]at p;subst p;clear r k1 k2;rcases G with⟨rfl,rfl,rfl,rfl⟩|⟨rfl,rfl,rfl,rfl⟩
 all_goals
  cases S with
  |false =>
   obtain⟨B,n,f0,f1⟩:=m.Z _ (VM _ _);have z:=bZ (l.Z _ (VM _ _));clear m l;go_wp2;exact VN (v:=.agg #[.int .i64 9,.string ⟨#[]⟩]) Ui rfl ⟨rfl,z.Z _ _⟩
  |true =>
   obtain rfl:T=false:=by simpa using N
   obtain⟨B,n,f0,f1⟩:=m.Z _ (VM _ _);have z:=bZ (l.Z _ (VM _ _));clear m l;go_wp2;exact VN (v:=.agg #[.int .i64 9,.string ⟨#[]⟩]) Ui rfl ⟨rfl,z.Z _ _⟩
end Ref
namespace Ref
variable{v:V}{a:Int}{m:Bool}{ks:List (a_)}{x:ba}{b:a_}
def KF.word{u:Bool}(h:KF v a m true u ks):(∃b,v=vw b)/\m=false/\u=false:=by
 rcases h with⟨_,h1,_⟩|⟨h1,_,h2,h⟩|⟨_,h1,_⟩
 ·cases h1
 ·exact⟨h,h1,h2⟩
 cases h1
def KF.list{p:Bool}(h:KF v a m p true ks):(∃l,v=vl l/\ks=l.map (wr 3)/\∀x∈l,L3 x)/\m=false/\p=false:=by
 rcases h with⟨_,_,h1,_⟩|⟨_,_,h1,_⟩|⟨h1,h2,_,h⟩
 ·cases h1
 ·cases h1
 exact⟨h,h1,h2⟩
def nS(h:Tx x (vw b)):x.size=b.length+2/\(x.extract 1 (x.size-1)).1.1=b:=by
 have h1:x.1.1=39::(b++[39]):=by rw[h,sy]
 have h2:x.size=b.length+2:=by rw[VO,h1];simp
 refine⟨h2,?_⟩;rw[VV,h1,h2,Rx,aW];exact SL R5
def tz:prog.follows .mixedOrders=true:=S8
def lu{r u:V}{y z:Int}{e j n p u1 u2:Bool}{C D:List (a_)}(h1:KF r y e n u1 C)(h2:KF u z j p u2 D)(h:¬(e=true/\j=true))(B:¬(n=true/\p=true)):bY.less r u=.error 9:=by
 rcases h1 with⟨rfl,_,_,rfl,_⟩|⟨_,rfl,_,b,rfl⟩|⟨_,_,_,l,rfl,_⟩
 ·rcases h2 with⟨rfl,_⟩|⟨_,_,_,b,rfl⟩|⟨_,_,_,l,rfl,_⟩
  ·exact absurd ⟨rfl,rfl⟩ h
  ·rfl
  rfl
 ·rcases h2 with⟨rfl,_,_,rfl,_⟩|⟨_,rfl,_,b,rfl⟩|⟨_,_,_,l,rfl,_⟩
  ·rfl
  ·exact absurd ⟨rfl,rfl⟩ B
  rfl
 rfl
def GF(v u x y w)(T:8<=w.1.size)(hv:L3 v)(hu:L3 u)(hx:Tx x v)(hy:Tx y u)(bj:x.size<=100000)(bk:y.size<=100000):Calls prog 239 #[.int .u8 60,.string x,.string y] w λe w'=>e=.returned (dC (bY.make 60 v u))/\Xc w w':=by
 obtain⟨N,X,Y,u1,bl,k1,G,_⟩:=kinds hv x hx R5;obtain⟨O,m2,p2,u2,bm,k2,I,_⟩:=kinds hu y hy R5;have G:=bZ G;have I:=bZ I;obtain⟨R,j⟩:∃R,dC (bY.make 60 v u)=R:=⟨_,rfl⟩;rw[j];go_enter func239,ntmps239;go_wp2_with fail;refine b_ (G.Z (dV w)).1 λS E=>?_;obtain rfl:=E.symm;dsimp only;go_wp2_with fail;refine b_ (I.Z _).1 λS E=>?_;obtain rfl:=E.symm;dsimp only;go_wp2_with fail;refine b_ (G.Z _).2.1 λS E=>?_;obtain rfl:=E.symm;dsimp only;go_wp2_with fail;refine b_ (I.Z _).2.1 λS E=>?_;obtain rfl:=E.symm;dsimp only;go_wp2_with fail;refine((G.Z _).2.2 (eZ T)).mono ?_;rintro e S⟨o1,p,rfl,L⟩;dsimp only;go_wp2_with fail;refine((I.Z _).2.2 (ah (eZ T) L.eD.size)).mono ?_;rintro e D⟨o2,c2,rfl,Q⟩;have a4:=bZ (L.below Q.eD);have a5:=bZ Q;have J:Below (dV w).1.size (dV w) D:=L.eD.trans (Q.eD.mono L.eD.size);have bc:8<=D.1.size:=ah (eZ T) J.size;have n:=bZ (λw3 (h:Xc D w3)=>gI (J.trans (h.mono J.size)));have l:=bZ (λw3 (h:Xc D w3) x y=>fj (J.trans (h.mono J.size)) x y);clear L Q G I J;dsimp only;by_cases V:Y=true/\p2=true
 ·obtain⟨rfl,rfl⟩:=V;obtain⟨⟨b1,rfl⟩,rfl,rfl⟩:=k1.word;obtain⟨⟨b2,rfl⟩,rfl,rfl⟩:=k2.word;obtain⟨a0,ab⟩:=nS hx;obtain⟨a3,ad⟩:=nS hy;have C:bY.make 60 (vw b1) (vw b2)=.ok (bY.bit (Op.bytesLess (x.extract 1 (x.size-1)).1.1 (y.extract 1 (y.size-1)).1.1)):=by rw[ab,ad];rfl
  rw[C,<-VP,<-VP]at j;obtain⟨b,P⟩:∃b,Op.bytesLess (x.extract 1 (x.size-1)).toList (y.extract 1 (y.size-1)).toList=b:=⟨_,rfl⟩;rw[P]at j;obtain⟨Z,ts,M⟩:=dw (.ok (bY.bit b));have F:=bZ (λw=>wg b w);rw[M]at F j;subst j;have bd:2<=x.size:=R5;have bg:2<=y.size:=R5;have bf:¬(x.size:Int)<2:=R5;have bh:¬(y.size:Int)<2:=R5;have ap:((x.size:Int)-1).toNat=x.size-1:=R5;have av:((y.size:Int)-1).toNat=y.size-1:=R5;have ay:IntKind.i64.wrap ((x.size:Int)-1)=(x.size:Int)-1:=Tz;have aC:IntKind.i64.wrap ((y.size:Int)-1)=(y.size:Int)-1:=Tz;have ai:0<=(x.size:Int)-1/\(x.size:Int)-1<=(x.size:Int):=R5;have ak:0<=(y.size:Int)-1/\(y.size:Int)-1<=(y.size:Int):=R5;have am:(1:Int)<=(x.size:Int)-1:=R5;have ao:(1:Int)<=(y.size:Int)-1:=R5;clear M C k1 k2 ab ad a0 a3;go_wp2_with fail;refine wp_region_still_tail 11 tz S8 ?_;simp only[Q9,List.take_zero,Rx,aW]
  iterate 11 (with_reducible refine wpStill_step (λK hK=>?_);go_simp;(try simp only[ay,aC,ap,av,ag ai,ag ak,ag am,ag ao,P]);with_reducible refine hK _ ?_;clear hK K)
  with_reducible refine wpStill_nil ?_
  show wpList _ _ _ _ _ D.drew;go_wp2_with fail;have aa:Xc D D.drew:=(VM _ D).drew;refine b_ (F.Z _) λw3 B=>?_;have B:=aa.trans (B.mono aa.size);obtain⟨z,p,f0,f1⟩:=n.Z _ B;have r:=bZ (l.Z _ B);clear B n l;dsimp only;go_wp2;exact VN (v:=.agg #[.int .i64 Z,.string ts]) Tq rfl ⟨rfl,r.Z _ _⟩
 by_cases U:X=true/\m2=true
 ·obtain⟨rfl,rfl⟩:=U;obtain⟨rfl,rfl,rfl,a6,a7⟩:=k1.num;obtain⟨rfl,rfl,rfl,a8,a9⟩:=k2.num;clear k1 k2;have C:bY.make 60 (vn N) (vn O)=.ok (bY.bit (decide (N<O))):=rfl;rw[C]at j;have F:=bZ (λw=>wg (decide (N<O)) w);obtain⟨b,P⟩:∃b,decide (N<O)=b:=⟨_,rfl⟩;rw[P]at F j;obtain⟨Z,ts,M⟩:=dw (.ok (bY.bit b));rw[M]at F j;subst j;clear M C;go_wp2_with fail;refine b_ (F.Z _) λw3 B=>?_;obtain⟨z,p,f0,f1⟩:=n.Z _ B;have r:=bZ (l.Z _ B);clear B n l;dsimp only;go_wp2;exact VN (v:=.agg #[.int .i64 Z,.string ts]) Tq rfl ⟨rfl,r.Z _ _⟩
 have C:bY.make 60 v u=.error 9:=lu k1 k2 U V;have ax:Y=true->X=false:=λh=>by subst h;exact k1.word.2.1
 rw[C]at j;rw[rE 9 9 rfl]at j;subst j;clear C k1 k2;cases Y with
 |true =>
  obtain rfl:=ax rfl;obtain rfl:p2=false:=by simpa using V
  obtain⟨z,p,f0,f1⟩:=n.Z _ (VM _ _);have r:=bZ (l.Z _ (VM _ _));clear n l;go_wp2;exact VN (v:=.agg #[.int .i64 9,.string ⟨#[]⟩]) Tq rfl ⟨rfl,r.Z _ _⟩
 |false =>
  cases X with
  |false =>
   obtain⟨z,p,f0,f1⟩:=n.Z _ (VM _ _);have r:=bZ (l.Z _ (VM _ _));clear n l;go_wp2;exact VN (v:=.agg #[.int .i64 9,.string ⟨#[]⟩]) Tq rfl ⟨rfl,r.Z _ _⟩
  |true =>
   obtain rfl:m2=false:=by simpa using U
   obtain⟨z,p,f0,f1⟩:=n.Z _ (VM _ _);have r:=bZ (l.Z _ (VM _ _));clear n l;go_wp2;exact VN (v:=.agg #[.int .i64 9,.string ⟨#[]⟩]) Tq rfl ⟨rfl,r.Z _ _⟩
end Ref
namespace Ref
variable{n:Nat}
def tY{m p:V}{r u:Int}{e j B C u1 u2:Bool}{y z:List (a_)}(h1:KF m r e B u1 y)(h2:KF p u j C u2 z)(h:¬j=true\/e=true):gz m p=.error 9:=by
 rcases h2 with⟨rfl,_,_,rfl,_⟩|⟨_,_,_,b,rfl⟩|⟨_,_,_,l,rfl,_⟩
 ·rcases h1 with⟨rfl,_,_,rfl,_⟩|⟨rfl,_⟩|⟨rfl,_⟩
  ·rfl
  ·rcases h with h|h
   ·exact absurd rfl h
   cases h
  rcases h with h|h
  ·exact absurd rfl h
  cases h
 ·rfl
 rfl
def E2{a:Int}(h:a<0\/n<=a):bY.place a n=.error 7:=by unfold bY.place;rw[ag h]
def E3{k:Nat}(h:k<n):bY.place k n=.ok k:=by
 unfold bY.place;rw[ae R5];rfl
def MH(v u x y w)(Q:8<=w.1.size)(hv:L3 v)(hu:L3 u)(hx:Tx x v)(hy:Tx y u)(bc:x.size<=100000)(bd:y.size<=100000):Calls prog 239 #[.int .u8 64,.string x,.string y] w λe w'=>e=.returned (dC (bY.make 64 v u))/\Xc w w':=by
 obtain⟨a1,M,Y,u1,bf,k1,E,_⟩:=kinds hv x hx R5;obtain⟨m,T,p2,u2,bg,k2,F,_⟩:=kinds hu y hy R5;have E:=bZ E;have F:=bZ F;obtain⟨R,b⟩:∃R,dC (bY.make 64 v u)=R:=⟨_,rfl⟩;rw[b];go_enter func239,ntmps239;go_wp2_with fail;refine b_ (E.Z (dV w)).1 λO D=>?_;obtain rfl:=D.symm;dsimp only;go_wp2_with fail;refine b_ (F.Z _).1 λO D=>?_;obtain rfl:=D.symm;dsimp only;go_wp2_with fail;refine b_ (E.Z _).2.1 λO D=>?_;obtain rfl:=D.symm;dsimp only;go_wp2_with fail;refine b_ (F.Z _).2.1 λO D=>?_;obtain rfl:=D.symm;dsimp only;go_wp2_with fail;refine((E.Z _).2.2 (eZ Q)).mono ?_;rintro e O⟨o1,p,rfl,L⟩;dsimp only;go_wp2_with fail;refine((F.Z _).2.2 (ah (eZ Q) L.eD.size)).mono ?_;rintro e P⟨o2,c2,rfl,N⟩;have Z:=bZ (L.below N.eD);have ap:=bZ N;have G:Below (dV w).1.size (dV w) P:=L.eD.trans (N.eD.mono L.eD.size);have ay:8<=P.1.size:=ah (eZ Q) G.size;have l:=bZ (λw3 (h:Xc P w3)=>gI (G.trans (h.mono G.size)));have j:=bZ (λw3 (h:Xc P w3) x y=>fj (G.trans (h.mono G.size)) x y);clear L N E F G;dsimp only;by_cases S:T=true/\¬M=true
 ·obtain⟨rfl,J⟩:=S;obtain rfl:M=false:=by simpa using J
  obtain⟨rfl,rfl,rfl,av,ax⟩:=k2.num;cases Y with
  |true =>
   obtain⟨⟨b1,rfl⟩,_,rfl⟩:=k1.word;obtain⟨a8,U⟩:=nS hx;have C:bY.make 64 (vw b1) (vn m)=match bY.place m b1.length with
     |.ok k=>.ok (vw ((b1.drop k).take 1))
     |.error e=>.error e:=rfl
   rw[C]at b;have a9:((x.size:Int)-2)=(b1.length:Int):=R5;have a7:IntKind.i64.wrap ((x.size:Int)-2)=(b1.length:Int):=Tz;clear k1 k2 C;by_cases K:m<0\/(b1.length:Int)<=m
   ·rw[E2 K]at b;rw[rE 7 7 rfl]at b;subst b;clear J U;by_cases am:m<0
    ·skip
     obtain⟨z,p,f0,f1⟩:=l.Z _ (VM _ _);have r:=bZ (j.Z _ (VM _ _));clear l j;go_wp2;exact VN (v:=.agg #[.int .i64 7,.string ⟨#[]⟩]) Tq rfl ⟨rfl,r.Z _ _⟩
    have ab:(b1.length:Int)<=m:=R5;have ad:¬m<(b1.length:Int):=R5;obtain⟨z,p,f0,f1⟩:=l.Z _ (VM _ _);have r:=bZ (j.Z _ (VM _ _));clear l j;go_wp2;exact VN (v:=.agg #[.int .i64 7,.string ⟨#[]⟩]) Tq rfl ⟨rfl,r.Z _ _⟩
   obtain⟨k,rfl⟩:∃k:Nat,m=(k:Int):=⟨m.toNat,by omega⟩;have I:k<b1.length:=R5;rw[E3 I]at b;simp only at b;obtain⟨t,X⟩:∃t,x.extract (1+k) (2+k)=t:=⟨_,rfl⟩;have a6:t.size=1:=by
    rw[<-X,VO,VV,Rf,aV,<-VO];omega
   have V:dC (.ok (vw ((b1.drop k).take 1)))=.agg #[.int .i64 0,.string (⟨#[39]⟩++t++⟨#[39]⟩)]:=by
    refine nR ?_;show _=_;rw[dI,dI,<-X,VV,hx,show 2+k-(1+k)=1 by omega,Bc I,sy];rfl
   rw[V]at b;subst b;have ak:(k:Int)<(b1.length:Int):=R5;have ai:¬(k:Int)<0:=R5;have a0:(k:Int)+3<=(x.size:Int):=R5;have a5:((1:Int)+(k:Int)).toNat=1+k:=R5;have aC:((2:Int)+(k:Int)).toNat=2+k:=R5;clear V J U K;obtain⟨z,p,f0,f1⟩:=l.Z _ (VM _ _);have r:=bZ (j.Z _ (VM _ _));clear l j;go_wp2;exact VN (v:=.agg #[.int .i64 0,.string (⟨#[39]⟩++t++⟨#[39]⟩)]) Tq rfl ⟨rfl,r.Z _ _⟩
  |false =>
   obtain rfl:u1=true:=by
    rcases k1 with⟨h,_⟩|⟨_,h,_⟩|⟨_,_,h,_⟩
    ·cases h
    ·cases h
    exact h
   obtain⟨⟨B,rfl,rfl,a3⟩,_,_⟩:=k1.list;have C:bY.make 64 (vl B) (vn m)=match bY.place m B.length with
     |.ok k=>.ok (B[k]?.getD (vn 0))
     |.error e=>.error e:=rfl
   rw[C]at b;have a4:(B.map (wr 3)).length=B.length:=aH _;clear k1 k2 C;by_cases K:m<0\/(B.length:Int)<=m
   ·rw[E2 K]at b;rw[rE 7 7 rfl]at b;subst b;clear J;by_cases am:m<0
    ·skip
     obtain⟨z,p,f0,f1⟩:=l.Z _ (VM _ _);have r:=bZ (j.Z _ (VM _ _));clear l j;go_wp2;exact VN (v:=.agg #[.int .i64 7,.string ⟨#[]⟩]) Tq rfl ⟨rfl,r.Z _ _⟩
    have ab:(B.length:Int)<=m:=R5;have ad:¬m<(B.length:Int):=R5;obtain⟨z,p,f0,f1⟩:=l.Z _ (VM _ _);have r:=bZ (j.Z _ (VM _ _));clear l j;go_wp2;exact VN (v:=.agg #[.int .i64 7,.string ⟨#[]⟩]) Tq rfl ⟨rfl,r.Z _ _⟩
   obtain⟨k,rfl⟩:∃k:Nat,m=(k:Int):=⟨m.toNat,by omega⟩;have I:k<B.length:=R5;rw[E3 I]at b;simp only at b;rw[aq I]at b;change Value.agg #[.int .i64 0,str (wr 3 B[k])]=R at b;unfold str at b;subst b;have aa:(B.map (wr 3))[k]?=some (wr 3 B[k]):=by rw[Q6,aq I];rfl
   have ak:(k:Int)<(B.length:Int):=R5;have ai:¬(k:Int)<0:=R5;clear J K;obtain⟨g,rfl,hg,hcell⟩:=Z.Z.cell aa;unfold str at hcell;obtain⟨z,p,f0,f1⟩:=l.Z _ (VM _ _);have r:=bZ (j.Z _ (VM _ _));clear l j;go_wp2;exact VN (v:=.agg #[.int .i64 0,.string ⟨(wr 3 B[k]).toArray⟩]) Tq rfl ⟨rfl,r.Z _ _⟩
 have C:bY.make 64 v u=.error 9:=tY k1 k2 (by
  by_cases h:T=true
  ·exact .inr (by simpa[h]using S)
  ·exact .inl h)
 have ao:M=true->Y=false/\u1=false:=λh=>by subst h;exact⟨k1.num.2.1,k1.num.2.2.1⟩
 rw[C]at b;rw[rE 9 9 rfl]at b;subst b;clear C k1 k2;cases T with
 |true =>
  obtain rfl:M=true:=by simpa using S
  obtain⟨rfl,rfl⟩:=ao rfl;obtain⟨z,p,f0,f1⟩:=l.Z _ (VM _ _);have r:=bZ (j.Z _ (VM _ _));clear l j;go_wp2;exact VN (v:=.agg #[.int .i64 9,.string ⟨#[]⟩]) Tq rfl ⟨rfl,r.Z _ _⟩
 |false =>
  cases M with
  |true =>
   obtain⟨z,p,f0,f1⟩:=l.Z _ (VM _ _);have r:=bZ (j.Z _ (VM _ _));clear l j;go_wp2;exact VN (v:=.agg #[.int .i64 9,.string ⟨#[]⟩]) Tq rfl ⟨rfl,r.Z _ _⟩
  |false =>
   obtain⟨z,p,f0,f1⟩:=l.Z _ (VM _ _);have r:=bZ (j.Z _ (VM _ _));clear l j;go_wp2;exact VN (v:=.agg #[.int .i64 9,.string ⟨#[]⟩]) Tq rfl ⟨rfl,r.Z _ _⟩
end Ref
end
section
open Tryz
namespace Ref
variable{v:Xb}{o:Option Addr}
def BF(w e j n b l)(p:n<=b):(Builtin.append_ #[40,40] 40 #[.slice e n b,.slice j 0 l]).run prog w=.ok (.slice e n b) w:=by
 obtain⟨z,m,r,u,y⟩:=VW qA;cases e<;>cases j<;>simp[Builtin.append_,run_underlying underlying40,Builtin.lenOf,Builtin.firstCells,sizeOf,typeInfo,m,p,storeCells,loadCells,loadCellsFrom]
def iY.join{w0 w1 w:Xa}{l ks:List (a_)}{c:Nat}(h:iY w0 w v l)(E:iY w1 w (.slice o ks.length c) ks)(I:8<=w0.1.size)(Y:l.length+ks.length<=10000000):∃z m B,(Builtin.append_ #[40,40] 40 #[v,.slice o ks.length c]).run prog w=.ok (.slice z (l.length+ks.length) m) B/\iY w0 B (.slice z (l.length+ks.length) m) (l++ks)/\w.1.size<=B.1.size:=by
 by_cases D:ks.length=0
 ·have e:ks=[]:=R4.1 D;subst e;obtain⟨z,m,rfl⟩:=h.form;have L:l.length<=m:=by
   rcases h.row.2 with⟨e,D⟩|⟨g,C,T,e,_,_,M,_⟩
   ·omega
   cases e;exact M
  exact⟨z,m,w,BF w z o l.length m c L,by rw[RD];exact h,af _⟩
 obtain⟨x,hx⟩:∃x,ks[0]?=some x:=⟨ks[0],aq R5⟩;obtain⟨g,rfl,V,_⟩:=E.cell hx;obtain⟨S,K,P,Q,R⟩:=VW qA;obtain⟨G,C,B,O,N,n,r,X⟩:=run_append_lies (P:=prog) w 40 40 8 9 S _ 1 16 underlying40 K P Q R rfl S4 v l.length (l.map str) h.row ⟨g,0,none⟩ ks.length c (ks.map str) S5 (λj u p=>by
  rw[addr_add,aG];rw[Q6]at p;cases b:ks[j]? with
  |none=>rw[b]at p;cases p
  |some y =>
   rw[b]at p;cases p;obtain⟨U,F,_,J⟩:=E.cell b;cases F;exact J) (λu hu=>by
  obtain⟨y,_,rfl⟩:=aE.1 hu;rfl) R5 Th R5 (ah I h.eD.size) _ rfl
 refine⟨some ⟨G,0,none⟩,C,B,O,⟨?_,λk b=>?_,?_⟩,n.size⟩
 ·rw[aj,aZ];exact N
 ·cases b;rcases r with r|r
  ·exact h.new _ r
  rw[r];exact h.eD.size
 exact⟨n.os.trans h.eD.os,n.tape.trans h.eD.tape,n.output.trans h.eD.output,ah h.eD.size n.size,λk b=>(n.block k (aw b h.eD.size) (λe=>by have:=h.new k e.symm;omega)).trans (h.eD.block k b)⟩
end Ref
end
section
open bY
open Tryz
namespace Ref
variable{x:ba}{l:List V}{b:a_}{a:Int}{ks:List (a_)}
def E4(h:Tx x (vl l))(e:L3 (vl l)):x.1.1=il (l.map (wr 3))/\l.length<=12:=by
 refine⟨?_,vu e rfl⟩;rw[h,Df,Dg (λu hu=>pN 2 u (Jp e u hu))];rfl
def wh:∀a b,(cS (a++b)).length<=(cS a).length+(cS b).length+1
 |[],b=>by rw[Rz];omega
 |[x],[]=>by simp[cS]
 |[x],y::b=>by
  have e:cS (x::y::b)=x++44::cS (y::b):=rfl;show(cS (x::y::b)).length<=x.length+_+1;rw[e,aj,aM];omega
 |x::y::a,b=>by
  have:=wh (y::a) b;show(cS (x::y::(a++b))).length<=_;rw[cS,cS,aj,aj,aM,aM];have e:y::(a++b)=y::a++b:=rfl;rw[e];omega
def kd{p r:V}{u y:Int}{e j m n u1 u2:Bool}{B C:List (a_)}(h1:KF p u e m u1 B)(h2:KF r y j n u2 C)(h:¬(e=true/\j=true))(z:¬(m=true/\n=true))(hu:¬(u1=true/\u2=true)):plus p r=.error 9:=by
 rcases h1 with⟨rfl,_,_,rfl,_⟩|⟨_,rfl,_,b,rfl⟩|⟨_,_,rfl,l,rfl,_⟩
 ·rcases h2 with⟨rfl,_⟩|⟨_,_,_,b,rfl⟩|⟨_,_,_,l,rfl,_⟩
  ·exact absurd ⟨rfl,rfl⟩ h
  ·rfl
  rfl
 ·rcases h2 with⟨rfl,_,_,rfl,_⟩|⟨_,rfl,_,b,rfl⟩|⟨_,_,_,l,rfl,_⟩
  ·rfl
  ·exact absurd ⟨rfl,rfl⟩ z
  rfl
 rcases h2 with⟨rfl,_,_,rfl,_⟩|⟨_,rfl,_,b,rfl⟩|⟨_,_,rfl,l,rfl,_⟩
 ·rfl
 ·rfl
 exact absurd ⟨rfl,rfl⟩ hu
def KF.QT{m p u:Bool}(h:KF (vw b) a m p u ks):p=true:=by
 rcases h with⟨_,_,_,h,_⟩|⟨_,h,_⟩|⟨_,_,_,l,h,_⟩
 ·have:=congrArg V.x h;cases this
 ·exact h
 have:=congrArg V.x h;cases this
def KF.PH{m p u:Bool}(h:KF (vl l) a m p u ks):u=true:=by
 rcases h with⟨_,_,_,h,_⟩|⟨_,_,_,b,h⟩|⟨_,_,h,_⟩
 ·have:=congrArg V.x h;cases this
 ·have:=congrArg V.x h;cases this
 exact h
def DM(v u x y w)(z:8<=w.1.size)(R:L3 v)(hu:L3 u)(hx:Tx x v)(J:Tx y u)(a4:x.size<=100000)(a5:y.size<=100000)(S:∃b c,v=vw b/\u=vw c):Calls prog 239 #[.int .u8 43,.string x,.string y] w λe w'=>e=.returned (dC (bY.make 43 v u))/\Xc w w':=by
 obtain⟨a1,m1,p1,u1,a7,k1,n,_⟩:=kinds R x hx R5;obtain⟨a2,m2,p2,u2,a8,k2,p,_⟩:=kinds hu y J R5;have n:=bZ n;have p:=bZ p;have ao:p1=true/\p2=true:=by
  obtain⟨b,c,rfl,rfl⟩:=S;exact⟨k1.QT,k2.QT⟩
 clear S;obtain⟨rfl,rfl⟩:=ao;obtain⟨⟨b1,rfl⟩,rfl,rfl⟩:=k1.word;obtain⟨⟨b2,rfl⟩,rfl,rfl⟩:=k2.word;obtain⟨T,_⟩:=nS hx;obtain⟨U,_⟩:=nS J;have D:(x.extract 0 (x.size-1)++y.extract 1 y.size).1.1=39::(b1++b2++[39]):=by
  rw[dI,VV,VV,hx,J,sy,sy,T,U,aW,Rx,aW];have Y:(39::(b1++[39])).take (b1.length+2-1-0)=39::b1:=by
   rw[show b1.length+2-1-0=b1.length+1 by omega,Q9,SL rfl]
  have Z:(b2++[39]).take (b2.length+2-1)=b2++[39]:=Ri S5;rw[Y,Z];simp
 have P:bY.make 43 (vw b1) (vw b2)=plus (vw b1) (vw b2):=rfl;rw[P];have G:=bZ (λw z=>uj (x.extract 0 (x.size-1)++y.extract 1 y.size) w z (by rw[VO,D];simp;omega));rw[D,Jr R hu,pY]at G;obtain⟨tc,ts,Q⟩:=dw (plus (vw b1) (vw b2));rw[Q]at G ⊢;have aC:2<=x.size:=R5;have a3:2<=y.size:=R5;have a0:¬(x.size:Int)<2:=R5;have ak:((x.size:Int)-1).toNat=x.size-1:=R5;have ap:IntKind.i64.wrap ((x.size:Int)-1)=(x.size:Int)-1:=Tz;have ab:0<=(x.size:Int)-1/\(x.size:Int)-1<=(x.size:Int):=R5;have ai:(1:Int)<=(y.size:Int):=R5;have ad:(1:Int)<=(x.size:Int):=R5;have am:¬9223372036854775807<x.size-1+(y.size-1):=R5;have av:(x.extract 0 (x.size-1)++y.extract 1 y.size).size<=200000:=by rw[VO,D];simp;omega
 have a6:(x.extract 0 (x.size-1)).size+(y.extract 1 y.size).size<=200000:=by rw[<-v_];exact av
 clear Q P k1 k2 D T U;go_enter func239,ntmps239;go_wp2_with fail;refine b_ (n.Z (dV w)).1 λF m=>?_;obtain rfl:=m.symm;dsimp only;go_wp2_with fail;refine b_ (p.Z _).1 λF m=>?_;obtain rfl:=m.symm;dsimp only;go_wp2_with fail;refine b_ (n.Z _).2.1 λF m=>?_;obtain rfl:=m.symm;dsimp only;go_wp2_with fail;refine b_ (p.Z _).2.1 λF m=>?_;obtain rfl:=m.symm;dsimp only;go_wp2_with fail;refine((n.Z _).2.2 (eZ z)).mono ?_;rintro e F⟨o1,N,rfl,C⟩;dsimp only;go_wp2_with fail;refine((p.Z _).2.2 (ah (eZ z) C.eD.size)).mono ?_;rintro e j⟨o2,c2,rfl,E⟩;have ax:=bZ (C.below E.eD);have ay:=bZ E;have r:Below (dV w).1.size (dV w) j:=C.eD.trans (E.eD.mono C.eD.size);have aa:8<=j.1.size:=ah (eZ z) r.size;have M:=bZ (λw3 (h:Xc j w3)=>gI (r.trans (h.mono r.size)));have L:=bZ (λw3 (h:Xc j w3) x y=>fj (r.trans (h.mono r.size)) x y);clear C E n p r;dsimp only;go_wp2_with fail;refine wp_region_still_tail 8 tz S8 ?_;simp only[Q9,List.take_zero,Rx,aW]
 iterate 8 (with_reducible refine wpStill_step (λK O=>?_);go_simp;(try simp only[ap,ak,ag ab,ag ad,ag ai,ae am]);with_reducible refine O _ ?_;clear O K)
 with_reducible refine wpStill_nil ?_
 show wpList _ _ _ _ _ j.drew;go_wp2_with fail;have I:Xc j j.drew:=(VM _ j).drew;refine b_ (G.Z _ (ah aa I.size)) λw3 B=>?_;have B:=I.trans (B.mono I.size);obtain⟨X,N,f0,f1⟩:=M.Z _ B;have V:=bZ (L.Z _ B);clear B M L;dsimp only;go_wp2;exact VN (v:=.agg #[.int .i64 tc,.string ts]) (by simp[results,results239,go_sem,X,N]) rfl ⟨rfl,V.Z _ _⟩
end Ref
namespace Ref
def DN(v u x y w)(B:8<=w.1.size)(hv:L3 v)(hu:L3 u)(hx:Tx x v)(hy:Tx y u)(bc:x.size<=100000)(bd:y.size<=100000)(hw:∃b c,v=vl b/\u=vl c):Calls prog 239 #[.int .u8 43,.string x,.string y] w λe w'=>e=.returned (dC (bY.make 43 v u))/\Xc w w':=by
 obtain⟨a1,m1,p1,u1,j,k1,n,_⟩:=kinds hv x hx R5;obtain⟨a2,m2,p2,u2,l,k2,p,_⟩:=kinds hu y hy R5;have n:=bZ n;have p:=bZ p;have a4:u1=true/\u2=true:=by
  obtain⟨b,c,rfl,rfl⟩:=hw;exact⟨k1.PH,k2.PH⟩
 clear hw;obtain⟨rfl,rfl⟩:=a4;obtain⟨⟨T,rfl,E,ay⟩,rfl,rfl⟩:=k1.list;obtain⟨⟨U,rfl,F,aC⟩,rfl,rfl⟩:=k2.list;obtain⟨R,a0⟩:=E4 hx hv;obtain⟨S,a3⟩:=E4 hy hu;rw[<-E]at R;rw[<-F]at S;have ak:bY.make 43 (vl T) (vl U)=en (T++U):=rfl;rw[ak];have av:(cS j).length<=100000:=by
  have:=congrArg List.length R;rw[<-VO]at this;unfold il at this;simp at this;omega
 have ax:(cS l).length<=100000:=by
  have:=congrArg List.length S;rw[<-VO]at this;unfold il at this;simp at this;omega
 have ai:(cS (j++l)).length<=300000:=by have:=wh j l;omega
 have a6:j.length<=12:=by rw[E,aH];exact a0
 have a7:l.length<=12:=by rw[F,aH];exact a3
 obtain⟨t,Q⟩:∃t:ba,(⟨(il (j++l)).toArray⟩:ba)=t:=⟨_,rfl⟩;have P:t.1.1=il (j++l):=by rw[<-Q]
 have am:str (il (j++l))=.string t:=by rw[<-Q];rfl
 have K:=bZ (λw B=>uj t w B (by rw[VO,P];unfold il;simp;omega));rw[P,E,F,<-aZ,vE (ig ay aC),pY]at K;obtain⟨tc,ts,ht⟩:=dw (en (T++U));rw[ht]at K ⊢;have Y:=bZ ai;clear ht ak k1 k2 R S E F ai av ax P Q;go_enter func239,ntmps239;go_wp2_with fail;refine b_ (n.Z (dV w)).1 λJ m=>?_;obtain rfl:=m.symm;dsimp only;go_wp2_with fail;refine b_ (p.Z _).1 λJ m=>?_;obtain rfl:=m.symm;dsimp only;go_wp2_with fail;refine b_ (n.Z _).2.1 λJ m=>?_;obtain rfl:=m.symm;dsimp only;go_wp2_with fail;refine b_ (p.Z _).2.1 λJ m=>?_;obtain rfl:=m.symm;dsimp only;go_wp2_with fail;refine((n.Z _).2.2 (eZ B)).mono ?_;rintro e J⟨o1,c1,rfl,D⟩;dsimp only;go_wp2_with fail;refine((p.Z _).2.2 (ah (eZ B) D.eD.size)).mono ?_;rintro e z⟨o2,c2,rfl,G⟩;have aa:=bZ (D.below G.eD);have ab:=bZ G;have r:Below (dV w).1.size (dV w) z:=D.eD.trans (G.eD.mono D.eD.size);have L:8<=z.1.size:=ah (eZ B) r.size;have X:=bZ (λw3 (h:Xc z w3)=>gI (r.trans (h.mono r.size)));have V:=bZ (λw3 (h:Xc z w3) x y=>fj (r.trans (h.mono r.size)) x y);clear D G n p r;dsimp only;obtain⟨o3,c3,w3,N,I,a8⟩:=(iY.nil z).join aa.Z L Tc;simp only[Ra,aG,Rz]at N I;obtain⟨o4,c4,w4,ad,O,a9⟩:=I.join (ab.Z.below I.eD) L R5
 have Z:=bZ (pq (l:=j++l) (o:=o4) (c:=c4) (by rw[aj];exact O) (by have:=Y.Z;omega) (by rw[aj];omega));rw[aj,am]at Z;have M:Xc z w4:=O.eD;have ap:8<=w4.1.size:=ah L M.size;clear I O Y am aa ab;go_wp2_with(at_builtin;first|(refine cW _ rfl _ _ _ _ rfl _ _ _ _ rfl rfl N ?_;clear N)|(refine cW _ rfl _ _ _ _ rfl _ _ _ _ rfl rfl ad ?_;clear ad));refine b_ Z.Z λw5 a5=>?_;obtain rfl:=a5.symm;dsimp only;go_wp2_with fail;refine b_ (K.Z _ ap) λw5 C=>?_;have C:=M.trans (C.mono M.size);obtain⟨c0,c1,f0,f1⟩:=X.Z _ C;have ao:=bZ (V.Z _ C);clear C X V;dsimp only;go_wp2;exact VN (v:=.agg #[.int .i64 tc,.string ts]) (by simp[results,results239,go_sem,c0,c1]) rfl ⟨rfl,ao.Z _ _⟩
end Ref
end
section
open Tryz
namespace Ref
def GG(v u x y w)(E:8<=w.1.size)(U:bY.L3 v)(hu:bY.L3 u)(hx:Tx x v)(V:Tx y u)(Z:x.size<=100000)(aa:y.size<=100000):Calls prog 239 #[.int .u8 43,.string x,.string y] w λe w'=>e=.returned (dC (bY.make 43 v u))/\Xc w w':=by
 obtain⟨I,L,M,u1,ay,k1,B,_⟩:=kinds U x hx R5;obtain⟨J,m2,p2,u2,aC,k2,C,_⟩:=kinds hu y V R5;have B:=bZ B;have C:=bZ C;by_cases S:M=true/\p2=true
 ·obtain⟨rfl,rfl⟩:=S;exact DM v u x y w E U hu hx V Z aa (by
   obtain⟨⟨b,h1⟩,_⟩:=k1.word;obtain⟨⟨c,h2⟩,_⟩:=k2.word;exact⟨b,c,h1,h2⟩)
 by_cases T:u1=true/\u2=true
 ·obtain⟨rfl,rfl⟩:=T;exact DN v u x y w E U hu hx V Z aa (by
   obtain⟨⟨b,h1,_⟩,_⟩:=k1.list;obtain⟨⟨c,h2,_⟩,_⟩:=k2.list;exact⟨b,c,h1,h2⟩)
 obtain⟨R,r⟩:∃R,dC (bY.make 43 v u)=R:=⟨_,rfl⟩;rw[r];go_enter func239,ntmps239;go_wp2_with fail;refine b_ (B.Z (dV w)).1 λN z=>?_;obtain rfl:=z.symm;dsimp only;go_wp2_with fail;refine b_ (C.Z _).1 λN z=>?_;obtain rfl:=z.symm;dsimp only;go_wp2_with fail;refine b_ (B.Z _).2.1 λN z=>?_;obtain rfl:=z.symm;dsimp only;go_wp2_with fail;refine b_ (C.Z _).2.1 λN z=>?_;obtain rfl:=z.symm;dsimp only;go_wp2_with fail;refine((B.Z _).2.2 (eZ E)).mono ?_;rintro e N⟨o1,m,rfl,G⟩;dsimp only;go_wp2_with fail;refine((C.Z _).2.2 (ah (eZ E) G.eD.size)).mono ?_;rintro e O⟨o2,c2,rfl,K⟩;have ai:=bZ (G.below K.eD);have ak:=bZ K;have D:Below (dV w).1.size (dV w) O:=G.eD.trans (K.eD.mono G.eD.size);have ax:8<=O.1.size:=ah (eZ E) D.size;have l:=bZ (λw3 (h:Xc O w3)=>gI (D.trans (h.mono D.size)));have j:=bZ (λw3 (h:Xc O w3) x y=>fj (D.trans (h.mono D.size)) x y);clear G K B C D;dsimp only;by_cases Q:L=true/\m2=true
 ·obtain⟨rfl,rfl⟩:=Q;obtain⟨rfl,rfl,rfl,am,ao⟩:=k1.num;obtain⟨rfl,rfl,rfl,ap,av⟩:=k2.num;clear k1 k2;have F:bY.make 43 (bY.vn I) (bY.vn J)=.ok (bY.vn (wrap64 (I+J))):=by
   rw[<-qT];rfl
  rw[F]at r;obtain⟨tc,ts,Y⟩:=dw (.ok (bY.vn (wrap64 (I+J))));have X:=bZ (λw=>mF (wrap64 (I+J)) w TX TX);rw[Y]at X r;subst r;clear Y F;go_wp2_with fail;refine b_ (X.Z _) λw3 P=>?_;obtain⟨p,m,f0,f1⟩:=l.Z _ P;have n:=bZ (j.Z _ P);clear P l j;dsimp only;go_wp2;exact VN (v:=.agg #[.int .i64 tc,.string ts]) T8 rfl ⟨rfl,n.Z _ _⟩
 have F:bY.make 43 v u=.error 9:=kd k1 k2 Q S T;have ab:M=true->L=false/\u1=false:=λh=>by subst h;exact k1.word.2
 have ad:u1=true->L=false/\M=false:=λh=>by subst h;exact k1.list.2
 rw[F]at r;rw[rE 9 9 rfl]at r;subst r;clear F k1 k2;cases M with
 |true =>
  obtain⟨rfl,rfl⟩:=ab rfl;obtain rfl:p2=false:=by simpa using S
  obtain⟨p,m,f0,f1⟩:=l.Z _ (VM _ _);have n:=bZ (j.Z _ (VM _ _));clear l j;go_wp2;exact VN (v:=.agg #[.int .i64 9,.string ⟨#[]⟩]) T8 rfl ⟨rfl,n.Z _ _⟩
 |false =>
  cases u1 with
  |true =>
   obtain⟨rfl,_⟩:=ad rfl;obtain rfl:u2=false:=by simpa using T
   obtain⟨p,m,f0,f1⟩:=l.Z _ (VM _ _);have n:=bZ (j.Z _ (VM _ _));clear l j;go_wp2;exact VN (v:=.agg #[.int .i64 9,.string ⟨#[]⟩]) T8 rfl ⟨rfl,n.Z _ _⟩
  |false =>
   cases L with
   |false =>
    obtain⟨p,m,f0,f1⟩:=l.Z _ (VM _ _);have n:=bZ (j.Z _ (VM _ _));clear l j;go_wp2;exact VN (v:=.agg #[.int .i64 9,.string ⟨#[]⟩]) T8 rfl ⟨rfl,n.Z _ _⟩
   |true =>
    obtain rfl:m2=false:=by simpa using Q
    obtain⟨p,m,f0,f1⟩:=l.Z _ (VM _ _);have n:=bZ (j.Z _ (VM _ _));clear l j;go_wp2;exact VN (v:=.agg #[.int .i64 9,.string ⟨#[]⟩]) T8 rfl ⟨rfl,n.Z _ _⟩
def JZ(k op:Nat):Nat:=if k=13 then(if op=109 then 105 else if op=120 then 97 else 64)else op
def J0(k op)(p:(k=1/\op∈[43,45,42,47,60,61])\/(k=13/\op∈[109,120,64]))(v u x y w)(b:8<=w.1.size)(j:bY.L3 v)(hu:bY.L3 u)(hx:Tx x v)(l:Tx y u)(m:x.size<=100000)(n:y.size<=100000):Calls prog 239 #[.int .u8 (JZ k op),.string x,.string y] w λe r=>e=.returned (dC (bY.make op v u))/\Xc w r:=by
 rcases p with⟨rfl,h⟩|⟨rfl,h⟩
 ·simp only[aK,Sk,RM]at h;rcases h with rfl|rfl|rfl|rfl|rfl|rfl
  ·exact GG v u x y w b j hu hx l m n
  ·exact BD _ _ _ (.inl ⟨rfl,rfl,rfl⟩) v u x y w b j hu hx l m n
  ·exact BD _ _ _ (.inr ⟨rfl,rfl,rfl⟩) v u x y w b j hu hx l m n
  ·exact JY v u x y w b j hu hx l m n
  ·exact GF v u x y w b j hu hx l m n
  exact GD v u x y w b j hu hx l m n
 simp only[aK,Sk,RM]at h;rcases h with rfl|rfl|rfl
 ·exact yp _ _ v u x y _ _ (.inl ⟨rfl,rfl,rfl,rfl⟩) w b j hu hx l m n
 ·exact yp _ _ v u x y _ _ (.inr ⟨rfl,rfl,rfl,rfl⟩) w b j hu hx l m n
 exact MH v u x y w b j hu hx l m n
end Ref
end
section
open bY
open Tryz
namespace Ref
variable{l:List V}
def D6(v x w)(G:8<=w.1.size)(J:L3 v)(hx:Tx x v)(S:x.size<=100000):Calls prog 236 #[.string ⟨#[119,111,114,100]⟩,.string x] w λe K=>e=.returned (dC (iu v))/\Xc w K:=by
 obtain⟨E,U,X,u1,T,k1,p,N⟩:=kinds J x hx R5;have p:=bZ p;obtain⟨R,j⟩:∃R,dC (iu v)=R:=⟨_,rfl⟩;rw[j];go_enter func236,ntmps236;go_wp2_with fail;refine b_ (p.Z _).1 λL D=>?_;obtain rfl:=D.symm;go_wp2_with fail;refine b_ (p.Z _).2.1 λL D=>?_;obtain rfl:=D.symm;go_wp2_with fail;refine((p.Z _).2.2 (eZ G)).mono ?_;rintro e F⟨V,m,rfl,I⟩;have z:=I.eD;have C:=bZ (λw3 (h:Xc F w3)=>gI (z.trans (h.mono z.size)));have B:=bZ (λw3 (h:Xc F w3) x y=>fj (z.trans (h.mono z.size)) x y);rcases k1 with⟨rfl,rfl,rfl,rfl,M⟩|⟨rfl,rfl,rfl,b,rfl⟩|⟨rfl,rfl,rfl,l,rfl,O,P⟩
 ·have Q:(⟨#[39]⟩++x++⟨#[39]⟩:ba).size<=100010:=by rw[v_,v_];show 1+x.size+1<=_;omega
  have u:dC (iu (vn E))=.agg #[.int .i64 0,.string (⟨#[39]⟩++x++⟨#[39]⟩)]:=by
   refine nR (v:=vw (Lib.itoa E)) ?_;show _=_;rw[dI,dI,hx,xo,sy];rfl
  rw[u]at j;subst j;obtain⟨r,m,f0,f1⟩:=C.Z _ (VM _ _);have n:=bZ (B.Z _ (VM _ _));go_wp2;exact VN (v:=.agg #[.int .i64 0,.string (⟨#[39]⟩++x++⟨#[39]⟩)]) Uv rfl ⟨rfl,n.Z _ _⟩
 ·have u:dC (iu (vw b))=.agg #[.int .i64 0,.string x]:=nR hx;rw[u]at j;subst j;obtain⟨r,m,f0,f1⟩:=C.Z _ (VM _ _);have n:=bZ (B.Z _ (VM _ _));go_wp2;exact VN (v:=.agg #[.int .i64 0,.string x]) Uv rfl ⟨rfl,n.Z _ _⟩
 have u:dC (iu (vl l))=.agg #[.int .i64 9,.string ⟨#[]⟩]:=rfl;rw[u]at j;subst j;obtain⟨r,m,f0,f1⟩:=C.Z _ (VM _ _);have n:=bZ (B.Z _ (VM _ _));go_wp2;exact VN (v:=.agg #[.int .i64 9,.string ⟨#[]⟩]) Uv rfl ⟨rfl,n.Z _ _⟩
def D7(v x w)(P:8<=w.1.size)(M:L3 v)(hx:Tx x v)(aa:x.size<=100000):Calls prog 236 #[.string ⟨#[115,105,122,101]⟩,.string x] w λe S=>e=.returned (dC (bY.size v))/\Xc w S:=by
 obtain⟨O,m1,p1,u1,E,k1,u,X⟩:=kinds M x hx R5;have u:=bZ u;obtain⟨R,j⟩:∃R,dC (bY.size v)=R:=⟨_,rfl⟩;rw[j];go_enter func236,ntmps236;go_wp2_with fail;refine b_ (u.Z (dV w)).1 λT I=>?_;obtain rfl:=I.symm;go_wp2_with fail;refine b_ (u.Z _).2.1 λT I=>?_;obtain rfl:=I.symm;go_wp2_with fail;refine((u.Z _).2.2 (eZ P)).mono ?_;rintro e N⟨o1,m,rfl,Q⟩;have C:=Q.eD;have G:=bZ (λw3 (h:Xc N w3)=>gI (C.trans (h.mono C.size)));have F:=bZ (λw3 (h:Xc N w3) x y=>fj (C.trans (h.mono C.size)) x y);rcases k1 with⟨rfl,rfl,rfl,rfl,V⟩|⟨rfl,rfl,rfl,b,rfl⟩|⟨rfl,rfl,rfl,l,rfl,L,Y⟩
 ·have n:dC (bY.size (vn O))=.agg #[.int .i64 9,.string ⟨#[]⟩]:=rfl;rw[n]at j;subst j;obtain⟨z,m,f0,f1⟩:=G.Z _ (VM _ _);have p:=bZ (F.Z _ (VM _ _));go_wp2;exact VN (v:=.agg #[.int .i64 9,.string ⟨#[]⟩]) Uw rfl ⟨rfl,p.Z _ _⟩
 ·obtain⟨Z,_⟩:=nS hx;have n:bY.size (vw b)=.ok (vn (b.length:Int)):=rfl;rw[n]at j;have r:=bZ (λw=>mF (b.length:Int) w R5 R5);obtain⟨J,K,D⟩:=dw (.ok (vn (b.length:Int)));rw[D]at r j;subst j;go_wp2_with fail;refine b_ (r.Z _) λw3 B=>?_;obtain⟨z,m,f0,f1⟩:=G.Z _ B;have p:=bZ (F.Z _ B);go_wp2;exact VN (v:=.agg #[.int .i64 J,.string K]) Uw rfl ⟨rfl,p.Z _ _⟩
 have hlen:E.length=l.length:=by rw[L,aH]
 have U:=vu M rfl;have n:bY.size (vl l)=.ok (vn (E.length:Int)):=by rw[hlen];rfl
 rw[n]at j;have r:=bZ (λw=>mF (E.length:Int) w R5 R5);obtain⟨J,K,D⟩:=dw (.ok (vn (E.length:Int)));rw[D]at r j;subst j;clear n D L hlen;go_wp2_with fail;refine b_ (r.Z _) λw3 B=>?_;obtain⟨z,m,f0,f1⟩:=G.Z _ B;have p:=bZ (F.Z _ B);go_wp2;exact VN (v:=.agg #[.int .i64 J,.string K]) Uw rfl ⟨rfl,p.Z _ _⟩
def KX{i:Nat}{v:V}(h:l[i]?=some v)(a):fE a (l.drop i)=match v.x with
  |.inl k=>fE (bY.wrap (a+k)) (l.drop (i+1))
  |_=>.error 9:=by
 obtain⟨h1,h2⟩:=aA.1 h;rw[aU h1,h2,fE];cases v.x<;>rfl
def G2(v x w)(h8:8<=w.1.size)(K:L3 v)(hx:Tx x v)(a3:x.size<=100000):Calls prog 236 #[.string ⟨#[115,117,109]⟩,.string x] w λe w'=>e=.returned (dC (jW v))/\Xc w w':=by
 obtain⟨a1,m1,p1,u1,m,k1,z,ay⟩:=kinds K x hx R5;have z:=bZ z;obtain⟨Z,hZ⟩:∃R,dC (jW v)=R:=⟨_,rfl⟩;rw[hZ];go_enter func236,ntmps236;go_wp2_with fail;refine b_ (z.Z (dV w)).1 λw1 L=>?_;obtain rfl:=L.symm;go_wp2_with fail;refine b_ (z.Z _).2.1 λw1 L=>?_;obtain rfl:=L.symm;go_wp2_with fail;refine((z.Z _).2.2 (eZ h8)).mono ?_;rintro e O⟨o1,u,rfl,X⟩;have ai:=bZ X;have F:=X.eD;have E:=bZ (λw3 (h:Xc O w3)=>gI (F.trans (h.mono F.size)));have D:=bZ (λw3 (h:Xc O w3) x y=>fj (F.trans (h.mono F.size)) x y);rcases k1 with⟨rfl,rfl,rfl,rfl,ha⟩|⟨rfl,rfl,rfl,b,rfl⟩|⟨rfl,rfl,rfl,l,rfl,I,hl⟩
 ·have B:dC (jW (vn a1))=.agg #[.int .i64 9,.string ⟨#[]⟩]:=rfl;rw[B]at hZ;subst hZ;obtain⟨p,u,f0,f1⟩:=E.Z _ (VM _ _);have n:=bZ (D.Z _ (VM _ _));go_wp2;exact VN (v:=.agg #[.int .i64 9,.string ⟨#[]⟩]) (by simp[results,results236,go_sem,p,u]) rfl ⟨rfl,n.Z _ _⟩
 ·have B:dC (jW (vw b))=.agg #[.int .i64 9,.string ⟨#[]⟩]:=rfl;rw[B]at hZ;subst hZ;obtain⟨p,u,f0,f1⟩:=E.Z _ (VM _ _);have n:=bZ (D.Z _ (VM _ _));go_wp2;exact VN (v:=.agg #[.int .i64 9,.string ⟨#[]⟩]) (by simp[results,results236,go_sem,p,u]) rfl ⟨rfl,n.Z _ _⟩
 have hlen:m.length=l.length:=by rw[I,aH]
 have ax:l.length<=12:=vu K rfl;have B:jW (vl l)=fE 0 (l.drop 0):=rfl;rw[B]at hZ;obtain⟨R,G⟩:∃R,fE 0 (l.drop 0)=R:=⟨_,rfl⟩;rw[G]at hZ;subst hZ;have ad:=bZ G;have Q:=bZ (And.intro I hl);have S:=bZ hlen;have ap:∀k∈m,k.length<=100000:=λk hk=>by
  have hit:=ya (l:=x.1.1) (ps:=m) (by rw[hx,I];exact PG K) hk;rw[<-VO]at hit;omega
 have ak:=bZ ap;obtain⟨p,T,f0,f1⟩:=E.Z _ (VM _ _);have n:=bZ (D.Z _ (VM _ _));go_wp2
 go_loopw [10,11] (λav N wr=>∃(i:Nat) (a:Int),i<=m.length/\-9223372036854775808<=a/\a<=9223372036854775807/\av=.int .i64 a/\N=.int .i64 i/\wr=O/\Hid (fE a (l.drop i)=R)) (λ_ N _=>m.length-(intOf N).toNat)
 case atStart=>exact⟨0,0,ar _,by omega,by omega,rfl,rfl,rfl,ad⟩
 case round =>
  obtain⟨i,a,hi,am,ao,rfl,rfl,rfl,P⟩:=hrel;by_cases aC:i<m.length
  ·have a0:(i:Int)<(m.length:Int):=R5;have J:i<l.length:=by have:=S.Z;omega
   have aa:m[i]?=some (bY.wr 3 l[i]):=by rw[Q.Z.1,Q6,aq J];rfl
   obtain⟨g,rfl,hg,hcell⟩:=ai.Z.cell aa;obtain⟨y,hy⟩:∃y,(⟨(bY.wr 3 l[i]).toArray⟩:ba)=y:=⟨_,rfl⟩;have M:y.1.1=bY.wr 3 l[i]:=by rw[<-hy]
   have a2:y.size<=100000:=by
    rw[VO,M];exact ak.Z _ (aJ aa)
   have j:=bZ (qz y wr R5);rw[M]at j;unfold str at hcell;rw[hy]at hcell;have hd:=KX (l:=l) (i:=i) (v:=l[i]) (aq J) a;rw[P.Z]at hd;have V:=Q.Z.2 l[i] (Si J);generalize l[i]=v at j hd V M;rcases v with⟨k|b|q⟩
   ·have e:d_ (bY.wr 3 ⟨.inl k⟩)=some k:=N0 V;rw[e]at j;unfold pv at j;have hd:R=fE (bY.wrap (a+k)) (l.drop (i+1)):=hd;rw[qT]at hd;have ab:=bZ hd.symm;go_wp2_with fail;refine b_ j.Z λw3 C=>?_;obtain rfl:=C.symm;go_wp2;exact⟨⟨i+1,wrap64 (a+k),by omega,by unfold wrap64;omega,by unfold wrap64;omega,rfl,by go_num,by trivial,ab⟩,by simp[intOf];omega⟩
   ·have e:d_ (bY.wr 3 ⟨.inr (.inl b)⟩)=none:=N2 b;rw[e]at j;unfold pv at j;have hd:R=.error 9:=hd;have r:Hid (dC R=.agg #[.int .i64 9,.string ⟨#[]⟩]):=bZ (by rw[hd];rfl);go_wp2_with fail;refine b_ j.Z λw3 C=>?_;obtain rfl:=C.symm;go_wp2;exact VN (v:=.agg #[.int .i64 9,.string ⟨#[]⟩]) (by simp[results,results236,go_sem,p,T]) rfl ⟨by first|rw[r.Z]|rfl,n.Z _ _⟩
   have e:d_ (bY.wr 3 ⟨.inr (.inr q)⟩)=none:=N3 q;rw[e]at j;unfold pv at j;have hd:R=.error 9:=hd;have r:Hid (dC R=.agg #[.int .i64 9,.string ⟨#[]⟩]):=bZ (by rw[hd];rfl);go_wp2_with fail;refine b_ j.Z λw3 C=>?_;obtain rfl:=C.symm;go_wp2;exact VN (v:=.agg #[.int .i64 9,.string ⟨#[]⟩]) (by simp[results,results236,go_sem,p,T]) rfl ⟨by first|rw[r.Z]|rfl,n.Z _ _⟩
  obtain rfl:i=m.length:=R5;have G:R=.ok (vn a):=by
   rw[<-P.Z,aT (by have:=S.Z;omega)];rfl
  have r:=bZ (λw=>mF a w am ao);obtain⟨tc,ts,Y⟩:=dw (.ok (vn a));rw[Y]at r;have HE:Hid (dC R=.agg #[.int .i64 tc,.string ts]):=bZ (by rw[G,Y]);go_wp2_with fail;refine b_ (r.Z _) λw3 U=>?_;obtain⟨p,u,f0,f1⟩:=E.Z _ U;have n:=bZ (D.Z _ U);go_wp2;exact VN (v:=.agg #[.int .i64 tc,.string ts]) (by simp[results,results236,go_sem,p,u]) rfl ⟨by rw[HE.Z],n.Z _ _⟩
end Ref
end
