/- Out of Q5. -/
import Derived.Test.YtpekpdimdelncaaGreatDoorP28
set_option linter.unusedVariables false
set_option linter.unusedSimpArgs false
set_option maxRecDepth 100000
set_option maxHeartbeats 8000000
set_option linter.defProp false
namespace Go.Proofs.YtpekpdimdelncaaGreatDoor
open Go.RowKit Go.Shelf
section
open bY
open Tryz
namespace Ref
variable{v:V}{ks:List (a_)}{s:ba}
def KF(v:V)(a:Int)(m p u:Bool)(ks:List (a_)):Prop :=(m=true/\p=false/\u=false/\v=vn a/\(-9223372036854775808<=a/\a<=9223372036854775807))\/(m=false/\p=true/\u=false/\∃b,v=vw b)\/(m=false/\p=false/\u=true/\∃l,v=vl l/\ks=l.map (wr 3)/\∀x∈l,L3 x)
def KF.num{a:Int}{p u:Bool}(h:KF v a true p u ks):v=vn a/\p=false/\u=false/\-9223372036854775808<=a/\a<=9223372036854775807:=by
 rcases h with⟨_,h1,h2,h,b⟩|⟨h,_⟩|⟨h,_⟩
 ·exact⟨h,h1,h2,b⟩
 ·cases h
 cases h
def sd{v1 v2:V}{a1 m:Int}{e j p1 r u1 u2:Bool}{n p:List (a_)}(f:Int->Int->Except Nat V)(h1:KF v1 a1 e p1 u1 n)(h2:KF v2 m j r u2 p)(h:¬(e=true/\j=true)):mr v1 v2 f=.error 9:=by
 rcases h1 with⟨rfl,_,_,rfl,_⟩|⟨_,_,_,b,rfl⟩|⟨_,_,_,l,rfl,_⟩
 ·rcases h2 with⟨rfl,_⟩|⟨_,_,_,b,rfl⟩|⟨_,_,_,l,rfl,_⟩
  ·exact absurd ⟨rfl,rfl⟩ h
  ·rfl
  rfl
 ·rfl
 rfl
def KC(s:ba)(a:Int)(m p u:Bool)(ks:List (a_))(w:QV):Prop :=(Calls prog 193 #[.string s] w λe w'=>e=.returned (.tuple #[.int .i64 a,.bool m])/\w'=w) /\(Calls prog 144 #[.string s] w λe w'=>e=.returned (.bool p)/\w'=w) /\(8<=w.1.size->Calls prog 194 #[.string s] w λe w'=>∃o c,e=.returned (.tuple #[.slice o ks.length c,.bool u])/\iO w w' (.slice o ks.length c) ks)
def kinds(h:L3 v)(s:ba)(hs:s.1.1=wr 3 v)(hz:s.size<=20000000):∃a m p u ks,KF v a m p u ks/\(∀w,KC s a m p u ks w)/\(u=false->ks=[]):=by
 have go:∀(r:Option Int) (p:Bool) (q:Option (List (a_))),dT (wr 3 v)=r->(jS (wr 3 v)).isSome=p->fy (wr 3 v)=q->∀w,KC s (r.getD 0) r.isSome p q.isSome (q.getD []) w:=λr p q h1 h2 y w=>by
  refine⟨(qe s w hz).mono ?_,(eJ s w hz).mono ?_,λz=>(rD s w z hz).mono ?_⟩
  ·rintro e w'⟨rfl,rfl⟩;refine⟨?_,rfl⟩;rw[hs,h1];cases r<;>rfl
  ·rintro e w'⟨rfl,rfl⟩;refine⟨?_,rfl⟩;rw[hs,xz,h2]
  rintro e w'⟨o,n,c,rfl,rfl,j⟩;rw[hs,y]at j ⊢;exact⟨o,c,rfl,j⟩
 rcases v with⟨i|b|l⟩
 ·exact⟨i,true,false,false,[],.inl ⟨rfl,rfl,rfl,rfl,pB h rfl⟩,go (some i) false none (MO h) (by show(jS (wr 3 (vn i))).isSome=false;rw[O6];rfl) (O9 i),λ_=>rfl⟩
 ·exact⟨0,false,true,false,[],.inr (.inl ⟨rfl,rfl,rfl,b,rfl⟩),go none true none (MP b) (by show(jS (wr 3 (vw b))).isSome=true;rw[O7 h];rfl) (O_ b),λ_=>rfl⟩
 exact⟨0,false,false,true,l.map (wr 3),.inr (.inr ⟨rfl,rfl,rfl,l,rfl,rfl,Ap h rfl⟩),go none false (some (l.map (wr 3))) (MQ l) (by show(jS (wr 3 (vl l))).isSome=false;rw[O8];rfl) (Ot h),λe=>by cases e⟩
def eS{w:QV}(h:8<=w.1.size):8<=(dR w).1.size:=by unfold dR;simp;omega
def dG(r:Wo):∃(c:Int) (t:ba),dw r=.agg #[.int .i64 c,.string t]:=by cases r<;>exact⟨_,_,rfl⟩
def Tx(s:ba)(v:V):Prop:=s.1.1=wr 3 v
def nx(h:Tx s v):dw (.ok v)=.agg #[.int .i64 0,.string s]:=by
 show Value.agg #[_,str (wr 3 v)]=_;rw[<-h,dF]
def ri(c:Nat)(i:Int)(h:(c:Int)=i):dw (.error c)=.agg #[.int .i64 i,.string ⟨#[]⟩]:=by rw[<-h];rfl
def FL(v u:V)(x y:ba)(w:QV)(B:8<=w.1.size)(hv:L3 v)(hu:L3 u)(hx:Tx x v)(hy:Tx y u)(O:x.size<=100000)(P:y.size<=100000):Calls prog 239 #[.int .u8 61,.string x,.string y] w λe w'=>e=.returned (dw (bY.make 61 v u))/\Xb w w':=by
 obtain⟨a1,S,p1,u1,Q,k1,l,_⟩:=kinds hv x hx RM;obtain⟨M,T,Y,u2,R,k2,m,_⟩:=kinds hu y hy RM;have l:=bZ l;have m:=bZ m;have F:bY.make 61 v u=.ok (bY.bit (x.toList==y.toList)):=by
  show Except.ok (bY.bit (bY.same 3 v u))=_;rw[Av hv hu,<-hx,<-hy,UC,UC,Bool.beq_eq_decide_eq]
 rw[F];have z:=bZ (λw=>vf (x.toList==y.toList) w);obtain⟨b,hb⟩:∃b,(x.toList==y.toList)=b:=⟨_,rfl⟩;rw[hb]at z ⊢;obtain⟨tc,ts,G⟩:=dG (.ok (bY.bit b));rw[G]at z ⊢;clear G F k1 k2;go_enter func239,ntmps239;go_wp2_with fail;refine(l.Z (dR w)).1.mono ?_;rintro e w1⟨rfl,j⟩;obtain rfl:=j.symm;dsimp only;go_wp2_with fail;refine(m.Z _).1.mono ?_;rintro e w1⟨rfl,j⟩;obtain rfl:=j.symm;dsimp only;go_wp2_with fail;refine(l.Z _).2.1.mono ?_;rintro e w1⟨rfl,j⟩;obtain rfl:=j.symm;dsimp only;go_wp2_with fail;refine(m.Z _).2.1.mono ?_;rintro e w1⟨rfl,j⟩;obtain rfl:=j.symm;dsimp only;go_wp2_with fail;refine((l.Z _).2.2 (eS B)).mono ?_;rintro e w1⟨U,c1,rfl,p⟩;dsimp only;go_wp2_with fail;refine((m.Z _).2.2 (ah (eS B) p.eh.size)).mono ?_;rintro e w2⟨X,c2,rfl,r⟩;have K:=bZ (p.below r.eh);have L:=bZ r;have n:Below (dR w).1.size (dR w) w2:=p.eh.trans (r.eh.mono p.eh.size);have N:8<=w2.1.size:=ah (eS B) n.size;have E:=bZ (λw3 (h:Xb w2 w3)=>gl (n.trans (h.mono n.size)));have D:=bZ (λw3 (h:Xb w2 w3) x y=>ft (n.trans (h.mono n.size)) x y);clear p r l m n;dsimp only;go_wp2_with fail;refine(z.Z _).mono ?_;rintro e w3⟨rfl,C⟩;obtain⟨J,c1,f0,f1⟩:=E.Z _ C;have I:=bZ (D.Z _ C);clear C E D;dsimp only;go_wp2_with fail;exact UA (v:=.agg #[.int .i64 tc,.string ts]) (by simp[results,results239,go_sem,J,c1]) rfl ⟨rfl,I.Z _ _⟩
def AY(op:Int)(k:Nat)(D:Int->Int->Int)(I:(op=45/\k=45/\D=λa b=>a-b)\/(op=42/\k=42/\D=λa b=>a*b))(v u:V)(x y:ba)(w:QV)(K:8<=w.1.size)(hv:L3 v)(hu:L3 u)(hx:Tx x v)(hy:Tx y u)(ab:x.size<=100000)(ad:y.size<=100000):Calls prog 239 #[.int .u8 op,.string x,.string y] w λe w'=>e=.returned (dw (bY.make k v u))/\Xb w w':=by
 obtain⟨a1,P,p1,u1,ai,k1,p,_⟩:=kinds hv x hx RM;obtain⟨G,Q,p2,u2,ak,k2,r,_⟩:=kinds hu y hy RM;have p:=bZ p;have r:=bZ r;obtain⟨R,j⟩:∃R,dw (bY.make k v u)=R:=⟨_,rfl⟩;rw[j];go_enter func239,ntmps239;go_wp2_with fail;refine(p.Z (dR w)).1.mono ?_;rintro e w1⟨rfl,l⟩;obtain rfl:=l.symm;dsimp only;go_wp2_with fail;refine(r.Z _).1.mono ?_;rintro e w1⟨rfl,l⟩;obtain rfl:=l.symm;dsimp only;go_wp2_with fail;refine(p.Z _).2.1.mono ?_;rintro e w1⟨rfl,l⟩;obtain rfl:=l.symm;dsimp only;go_wp2_with fail;refine(r.Z _).2.1.mono ?_;rintro e w1⟨rfl,l⟩;obtain rfl:=l.symm;dsimp only;go_wp2_with fail;refine((p.Z _).2.2 (eS K)).mono ?_;rintro e w1⟨o1,c1,rfl,F⟩;dsimp only;go_wp2_with fail;refine((r.Z _).2.2 (ah (eS K) F.eh.size)).mono ?_;rintro e w2⟨o2,c2,rfl,J⟩;have S:=bZ (F.below J.eh);have T:=bZ J;have z:Below (dR w).1.size (dR w) w2:=F.eh.trans (J.eh.mono F.eh.size);have aa:8<=w2.1.size:=ah (eS K) z.size;have n:=bZ (λw3 (h:Xb w2 w3)=>gl (z.trans (h.mono z.size)));have m:=bZ (λw3 (h:Xb w2 w3) x y=>ft (z.trans (h.mono z.size)) x y);clear F J p r z;dsimp only;by_cases M:P=true/\Q=true
 ·obtain⟨rfl,rfl⟩:=M;obtain⟨rfl,rfl,rfl,U,X⟩:=k1.num;obtain⟨rfl,rfl,rfl,Y,Z⟩:=k2.num;clear k1 k2;have E:bY.make k (vn a1) (vn G)=.ok (vn (wrap64 (D a1 G))):=by
   rcases I with⟨rfl,rfl,rfl⟩|⟨rfl,rfl,rfl⟩<;>(rw[<-qF];rfl)
  rw[E]at j;obtain⟨tc,ts,O⟩:=dG (.ok (vn (wrap64 (D a1 G))));have N:=bZ (λw=>me (wrap64 (D a1 G)) w SM SM);rw[O]at N j;subst j;clear O E;rcases I with⟨rfl,rfl,rfl⟩|⟨rfl,rfl,rfl⟩
  all_goals
   go_wp2_with fail;refine(N.Z _).mono ?_;rintro e w3⟨rfl,L⟩;obtain⟨C,c1,f0,f1⟩:=n.Z _ L;have B:=bZ (m.Z _ L);clear L n m;dsimp only;go_wp2_with fail;exact UA (v:=.agg #[.int .i64 tc,.string ts]) Th rfl ⟨rfl,B.Z _ _⟩
 have E:bY.make k v u=.error 9:=by rcases I with⟨rfl,rfl,rfl⟩|⟨rfl,rfl,rfl⟩<;>exact sd _ k1 k2 M
 rw[E]at j;rw[ri 9 9 rfl]at j;subst j;clear E k1 k2;rcases I with⟨rfl,rfl,rfl⟩|⟨rfl,rfl,rfl⟩
 all_goals
  cases P with
  |false =>
   obtain⟨C,c1,f0,f1⟩:=n.Z _ (Uz _ _);have B:=bZ (m.Z _ (Uz _ _));clear n m;go_wp2_with fail;exact UA (v:=.agg #[.int .i64 9,.string ⟨#[]⟩]) Th rfl ⟨rfl,B.Z _ _⟩
  |true =>
   obtain rfl:Q=false:=S8;obtain⟨C,c1,f0,f1⟩:=n.Z _ (Uz _ _);have B:=bZ (m.Z _ (Uz _ _));clear n m;go_wp2_with fail;exact UA (v:=.agg #[.int .i64 9,.string ⟨#[]⟩]) Th rfl ⟨rfl,B.Z _ _⟩
end Ref
end
section
open bY
open Tryz
namespace Ref
def I6(v u:V)(x y:ba)(w:QV)(I:8<=w.1.size)(hv:L3 v)(hu:L3 u)(hx:Tx x v)(hy:Tx y u)(aa:x.size<=100000)(ab:y.size<=100000):Calls prog 239 #[.int .u8 47,.string x,.string y] w λe w'=>e=.returned (dw (bY.make 47 v u))/\Xb w w':=by
 obtain⟨a1,N,p1,u1,ad,k1,B,_⟩:=kinds hv x hx RM;obtain⟨p,O,p2,u2,ai,k2,C,_⟩:=kinds hu y hy RM;have B:=bZ B;have C:=bZ C;obtain⟨R,b⟩:∃R,dw (bY.make 47 v u)=R:=⟨_,rfl⟩;rw[b];go_enter func239,ntmps239;go_wp2_with fail;refine(B.Z (dR w)).1.mono ?_;rintro e w1⟨rfl,z⟩;obtain rfl:=z.symm;dsimp only;go_wp2_with fail;refine(C.Z _).1.mono ?_;rintro e w1⟨rfl,z⟩;obtain rfl:=z.symm;dsimp only;go_wp2_with fail;refine(B.Z _).2.1.mono ?_;rintro e w1⟨rfl,z⟩;obtain rfl:=z.symm;dsimp only;go_wp2_with fail;refine(C.Z _).2.1.mono ?_;rintro e w1⟨rfl,z⟩;obtain rfl:=z.symm;dsimp only;go_wp2_with fail;refine((B.Z _).2.2 (eS I)).mono ?_;rintro e w1⟨o1,c1,rfl,E⟩;dsimp only;go_wp2_with fail;refine((C.Z _).2.2 (ah (eS I) E.eh.size)).mono ?_;rintro e w2⟨o2,c2,rfl,F⟩;have P:=bZ (E.below F.eh);have Q:=bZ F;have D:Below (dR w).1.size (dR w) w2:=E.eh.trans (F.eh.mono E.eh.size);have Z:8<=w2.1.size:=ah (eS I) D.size;have l:=bZ (λw3 (h:Xb w2 w3)=>gl (D.trans (h.mono D.size)));have j:=bZ (λw3 (h:Xb w2 w3) x y=>ft (D.trans (h.mono D.size)) x y);clear E F B C D;dsimp only;by_cases K:N=true/\O=true
 ·obtain⟨rfl,rfl⟩:=K;obtain⟨rfl,rfl,rfl,T,U⟩:=k1.num;obtain⟨rfl,rfl,rfl,X,Y⟩:=k2.num;clear k1 k2;by_cases G:p=0
  ·subst G;have m:bY.make 47 (vn a1) (vn 0)=.error 8:=rfl;rw[m]at b;rw[ri 8 8 rfl]at b;subst b;clear m;obtain⟨r,c1,f0,f1⟩:=l.Z _ (Uz _ _);have n:=bZ (j.Z _ (Uz _ _));clear l j;go_wp2_with fail;exact UA (v:=.agg #[.int .i64 8,.string ⟨#[]⟩]) R_ rfl ⟨rfl,n.Z _ _⟩
  have S:(p==0)=false:=by simpa using G
  have m:bY.make 47 (vn a1) (vn p)=.ok (vn (wrap64 (a1.tdiv p))):=by
   rw[<-qF];show(if p=0 then _ else _)=_;rw[ae G]
  rw[m]at b;obtain⟨tc,ts,M⟩:=dG (.ok (vn (wrap64 (a1.tdiv p))));have L:=bZ (λw=>me (wrap64 (a1.tdiv p)) w SM SM);rw[M]at L b;subst b;clear M m;go_wp2_with fail;refine(L.Z _).mono ?_;rintro e w3⟨rfl,J⟩;obtain⟨r,c1,f0,f1⟩:=l.Z _ J;have n:=bZ (j.Z _ J);clear J l j;dsimp only;go_wp2_with fail;exact UA (v:=.agg #[.int .i64 tc,.string ts]) R_ rfl ⟨rfl,n.Z _ _⟩
 have m:bY.make 47 v u=.error 9:=sd _ k1 k2 K;rw[m]at b;rw[ri 9 9 rfl]at b;subst b;clear m k1 k2;cases N with
 |false =>
  obtain⟨r,c1,f0,f1⟩:=l.Z _ (Uz _ _);have n:=bZ (j.Z _ (Uz _ _));clear l j;go_wp2_with fail;exact UA (v:=.agg #[.int .i64 9,.string ⟨#[]⟩]) R_ rfl ⟨rfl,n.Z _ _⟩
 |true =>
  obtain rfl:O=false:=by simpa using K
  obtain⟨r,c1,f0,f1⟩:=l.Z _ (Uz _ _);have n:=bZ (j.Z _ (Uz _ _));clear l j;go_wp2_with fail;exact UA (v:=.agg #[.int .i64 9,.string ⟨#[]⟩]) R_ rfl ⟨rfl,n.Z _ _⟩
def xM(op:Int)(k:Nat)(v u:V)(x y K L:ba)(E:(op=105/\k=109/\K=x/\L=y)\/(op=97/\k=120/\K=y/\L=x))(w:QV)(I:8<=w.1.size)(hv:L3 v)(hu:L3 u)(hx:Tx x v)(hy:Tx y u)(aa:x.size<=100000)(ab:y.size<=100000):Calls prog 239 #[.int .u8 op,.string x,.string y] w λe w'=>e=.returned (dw (bY.make k v u))/\Xb w w':=by
 obtain⟨a1,M,p1,u1,ad,k1,B,_⟩:=kinds hv x hx RM;obtain⟨b,N,p2,u2,ai,k2,C,_⟩:=kinds hu y hy RM;have B:=bZ B;have C:=bZ C;obtain⟨R,m⟩:∃R,dw (bY.make k v u)=R:=⟨_,rfl⟩;rw[m];go_enter func239,ntmps239;go_wp2_with fail;refine(B.Z (dR w)).1.mono ?_;rintro e w1⟨rfl,z⟩;obtain rfl:=z.symm;dsimp only;go_wp2_with fail;refine(C.Z _).1.mono ?_;rintro e w1⟨rfl,z⟩;obtain rfl:=z.symm;dsimp only;go_wp2_with fail;refine(B.Z _).2.1.mono ?_;rintro e w1⟨rfl,z⟩;obtain rfl:=z.symm;dsimp only;go_wp2_with fail;refine(C.Z _).2.1.mono ?_;rintro e w1⟨rfl,z⟩;obtain rfl:=z.symm;dsimp only;go_wp2_with fail;refine((B.Z _).2.2 (eS I)).mono ?_;rintro e w1⟨o1,c1,rfl,F⟩;dsimp only;go_wp2_with fail;refine((C.Z _).2.2 (ah (eS I) F.eh.size)).mono ?_;rintro e w2⟨o2,c2,rfl,G⟩;have P:=bZ (F.below G.eh);have Q:=bZ G;have D:Below (dR w).1.size (dR w) w2:=F.eh.trans (G.eh.mono F.eh.size);have Y:8<=w2.1.size:=ah (eS I) D.size;have l:=bZ (λw3 (h:Xb w2 w3)=>gl (D.trans (h.mono D.size)));have j:=bZ (λw3 (h:Xb w2 w3) x y=>ft (D.trans (h.mono D.size)) x y);clear F G B C D;dsimp only;by_cases J:M=true/\N=true
 ·obtain⟨rfl,rfl⟩:=J;obtain⟨rfl,rfl,rfl,S,T⟩:=k1.num;obtain⟨rfl,rfl,rfl,U,X⟩:=k2.num;clear k1 k2;by_cases O:a1<b
  ·have n:dw (bY.make k (vn a1) (vn b))=.agg #[.int .i64 0,.string K]:=by
    rcases E with⟨rfl,rfl,rfl,rfl⟩|⟨rfl,rfl,rfl,rfl⟩
    ·show dw (.ok (vn (min a1 b)))=_;rw[show min a1 b=a1 by omega];exact nx hx
    show dw (.ok (vn (max a1 b)))=_;rw[show max a1 b=b by omega];exact nx hy
   rw[n]at m;subst m;clear n;rcases E with⟨rfl,rfl,rfl,rfl⟩|⟨rfl,rfl,rfl,rfl⟩
   all_goals
    obtain⟨r,c1,f0,f1⟩:=l.Z _ (Uz _ _);have p:=bZ (j.Z _ (Uz _ _));clear l j;go_wp2_with fail;exact UA (v:=.agg #[.int .i64 0,.string _]) R_ rfl ⟨rfl,p.Z _ _⟩
  have n:dw (bY.make k (vn a1) (vn b))=.agg #[.int .i64 0,.string L]:=by
   rcases E with⟨rfl,rfl,rfl,rfl⟩|⟨rfl,rfl,rfl,rfl⟩
   ·show dw (.ok (vn (min a1 b)))=_;rw[show min a1 b=b by omega];exact nx hy
   show dw (.ok (vn (max a1 b)))=_;rw[show max a1 b=a1 by omega];exact nx hx
  rw[n]at m;subst m;have hd:decide (a1<b)=false:=aF O;have Z:b<=a1:=RM;clear n;rcases E with⟨rfl,rfl,rfl,rfl⟩|⟨rfl,rfl,rfl,rfl⟩
  all_goals
   obtain⟨r,c1,f0,f1⟩:=l.Z _ (Uz _ _);have p:=bZ (j.Z _ (Uz _ _));clear l j;go_wp2_with fail;exact UA (v:=.agg #[.int .i64 0,.string _]) R_ rfl ⟨rfl,p.Z _ _⟩
 have n:bY.make k v u=.error 9:=by rcases E with⟨rfl,rfl,rfl,rfl⟩|⟨rfl,rfl,rfl,rfl⟩<;>exact sd _ k1 k2 J
 rw[n]at m;rw[ri 9 9 rfl]at m;subst m;clear n k1 k2;rcases E with⟨rfl,rfl,rfl,rfl⟩|⟨rfl,rfl,rfl,rfl⟩
 all_goals
  cases M with
  |false =>
   obtain⟨r,c1,f0,f1⟩:=l.Z _ (Uz _ _);have p:=bZ (j.Z _ (Uz _ _));clear l j;go_wp2_with fail;exact UA (v:=.agg #[.int .i64 9,.string ⟨#[]⟩]) R_ rfl ⟨rfl,p.Z _ _⟩
  |true =>
   obtain rfl:N=false:=by simpa using J
   obtain⟨r,c1,f0,f1⟩:=l.Z _ (Uz _ _);have p:=bZ (j.Z _ (Uz _ _));clear l j;go_wp2_with fail;exact UA (v:=.agg #[.int .i64 9,.string ⟨#[]⟩]) R_ rfl ⟨rfl,p.Z _ _⟩
end Ref
end
section
open bY
variable{lb N M:Nat}{s:LS}{L:Nat->Prop}
structure La(w:QV)(lb:Nat)(s:LS)(L:Nat->Prop)(N:Nat):Prop where
 Kp:fD w lb s L
 g:G w
 pD:jI w
 sound:Sound s
 jr:(cW s.jr).length<=N
def fD.lt{w:QV}(h:fD w lb s L){k:Nat}(b:L k):8<=k/\k<w.1.size:=⟨(fD.ct h k b).1,(fD.ct h k b).2.1⟩
def La.below{w w':QV}(h:La w lb s L N)(b:Xb w w'):La w' lb s L N where
 Kp:=h.Kp.st (λk e=>b.block k (h.Kp.lt e).2) (eH.below b)
 g:=h.g.below b h.g.size
 pD:=h.pD.below b h.g.size
 sound:=h.sound
 jr:=h.jr
def La.le{w:QV}(h:La w lb s L N)(hM:N<=M):La w lb s L M:={ h with jr:=ah h.jr hM }
def N0(w:QV)(lb:Nat)(L:Nat->Prop)(s:LS)(N:Nat)(w':QV):Prop :=∃L',La w' lb s L' N/\(∀k,L' k->L k\/w.1.size<=k)/\(∀k,L k->L' k)/\ed L w w'
def ed.low{w w':QV}(h:ed L w w')(e:8<=w.1.size)(b:∀k,L k->8<=k):Below 8 w w' :=⟨h.os,h.tape,h.output,h.size,λk j=>h.block k RM (λhl=>by have:=b k hl;omega)⟩
def La.post{w w':QV}{s':LS}(h:La w lb s L N)(j:ez w lb L s' w')(hs:Sound s')(hj:(cW s'.jr).length<=M):N0 w lb L s' M w':=by
 obtain⟨L',h1,h2,e,b⟩:=j;have hb:=b.low h.g.size (λk l=>(h.Kp.lt l).1);exact⟨L',⟨h1,h.g.below hb (af _),h.pD.below hb (af _),hs,hj⟩,h2,e,b⟩
def La.other{w w':QV}{e:Nat->Prop}(h:La w lb s L N)(hf:ed e w w')(j:∀k,e k->8<=k)(hty:∀k,e k->∀(cs:Array Xa) (t:TypeId) (fz:Nat×Nat),w.1[k]?=some (.cells cs t fz)->¬Kx t)(hd:∀k,L k->¬e k):La w' lb s L N:=by
 have hb:=hf.low h.g.size j;refine⟨h.Kp.st (λk b=>hf.block k (h.Kp.lt b).2 (hd k b)) (cK.stay λk cs t fz b l=>?_),h.g.below hb (af _),h.pD.below hb (af _),h.sound,h.jr⟩;exact(hf.block k (cj b) (λh2=>hty k h2 cs t fz b l)).trans b
def La.fit{w:QV}(h:La w lb s L N):Fit s N:=⟨h.sound.kb,h.sound.b_,h.sound.len,h.jr⟩
end
section
open Tryz
def Mv(s:bY.LS)(b:a_):(cW (s.drop b).jr).length=(cW s.jr).length+b.length+15:=by
 show(cW (s.jr++[_])).length=_;rw[eN,aj,jB];simp;omega
def Gj(w:QV)(j:Nat)(b:ba)(s:bY.LS)(L:Nat->Prop)(h:fD w j s L)(g:G w)(n:bY.dL b.1.1=true)(hl:bY.cr s.cm b.1.1=none):Calls prog 47 #[ptr j,.string b] w λe w'=>e=.returned (.int .i64 7)/\Xb w w':=by
 have F:b.size<=8:=by rw[size_data];exact kC n
 have u:b.1.1.length<=maxLen:=Sd;have m:=eg b w g RM;rw[n]at m;have p:=bZ m;obtain⟨hb,db,B,D,vn,C,r⟩:=h;have HL:=bZ (And.intro r (And.intro hl u));clear m r hl n g u;unfold ptr;go_enter func47,ntmps47;go_wp2_with fail;refine p.Z.mono ?_;rintro e w1⟨rfl,l⟩;have h1:LP w1 j s L hb db B D vn C:=HL.Z.1.st (λk y=>l.block k (HL.Z.1.lt y)) (eH.below l);have E:w1.cell? ⟨j,0,none⟩=some (.map (some hb)):=by simp[World.cell?,h1.eb]
 have z:=h1.cm.yY HL.Z.2.1 HL.Z.2.2;rw[dF]at z;clear h1 HL p;go_wp2_with fail;exact UA (v:=.int .i64 7) (by simp[results,results47,go_sem]) rfl ⟨rfl,l⟩
def Gk(w:QV)(j:Nat)(b:ba)(s:bY.LS)(L:Nat->Prop)(th:bY.cu)(h:fD w j s L)(g:G w)(hd:jI w)(I:bY.dL b.1.1=true)(hl:bY.cr s.cm b.1.1=some th)(hj:(cW s.jr).length<=70368744177664):Calls prog 47 #[ptr j,.string b] w λe w'=>e=.returned (.int .i64 0)/\ez w j L (s.drop b.1.1) w':=by
 have ab:b.size<=8:=by rw[size_data];exact kC I
 have r:b.1.1.length<=maxLen:=Sd;have D:=eg b w g RM;rw[I]at D;have J:=bZ D;obtain⟨hb,db,U,X,vn,V,n⟩:=h;have F:((⟨#[100,114,111,112,32]⟩:ba)++b).1.1=[100,114,111,112,32]++b.1.1:=R2;have R:((⟨#[100,114,111,112,32]⟩:ba)++b).size<=13:=by rw[size_data,F,aj,<-size_data];simp;omega
 have HL:=bZ (And.intro n (And.intro hl (And.intro r (And.intro g hd))));have z:=bZ (And.intro F R);generalize Q:(λ(e:Ending) (w':QV)=>e=.returned (.int .i64 0)/\ez w j L (s.drop b.1.1) w')=RR;have M:=bZ Q;clear D n hl I g r hd F R Q;unfold ptr;go_enter func47,ntmps47;go_wp2_with fail;refine J.Z.mono ?_;rintro e w1⟨rfl,p⟩;obtain⟨n,hl,r,g,hd⟩:=HL.Z;have h1:LP w1 j s L hb db U X vn V:=n.st (λk m=>p.block k (n.lt m)) (eH.below p);have c0:w1.cell? ⟨j,0,none⟩=some (.map (some hb)):=by simp[World.cell?,h1.eb]
 obtain⟨p0,_,T⟩:=h1.cm.at hl;have S:=T true r;rw[dF]at S;simp only[aN]at S;obtain⟨w2,aa,Z,P,u,y,l⟩:=h1.Np (kY:=b.1.1) 0 r;rw[dF]at aa;have B:=g.below p g.size;have d1:=hd.below p g.size;have C:fD w1 j s L:=⟨hb,db,U,X,vn,V,h1⟩;have O:G w2:=DN C l B;have d2:jI w2:=yV C l B d1;have E:=pC w2 j { s with cm:=bY.del s.cm b.1.1 } Z (⟨#[100,114,111,112,32]⟩++b) P O d2 (by have:=z.Z.2;omega) (by
  rw[z.Z.1];show(cW (s.jr++[_])).length<=_;rw[eN,aj,jB,aj,<-size_data];simp;omega)
 rw[z.Z.1]at E;have N:=bZ E;have K:=bZ (And.intro u (And.intro y l));clear E u y l n hl r g hd h1 T HL J B d1 O d2 C P;unfold ptr at *;go_wp2_with fail;refine N.Z.mono ?_;rintro e w3⟨rfl,L3,k1,k2,k3,k4⟩;obtain⟨u,y,l⟩:=K.Z;have Y:Hid (RR (.returned (.int .i64 0)) w3):=bZ (by
  rw[<-M.Z];refine⟨rfl,L3,k1,λk m=>?_,λk m=>k3 k (y k m),(ed.below (L:=L) p).trans (l.trans k4.toed ?_) (λk m=>.inl m)⟩
  ·have:=p.size;have:=l.size;rcases k2 k m with h|h
   ·rcases u k h with h|h
    ·exact .inl h
    exact .inr RM
   exact .inr RM
  ·exact u)
 clear N K k1 k2 k3 k4 u y l M;go_wp2_with fail;exact Y.Z
end
section
open Tryz
namespace mK
def Dt{w:QV}{e:TypeId}{size n m g b:Nat}{xs ys:List Xa}(h:w.ownsRow 8 e size (.slice (some ⟨g,0,none⟩) (n+m) b) (n+m) (xs++ys))(hl:xs.length=n*size):w.ownsRow 8 e size (.slice (some ⟨g,0,none⟩) n b) n xs:=by
 rcases h.2 with⟨l,_⟩|⟨g',z,j,e1,h2,p,B,r,u,y⟩
 ·cases l
 cases e1;refine⟨hl,.inr ⟨g,b,j,rfl,h2,p,by omega,r,u,?_⟩⟩;have:=congrArg (List.take (n*size)) y;rw[Ru,RH (Qo _ (aJ _ _)),<-hl,QT]at this;rw[<-hl];exact this
def sQ{w:QV}(t ty e:TypeId)(z:Xa)(size bytes:Nat)(I:prog.underlying t=some (.slice e))(Y:(prog.info? e).map (λi=>(i.zero,i.size,i.bytes))=some (some z,size,bytes))(ai:z.cells.size=size)(ab:0<size)
  (v:Xa) (n:Nat) (xs:List Xa) (D:w.ownsRow 8 e size v n xs) (m:Addr) (c:Nat) (b:List Xa) (hl:b.length=size) (F:∀j u,b[j]?=some u->w.cell? (m.add j)=some u) (h1:∀u∈b,u.oneCell'=true)
  (U:(n+1)*bytes<=140737488355328) (L:n+1<=maxLen) (S:8<=w.1.size) :
  ∃g p w',(Builtin.append_ #[t,t] ty #[v,.slice (some m) 1 c]).run prog w=.ok (.slice (some ⟨g,0,none⟩) (n+1) p) w'/\w'.ownsRow 8 e size (.slice (some ⟨g,0,none⟩) (n+1) p) (n+1) (xs++b)/\w.grownBy w' v.ownBlock/\((v.ownBlock=some g/\∃K,v=.slice (some ⟨g,0,none⟩) n K/\K=p)\/(g=w.1.size/\Xb w w')):=by
 obtain⟨J,E,N,y,O⟩:=UJ Y;obtain⟨g,p,w',G,ho,l,aa,ao⟩:=run_append_lies (P:=prog) w t ty 8 e J z size bytes I E N y O ai ab v n xs D m 1 c b RM F h1 RM L U S _ rfl;refine⟨g,p,w',G,ho,l,?_⟩;rcases D.2 with⟨rfl,rfl⟩|⟨C,B,Q,rfl,ak,V,ap,am,hcs,av⟩
 ·rcases aa with h|h
  ·cases h
  exact .inr ⟨h,⟨l.os,l.tape,l.output,l.size,λk Z=>l.block k Z (λe=>by cases e)⟩⟩
 by_cases M:n+1<=B
 ·have r:=UN (P:=prog) w t ty e J I E C n B Q V m 1 c b SI F h1 M (by
   rw[y,hl,hcs];have:=Qo size M;rw[QO,QX]at this;exact this)
  rw[G]at r;injection r with e1 e2
  injection e1 with e1 _ R
  injection e1 with e1
  injection e1 with e1
  subst e1;exact .inl ⟨rfl,B,rfl,R.symm⟩
 have holds:∀j u,xs[j]?=some u->w.cell? ((⟨C,0,none⟩:Addr).add j)=some u:=D.cells (g:=C) rfl;have r:=run_append_grow (P:=prog) w t ty e J z I E N ⟨C,0,none⟩ n B xs (by rw[y];exact D.1) holds m 1 c b SI F RM (by simp only[maxLen]at L;omega) (by rw[O];exact growslice_fits RM RM);rw[G]at r;injection r with e1 e2
 have T:Xb w w':=by
  rw[e2];exact(Uz _ w).drew.alloc (af _) _
 have X:g=w.1.size:=aB (congrArg Value.ownBlock e1);exact .inr ⟨X,T⟩
def mL{ops:Array Oper}{o:Oper}{a:Act}{w:QV}{K:Act->QV->Prop}{Q:Exit->Act->QV->Prop}{E:Prop}
  (C:o.guard=none) (s x:Operand) (t:TypeId) (I:o.op=Op.call { callee:=Callee.builtin Builtin.append,args:=#[s,x],argTypes:=#[t,t] })
  (e:TypeId) (z:Xa) (size bytes:Nat) (N:prog.underlying t=some (.slice e)) (D:(prog.info? e).map (λi=>(i.zero,i.size,i.bytes))=some (some z,size,bytes)) (P:z.cells.size=size) (M:0<size)
  (v:Xa) (n:Nat) (xs:List Xa) (hs:a.eval s=v) (J:w.ownsRow 8 e size v n xs)
  (m:Addr) (c:Nat) (l:List Xa) (hx:a.eval x=.slice (some m) 1 c) (hl:l.length=size) (G:∀j u,l[j]?=some u->w.cell? (m.add j)=some u) (h1:∀u∈l,u.oneCell'=true)
  (B:(n+1)*bytes<=140737488355328) (F:n+1<=maxLen) (r:8<=w.1.size)
  (y:∀g b w',w'.ownsRow 8 e size (.slice (some ⟨g,0,none⟩) (n+1) b) (n+1) (xs++l)->w.grownBy w' v.ownBlock->((v.ownBlock=some g/\∃p,v=.slice (some ⟨g,0,none⟩) n p/\p=b)\/(g=w.1.size/\Xb w w'))->K (a.put o.dst (.slice (some ⟨g,0,none⟩) (n+1) b)) w') :
  if Region.wanted o (yielded ops a.tmps)=true then Oper.wp prog o a w K Q else E:=by
 have O:Region.wanted o (yielded ops a.tmps)=true:=by simp[Region.wanted,C]
 rw[ag O];obtain⟨g,b,w',L,R,S,T⟩:=sQ t o.type e z size bytes N D P M v n xs J m c l hl G h1 B F r;unfold Oper.wp;simp[execOp,I,resolve,invoke,builtin,hs,hx,L,Result.andThen];exact y g b w' R S T
end mK
end
section
namespace mK
def qq(p:Xa×Nat×Nat):List Xa:=[p.1,.int .i64 (p.2.2:Int)]
def marks(n m:Nat):List (a_):=List.replicate n (kG m)
structure kc(w:QV)(wb:Nat)(vL vR vN:Xa)(N:Nat)(hs:List (Xa×Nat×Nat))(H:Nat->Prop):Prop where
 eb:w.1[wb]?=some (.cells #[vL,vR,.int .i64 (N:Int),vN,.slice none 0 0,.slice none 0 0] 93 (0,0))
 row:w.ownsRow 8 158 2 vN hs.length (hs.flatMap qq)
 each:∀p∈hs,dm w p.1 (marks p.2.1 p.2.2)/\p.2.1<=1000/\p.2.2<=N
 wP:∀g,vN.ownBlock=some g->H g
 ta:∀p∈hs,∀g,p.1.ownBlock=some g->H g
 ct:∀k,H k->8<=k/\k<w.1.size/\k≠wb/\∃cs t fz,w.1[k]?=some (.cells cs t fz)/\(t=158\/t=9)
section
variable {w w':QV} {wb:Nat} {vL vR vN:Xa} {N:Nat} {hs:List (Xa×Nat×Nat)} {H:Nat->Prop}
def kc.st(h:kc w wb vL vR vN N hs H)(j:∀k,H k\/k=wb->w'.1[k]?=w.1[k]?)(hz:w.1.size<=w'.1.size):kc w' wb vL vR vN N hs H where
 eb:=(j wb (.inr rfl)).trans h.eb
 row:=cD h.row (λg l cs fz hb=>(j g (.inl (h.wP g l))).trans hb)
 each p m:=⟨cD (h.each p m).1 (λg l cs fz hb=>(j g (.inl (h.ta p m g l))).trans hb),(h.each p m).2⟩
 wP:=h.wP
 ta:=h.ta
 ct k n:=by
  obtain⟨a,b,c,cs,t,fz,d,e⟩:=h.ct k n;exact⟨a,aA b hz,c,cs,t,fz,(j k (.inl n)).trans d,e⟩
def kc.below(h:kc w wb vL vR vN N hs H)(b:Xb w w'):kc w' wb vL vR vN N hs H :=h.st (λk e=>by
  rcases e with e|rfl
  ·exact b.block k (h.ct k e).2.1
  ·exact b.block k (cj h.eb)) b.size
def yk{k g:Nat}{cs cs':Array Xa}{t t':TypeId}{fz b:Nat×Nat}(h:w.1[k]?=some (.cells cs t fz))(h':w.1[g]?=some (.cells cs' t' b))(j:t≠t'):k≠g:=λe=>by
 rw[e,h']at h;cases h;exact j rfl
def kc.count(h:kc w wb vL vR vN N hs H):kc (w.setCell ⟨wb,2,none⟩ (.int .i64 ((N+1:Nat):Int))) wb vL vR vN (N+1) hs H/\ed (λk=>k=wb) w (w.setCell ⟨wb,2,none⟩ (.int .i64 ((N+1:Nat):Int))):=by
 have m:∀k,k≠wb->(w.setCell ⟨wb,2,none⟩ (.int .i64 ((N+1:Nat):Int))).1[k]?=w.1[k]? := λk j=>UI w ⟨wb,2,none⟩ k _ j;have r:∀k,H k->k≠wb:=λk j=>(h.ct k j).2.2.1;refine⟨⟨heap_setCell_same w wb 2 _ _ _ h.eb,cD h.row (λg n cs fz hb=>(m g (r g (h.wP g n))).trans hb),λp l=>⟨cD (h.each p l).1 (λg n cs fz hb=>(m g (r g (h.ta p l g n))).trans hb),(h.each p l).2.1,Nat.le_succ_of_le (h.each p l).2.2⟩,h.wP,h.ta,λk j=>by
  obtain⟨a,b,c,cs,t,fz,d,e⟩:=h.ct k j;exact⟨a,by simp;exact b,c,cs,t,fz,(m k c).trans d,e⟩⟩,⟨rfl,rfl,rfl,by simp,λk j u=>m k u⟩⟩
def kc.push(h:kc w wb vL vR vN N hs H){u:Xa}{n:Nat}(F:dm w u (marks n N))(z:n<=1000)(D:∀g,u.ownBlock=some g->g≠wb){w1 w2:QV}{g cP:Nat}(r:Xb w w1)(G:w2.ownsRow 8 158 2 (.slice (some ⟨g,0,none⟩) (hs.length+1) cP) (hs.length+1) (hs.flatMap qq++[u,.int .i64 (N:Int)]))(C:w1.grownBy w2 vN.ownBlock)(P:(vN.ownBlock=some g/\∃M,vN=.slice (some ⟨g,0,none⟩) hs.length M/\M=cP)\/(g=w1.1.size/\Xb w1 w2)):kc (w2.setCell ⟨wb,3,none⟩ (.slice (some ⟨g,0,none⟩) (hs.length+1) cP)) wb vL vR (.slice (some ⟨g,0,none⟩) (hs.length+1) cP) N (hs++[(u,n,N)]) (λk=>H k\/k=g\/u.ownBlock=some k)/\dm (w2.setCell ⟨wb,3,none⟩ (.slice (some ⟨g,0,none⟩) (hs.length+1) cP)) u (marks n N)/\(∀k,k=g->H k\/w.1.size<=k)/\ed (λk=>H k\/k=wb) w (w2.setCell ⟨wb,3,none⟩ (.slice (some ⟨g,0,none⟩) (hs.length+1) cP))/\(∃v,w2.cell? ⟨wb,3,none⟩=some v)/\w2.frozen? ⟨wb,3,none⟩=false/\wb<w2.1.size:=by
 have Q:=P.imp And.left And.left;have S:=cj h.eb;have R:vN.ownBlock≠some wb:=λe=>by
  obtain⟨cs,fz,hb⟩:=cz h.row e;rw[h.eb]at hb;cases hb
 have E:∀k,k<w.1.size->vN.ownBlock≠some k->w2.1[k]?=w.1[k]? := λk j z=>(C.block k (aA j r.size) (λe=>z e.symm)).trans (r.block k j);have I:=(E _ S R).trans h.eb;have L:=ah r.size C.size;have B:∀k,k≠wb->(w2.setCell ⟨wb,3,none⟩ (.slice (some ⟨g,0,none⟩) (hs.length+1) cP)).1[k]?=w2.1[k]? := λk j=>UI w2 ⟨wb,3,none⟩ k _ j;have J:g≠wb:=λe=>by
  rcases Q with h|h
  ·exact R (e▸h)
  have:=r.size;omega
 have K:∀{v:Xa} {l:List (a_)},dm w v l->(∀k,v.ownBlock=some k->k≠wb)->dm _ v l:=λhv X=>cD hv (λk j cs fz hb=>by
  refine((B k (X k j)).trans (E k (cj hb) (λe=>?_))).trans hb;obtain⟨cs',Z,U⟩:=cz h.row e;exact yk hb U RZ rfl)
 have Y:∀p∈hs,∀k,p.1.ownBlock=some k->k≠wb:=λp m k j=>(h.ct k (h.ta p m k j)).2.2.1;have V:∃cs t fz,(w2.setCell ⟨wb,3,none⟩ (.slice (some ⟨g,0,none⟩) (hs.length+1) cP)).1[g]?=some (.cells cs t fz)/\(t=158\/t=9):=by
  obtain⟨cs,fz,hb⟩:=cz G rfl;exact⟨cs,_,fz,(B g J).trans hb,.inl rfl⟩
 have T:∀k,k<w.1.size->k≠wb->k≠g->w2.1[k]?=w.1[k]? := λk j aa y=>by
  rcases P with⟨a,_⟩|⟨a,b⟩
  ·exact E k j (λe=>y (aB (e.symm.trans a)))
  exact(b.block k (aA j r.size)).trans (r.block k j)
 have O:g<w2.1.size/\8<=g:=⟨(UH G g rfl).2,(UH G g rfl).1⟩;refine⟨⟨heap_setCell_same w2 wb 3 _ _ _ I,?_,λp m=>?_,λk j=>(by cases j;exact .inr (.inl rfl)),λp m k j=>?_,λk j=>?_⟩,K F D,λk j=>?_,⟨C.os.trans r.os,C.tape.trans r.tape,C.output.trans r.output,by simp;exact L,λk j z=>(B k (λe=>z (.inr e))).trans (E k j (λe=>z (.inl (h.wP k e))))⟩,⟨_,by simp[World.cell?,I];rfl⟩,by simp[World.frozen?,I],aA S L⟩
 ·rw[aj,Qf];have:[(u,n,N)].flatMap qq=[u,.int .i64 _]:=rfl;rw[this];exact cD G (λk j cs fz hb=>by cases j;exact(B g J).trans hb)
 ·rcases aK.1 m with m|m
  ·exact⟨K (h.each p m).1 (Y p m),(h.each p m).2⟩
  simp at m;subst m;exact⟨K F D,z,af _⟩
 ·rcases aK.1 m with m|m
  ·exact .inl (h.ta p m k j)
  simp at m;subst m;exact .inr (.inr j)
 ·by_cases y:k=g
  ·subst y;exact⟨O.2,by simp;exact O.1,J,V⟩
  rcases j with j|j|j
  ·obtain⟨a,b,c,cs,t,fz,d,e⟩:=h.ct k j;exact⟨a,by simp;exact aA b L,c,cs,t,fz,((B k c).trans (T k b c y)).trans d,e⟩
  ·exact(y j).elim
  have:=UH F k j;obtain⟨cs,fz,d⟩:=cz F j;exact⟨this.1,by simp;omega,D k j,cs,_,fz,((B k (D k j)).trans (T k this.2 (D k j) y)).trans d,.inr rfl⟩
 rw[j];rcases Q with h1|h1
 ·exact .inl (h.wP g h1)
 rw[h1];exact .inr r.size
def gQ(n m:Nat):(marks n m).length=n:=by unfold marks;simp
def wg(n m:Nat):marks (n+1) m=marks n m++[kG m]:=by unfold marks;rw[List.replicate_succ']
def Du{g k n b m:Nat}(h:dm w (.slice (some ⟨g,0,none⟩) n b) (marks n m))(j:k<=n):dm w (.slice (some ⟨g,0,none⟩) k b) (marks k m):=by
 obtain⟨d,rfl⟩:∃d,n=k+d:=⟨n-k,by omega⟩;unfold dm at h ⊢;rw[gQ]at h ⊢;have e:(marks (k+d) m).map str=(marks k m).map str++(marks d m).map str:=by
  rw[<-aV]
  congr 1
  unfold marks;rw[List.replicate_append_replicate]
 rw[e]at h;exact Dt h (by rw[aG,gQ,Qd])
def kc.more(h:kc w wb vL vR vN N hs H){m:Xa}{n g z:Nat}(X:dm w m (marks n N))(Y:∀g,m.ownBlock=some g->g≠wb)(M:∀p∈hs,∀b,m.ownBlock=some b->p.1.ownBlock=some b->∃k c,p=(.slice (some ⟨b,0,none⟩) k c,k,N)/\m=.slice (some ⟨b,0,none⟩) n c/\k<=n){w1 w2:QV}(r:Xb w w1)
  (R:w2.ownsRow 8 9 1 (.slice (some ⟨g,0,none⟩) (n+1) z) (n+1) ((marks n N).map str++[str (kG N)])) (B:w1.grownBy w2 m.ownBlock) (D:(m.ownBlock=some g/\∃y,m=.slice (some ⟨g,0,none⟩) n y/\y=z)\/(g=w1.1.size/\Xb w1 w2)) :
  kc w2 wb vL vR vN N hs H/\dm w2 (.slice (some ⟨g,0,none⟩) (n+1) z) (marks (n+1) N)/\(∀p∈hs,p.1.ownBlock=some g->∃k c,p=(.slice (some ⟨g,0,none⟩) k c,k,N)/\(Value.slice (some ⟨g,0,none⟩) (n+1) z)=.slice (some ⟨g,0,none⟩) (n+1) c/\k<=n+1)/\g≠wb/\(m.ownBlock=some g\/w.1.size<=g)/\ed (λk=>m.ownBlock=some k) w w2:=by
 have Q:dm w2 (.slice (some ⟨g,0,none⟩) (n+1) z) (marks (n+1) N):=by
  unfold dm;rw[gQ,wg,aV];exact R
 have E:∀k,k<w.1.size->m.ownBlock≠some k->w2.1[k]?=w.1[k]? := λk l I=>(B.block k (aA l r.size) (λe=>I e.symm)).trans (r.block k l);have hty:∀(k:Nat) (cs:Array Xa) (t:TypeId) (fz:Nat×Nat),w.1[k]?=some (.cells cs t fz)->t≠9->w2.1[k]?=w.1[k]? := λk cs t fz l ht=>E k (cj l) (λe=>by
  obtain⟨cs',K,T⟩:=cz X e;exact yk l T ht rfl)
 have F:=ah r.size B.size;have V:ed (λk=>m.ownBlock=some k) w w2:=⟨B.os.trans r.os,B.tape.trans r.tape,B.output.trans r.output,F,λk l I=>E k l I⟩;refine⟨⟨(hty wb _ _ _ h.eb RZ).trans h.eb,cD h.row (λk l cs fz hb=>(hty k _ _ _ hb RZ).trans hb),λp u=>⟨?_,(h.each p u).2⟩,h.wP,h.ta,λk l=>?_⟩,Q,λp u hb=>?_,?_,?_,V⟩
 ·by_cases S:∃b,m.ownBlock=some b/\p.1.ownBlock=some b
  ·obtain⟨b,L,U⟩:=S;obtain⟨k,c,J,C,Z⟩:=M p u b L U;rcases D with⟨h1,y,h2,G⟩|⟨h1,h2⟩
   ·rw[L]at h1;cases h1;rw[h2]at C;cases C;subst G;rw[J];exact Du Q RM
   refine cD (h.each p u).1 (λj hj cs fz l=>?_);have O:=cj l;exact((h2.block j (aA O r.size)).trans (r.block j O)).trans l
  refine cD (h.each p u).1 (λj hj cs fz l=>(E j (cj l) (λe=>S ⟨j,e,hj⟩)).trans l)
 ·obtain⟨a,b,c,cs,t,fz,d,e⟩:=h.ct k l;by_cases P:m.ownBlock=some k
  ·rcases D with⟨h1,_⟩|⟨h1,h2⟩
   ·rw[P]at h1;cases h1;obtain⟨cs',K,hb⟩:=cz R rfl;exact⟨a,aA b F,c,cs',_,K,hb,.inr rfl⟩
   exact⟨a,aA b F,c,cs,t,fz,((h2.block k (aA b r.size)).trans (r.block k b)).trans d,e⟩
  exact⟨a,aA b F,c,cs,t,fz,(E k b P).trans d,e⟩
 ·rcases D with⟨h1,y,h2,G⟩|⟨h1,h2⟩
  ·obtain⟨k,c,J,C,Z⟩:=M p u g h1 hb;rw[h2]at C;cases C;subst G;exact⟨k,y,J,rfl,by omega⟩
  have:=(h.ct g (h.ta p u g hb)).2.1;have:=r.size;omega
 ·rcases D with⟨h1,_⟩|⟨h1,h2⟩
  ·exact Y g h1
  have:=cj h.eb;have:=r.size;omega
 rcases D with⟨h1,_⟩|⟨h1,h2⟩
 ·exact .inl h1
 rw[h1];exact .inr r.size
end
end mK
end
