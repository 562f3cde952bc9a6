/- Out of Q10b. -/
import Derived.Test.YtpekpdimdelncaaGreatDoorP30
import Derived.Test.YtpekpdimdelncaaGreatDoorP14
set_option linter.unusedVariables false
set_option linter.unusedSimpArgs false
set_option maxRecDepth 100000
set_option maxHeartbeats 4000000
set_option linter.defProp false
namespace Go.Proofs.YtpekpdimdelncaaGreatDoor
open Go.RowKit Go.Shelf
section
open bY
open Tryz
namespace Ref
def C7(v u:V)(x y:ba)(w:QV)(B:8<=w.1.size)(hv:L3 v)(hu:L3 u)(hx:Tx x v)(hy:Tx y u)(bc:x.size<=100000)(bd:y.size<=100000)(hw:∃b c,v=vl b/\u=vl c):Calls prog 239 #[.int .u8 43,.string x,.string y] w λe w'=>e=.returned (dw (bY.make 43 v u))/\Xb w w':=by
 obtain⟨a1,m1,p1,u1,j,k1,p,_⟩:=kinds hv x hx RM;obtain⟨a2,m2,p2,u2,m,k2,r,_⟩:=kinds hu y hy RM;have p:=bZ p;have r:=bZ r;have a4:u1=true/\u2=true:=by
  obtain⟨b,c,rfl,rfl⟩:=hw;exact⟨k1.Ou,k2.Ou⟩
 clear hw;obtain⟨rfl,rfl⟩:=a4;obtain⟨⟨S,rfl,E,ay⟩,rfl,rfl⟩:=k1.list;obtain⟨⟨T,rfl,F,aC⟩,rfl,rfl⟩:=k2.list;obtain⟨Q,a0⟩:=D' hx hv;obtain⟨R,a3⟩:=D' hy hu;rw[<-E]at Q;rw[<-F]at R;have ak:bY.make 43 (vl S) (vl T)=dX (S++T):=rfl;rw[ak];have av:(cJ j).length<=100000:=by
  have:=congrArg List.length Q;rw[<-UB]at this;unfold hU at this;simp at this;omega
 have ax:(cJ m).length<=100000:=by
  have:=congrArg List.length R;rw[<-UB]at this;unfold hU at this;simp at this;omega
 have ai:(cJ (j++m)).length<=300000:=by have:=vg j m;omega
 have a6:j.length<=12:=by rw[E,aG];exact a0
 have a7:m.length<=12:=by rw[F,aG];exact a3
 obtain⟨t,P⟩:∃t:ba,(⟨(hU (j++m)).toArray⟩:ba)=t:=⟨_,rfl⟩;have O:t.1.1=hU (j++m):=by rw[<-P]
 have am:str (hU (j++m))=.string t:=by rw[<-P];rfl
 have J:=bZ (λw B=>tF t w B (by rw[UB,O];unfold hU;simp;omega));rw[O,E,F,<-aV,uN (gZ ay aC),pI]at J;obtain⟨tc,ts,ht⟩:=dG (dX (S++T));rw[ht]at J ⊢;have Y:=bZ ai;clear ht ak k1 k2 Q R E F ai av ax O P;go_enter func239,ntmps239;go_wp2_with fail;refine(p.Z (dR w)).1.mono ?_;rintro e w1⟨rfl,n⟩;obtain rfl:=n.symm;dsimp only;go_wp2_with fail;refine(r.Z _).1.mono ?_;rintro e w1⟨rfl,n⟩;obtain rfl:=n.symm;dsimp only;go_wp2_with fail;refine(p.Z _).2.1.mono ?_;rintro e w1⟨rfl,n⟩;obtain rfl:=n.symm;dsimp only;go_wp2_with fail;refine(r.Z _).2.1.mono ?_;rintro e w1⟨rfl,n⟩;obtain rfl:=n.symm;dsimp only;go_wp2_with fail;refine((p.Z _).2.2 (eS B)).mono ?_;rintro e w1⟨o1,c1,rfl,D⟩;dsimp only;go_wp2_with fail;refine((r.Z _).2.2 (ah (eS B) D.eh.size)).mono ?_;rintro e w2⟨o2,c2,rfl,G⟩;have aa:=bZ (D.below G.eh);have ab:=bZ G;have z:Below (dR w).1.size (dR w) w2:=D.eh.trans (G.eh.mono D.eh.size);have K:8<=w2.1.size:=ah (eS B) z.size;have X:=bZ (λw3 (h:Xb w2 w3)=>gl (z.trans (h.mono z.size)));have U:=bZ (λw3 (h:Xb w2 w3) x y=>ft (z.trans (h.mono z.size)) x y);clear D G p r z;dsimp only;obtain⟨o3,c3,w3,M,I,a8⟩:=(iO.nil w2).join aa.Z K R5;simp only[P6,aI,Qv]at M I
 obtain⟨o4,c4,w4,ad,N,a9⟩:=I.join (ab.Z.below I.eh) K RM;have Z:=bZ (oO (l:=j++m) (o:=o4) (c:=c4) (by rw[aj];exact N) (by have:=Y.Z;omega) (by rw[aj];omega));rw[aj,am]at Z;have L:Xb w2 w4:=N.eh;have ap:8<=w4.1.size:=ah K L.size;clear I N Y am aa ab;go_wp2_with(at_builtin;first|(refine cY _ rfl _ _ _ _ rfl _ _ _ _ rfl rfl M ?_;clear M)|(refine cY _ rfl _ _ _ _ rfl _ _ _ _ rfl rfl ad ?_;clear ad));refine Z.Z.mono ?_;rintro e w5⟨rfl,a5⟩;obtain rfl:=a5.symm;dsimp only;go_wp2_with fail;refine(J.Z _ ap).mono ?_;rintro e w5⟨rfl,C⟩;have C:=L.trans (C.mono L.size);obtain⟨c0,c1,f0,f1⟩:=X.Z _ C;have ao:=bZ (U.Z _ C);clear C X U;dsimp only;go_wp2_with fail;exact UA (v:=.agg #[.int .i64 tc,.string ts]) (by simp[results,results239,go_sem,c0,c1]) rfl ⟨rfl,ao.Z _ _⟩
end Ref
end
section
open bY
open Tryz
namespace Ref
def FN(v u:V)(x y:ba)(w:QV)(D:8<=w.1.size)(hv:L3 v)(hu:L3 u)(hx:Tx x v)(hy:Tx y u)(Q:x.size<=100000)(S:y.size<=100000):Calls prog 239 #[.int .u8 43,.string x,.string y] w λe w'=>e=.returned (dw (bY.make 43 v u))/\Xb w w':=by
 obtain⟨a1,J,p1,u1,ao,k1,z,_⟩:=kinds hv x hx RM;obtain⟨G,T,U,u2,ap,k2,B,_⟩:=kinds hu y hy RM;have z:=bZ z;have B:=bZ B;by_cases M:p1=true/\U=true
 ·obtain⟨rfl,rfl⟩:=M;exact C6 v u x y w D hv hu hx hy Q S (by
   obtain⟨⟨b,h1⟩,_⟩:=k1.word;obtain⟨⟨c,h2⟩,_⟩:=k2.word;exact⟨b,c,h1,h2⟩)
 by_cases N:u1=true/\u2=true
 ·obtain⟨rfl,rfl⟩:=N;exact C7 v u x y w D hv hu hx hy Q S (by
   obtain⟨⟨b,h1,_⟩,_⟩:=k1.list;obtain⟨⟨c,h2,_⟩,_⟩:=k2.list;exact⟨b,c,h1,h2⟩)
 obtain⟨R,p⟩:∃R,dw (bY.make 43 v u)=R:=⟨_,rfl⟩;rw[p];go_enter func239,ntmps239;go_wp2_with fail;refine(z.Z (dR w)).1.mono ?_;rintro e w1⟨rfl,r⟩;obtain rfl:=r.symm;dsimp only;go_wp2_with fail;refine(B.Z _).1.mono ?_;rintro e w1⟨rfl,r⟩;obtain rfl:=r.symm;dsimp only;go_wp2_with fail;refine(z.Z _).2.1.mono ?_;rintro e w1⟨rfl,r⟩;obtain rfl:=r.symm;dsimp only;go_wp2_with fail;refine(B.Z _).2.1.mono ?_;rintro e w1⟨rfl,r⟩;obtain rfl:=r.symm;dsimp only;go_wp2_with fail;refine((z.Z _).2.2 (eS D)).mono ?_;rintro e w1⟨o1,c1,rfl,F⟩;dsimp only;go_wp2_with fail;refine((B.Z _).2.2 (ah (eS D) F.eh.size)).mono ?_;rintro e w2⟨o2,c2,rfl,I⟩;have Z:=bZ (F.below I.eh);have aa:=bZ I;have C:Below (dR w).1.size (dR w) w2:=F.eh.trans (I.eh.mono F.eh.size);have am:8<=w2.1.size:=ah (eS D) C.size;have l:=bZ (λw3 (h:Xb w2 w3)=>gl (C.trans (h.mono C.size)));have j:=bZ (λw3 (h:Xb w2 w3) x y=>ft (C.trans (h.mono C.size)) x y);clear F I z B C;dsimp only;by_cases L:J=true/\T=true
 ·obtain⟨rfl,rfl⟩:=L;obtain⟨rfl,rfl,rfl,ab,ad⟩:=k1.num;obtain⟨rfl,rfl,rfl,ai,ak⟩:=k2.num;clear k1 k2;have E:bY.make 43 (vn a1) (vn G)=.ok (vn (wrap64 (a1+G))):=by
   rw[<-qF];rfl
  rw[E]at p;obtain⟨tc,ts,P⟩:=dG (.ok (vn (wrap64 (a1+G))));have O:=bZ (λw=>me (wrap64 (a1+G)) w SM SM);rw[P]at O p;subst p;clear P E;go_wp2_with fail;refine(O.Z _).mono ?_;rintro e w3⟨rfl,K⟩;obtain⟨n,c1,f0,f1⟩:=l.Z _ K;have m:=bZ (j.Z _ K);clear K l j;dsimp only;go_wp2_with fail;exact UA (v:=.agg #[.int .i64 tc,.string ts]) SZ rfl ⟨rfl,m.Z _ _⟩
 have E:bY.make 43 v u=.error 9:=jV k1 k2 L M N;have X:p1=true->J=false/\u1=false:=λh=>by subst h;exact k1.word.2
 have Y:u1=true->J=false/\p1=false:=λh=>by subst h;exact k1.list.2
 rw[E]at p;rw[ri 9 9 rfl]at p;subst p;clear E k1 k2;cases p1 with
 |true =>
  obtain⟨rfl,rfl⟩:=X rfl;obtain rfl:U=false:=S8;obtain⟨n,c1,f0,f1⟩:=l.Z _ (Uz _ _);have m:=bZ (j.Z _ (Uz _ _));clear l j;go_wp2_with fail;exact UA (v:=.agg #[.int .i64 9,.string ⟨#[]⟩]) SZ rfl ⟨rfl,m.Z _ _⟩
 |false =>
  cases u1 with
  |true =>
   obtain⟨rfl,_⟩:=Y rfl;obtain rfl:u2=false:=by simpa using N
   obtain⟨n,c1,f0,f1⟩:=l.Z _ (Uz _ _);have m:=bZ (j.Z _ (Uz _ _));clear l j;go_wp2_with fail;exact UA (v:=.agg #[.int .i64 9,.string ⟨#[]⟩]) SZ rfl ⟨rfl,m.Z _ _⟩
  |false =>
   cases J with
   |false =>
    obtain⟨n,c1,f0,f1⟩:=l.Z _ (Uz _ _);have m:=bZ (j.Z _ (Uz _ _));clear l j;go_wp2_with fail;exact UA (v:=.agg #[.int .i64 9,.string ⟨#[]⟩]) SZ rfl ⟨rfl,m.Z _ _⟩
   |true =>
    obtain rfl:T=false:=by simpa using L
    obtain⟨n,c1,f0,f1⟩:=l.Z _ (Uz _ _);have m:=bZ (j.Z _ (Uz _ _));clear l j;go_wp2_with fail;exact UA (v:=.agg #[.int .i64 9,.string ⟨#[]⟩]) SZ rfl ⟨rfl,m.Z _ _⟩
def I7(k op:Nat):Nat:=if k=13 then(if op=109 then 105 else if op=120 then 97 else 64)else op
def I8(k op:Nat)(m:(k=1/\op∈[43,45,42,47,60,61])\/(k=13/\op∈[109,120,64]))(v u:V)(x y:ba)(w:QV)(b:8<=w.1.size)(hv:L3 v)(hu:L3 u)(hx:Tx x v)(hy:Tx y u)(j:x.size<=100000)(l:y.size<=100000):Calls prog 239 #[.int .u8 (I7 k op:Int),.string x,.string y] w λe w'=>e=.returned (dw (bY.make op v u))/\Xb w w':=by
 rcases m with⟨rfl,h⟩|⟨rfl,h⟩
 ·simp only[aP,RG,QL]at h;rcases h with rfl|rfl|rfl|rfl|rfl|rfl
  ·exact FN v u x y w b hv hu hx hy j l
  ·exact AY _ _ _ (.inl ⟨rfl,rfl,rfl⟩) v u x y w b hv hu hx hy j l
  ·exact AY _ _ _ (.inr ⟨rfl,rfl,rfl⟩) v u x y w b hv hu hx hy j l
  ·exact I6 v u x y w b hv hu hx hy j l
  ·exact FM v u x y w b hv hu hx hy j l
  exact FL v u x y w b hv hu hx hy j l
 simp only[aP,RG,QL]at h;rcases h with rfl|rfl|rfl
 ·exact xM _ _ v u x y _ _ (.inl ⟨rfl,rfl,rfl,rfl⟩) w b hv hu hx hy j l
 ·exact xM _ _ v u x y _ _ (.inr ⟨rfl,rfl,rfl,rfl⟩) w b hv hu hx hy j l
 exact Lv v u x y w b hv hu hx hy j l
end Ref
end
namespace Ref
structure Nd where
 op:Int
 s:ba
 x:Int
 y:Int
 z:Int
 p:Option Addr
 pn:Nat
 pc:Nat
 all:List Int
def Nd.cells(d:Nd):List Xa:=[.int .u8 d.op,.string d.s,.int .i64 d.x,.int .i64 d.y,.int .i64 d.z,.slice d.p d.pn d.pc]
def mH(ns:List Nd)(R:Nat->bY.T->Prop)(y:Nat)(t:bY.T):Prop :=if t.cq=2 then ∃(d:Nd) (v:bY.V),ns[y]?=some d/\d.op=118/\t.is=some v/\d.s.1.1=bY.wr 3 v
 else if t.cq=3 then ∃d:Nd,ns[y]?=some d/\d.op=107/\d.s.1.1=t.name
 else if t.cq=4 then ∃d:Nd,ns[y]?=some d/\d.op=110
 else if t.cq=5 then ∃(d d0:Nd) (a b:Nat),ns[y]?=some d/\d.op=45/\d.x=a/\d.y=b/\ns[a]?=some d0/\d0.op=118/\d0.s.1.1=[48]/\R b (t.cG 0)
 else if t.cq=6 then R y (t.cG 0)
 else if t.cq=7 then ∃(d:Nd) (a:Nat),ns[y]?=some d/\d.op=91/\d.x=a/\R a (t.cG 0)
 else if t.cq=8 then ∃(d:Nd) (e:List Nat),ns[y]?=some d/\d.op=123/\d.all=e.map (λ(a:Nat)=>(a:Int))/\e.length=t.parts.length/\∀(k:Nat) (a:Nat) (u:bY.T),e[k]?=some a->t.parts[k]?=some u->R a u
 else if t.cq=9 then ∃(d:Nd) (a b c:Nat),ns[y]?=some d/\d.op=63/\d.x=a/\d.y=b/\d.z=c/\R a (t.cG 0)/\R b (t.cG 1)/\R c (t.cG 2)
 else if t.cq=10\/t.cq=11\/t.cq=12 then ∃(d:Nd) (a:Nat),ns[y]?=some d/\d.op=49/\d.s.1.1=(if t.cq=10 then[115,105,122,101]else if t.cq=11 then[115,117,109] else[119,111,114,100])/\d.x=a/\R a (t.cG 0)
 else ∃(d:Nd) (a b:Nat),ns[y]?=some d/\d.op=(if t.cq=13 then(I7 13 t.op:Int)else if t.cq=14 then 116 else if t.cq=15 then 101 else 115)/\d.x=a/\d.y=b/\R a (t.cG 0)/\R b (t.cG 1)
def nB(ns:List Nd):Nat->Nat->bY.T->Prop
 |0,_,_=>False
 |m+1,x,t =>
  if t.cq=1 then ∃(d:Nd) (a b:Nat),ns[x]?=some d/\d.op=(t.op:Int)/\d.x=a/\d.y=b/\nB ns m a (t.cG 0)/\nB ns m b (t.cG 1)
  else ∃(d:Nd) (y:Nat),ns[x]?=some d/\d.op=102/\d.x=y/\mH ns (nB ns m) y t
def mH.mono{ns C:List Nd}{R R':Nat->bY.T->Prop}(n:∀(i:Nat) (d:Nd),ns[i]?=some d->C[i]?=some d)(m:∀x t,R x t->R' x t){y:Nat}{t:bY.T}(h:mH ns R y t):mH C R' y t:=by
 unfold mH at h ⊢;by_cases h2:t.cq=2
 ·rw[ag h2]at h ⊢;obtain⟨d,v,h1,e⟩:=h;exact⟨d,v,n _ _ h1,e⟩
 rw[ae h2]at h ⊢;by_cases h2:t.cq=3
 ·rw[ag h2]at h ⊢;obtain⟨d,h1,e⟩:=h;exact⟨d,n _ _ h1,e⟩
 rw[ae h2]at h ⊢;by_cases h2:t.cq=4
 ·rw[ag h2]at h ⊢;obtain⟨d,h1,e⟩:=h;exact⟨d,n _ _ h1,e⟩
 rw[ae h2]at h ⊢;by_cases h2:t.cq=5
 ·rw[ag h2]at h ⊢;obtain⟨d,d0,a,b,h1,e,j,l,p,r,z,B⟩:=h;exact⟨d,d0,a,b,n _ _ h1,e,j,l,n _ _ p,r,z,m _ _ B⟩
 rw[ae h2]at h ⊢;by_cases h2:t.cq=6
 ·rw[ag h2]at h ⊢;exact m _ _ h
 rw[ae h2]at h ⊢;by_cases h2:t.cq=7
 ·rw[ag h2]at h ⊢;obtain⟨d,a,h1,e,j,l⟩:=h;exact⟨d,a,n _ _ h1,e,j,m _ _ l⟩
 rw[ae h2]at h ⊢;by_cases h2:t.cq=8
 ·rw[ag h2]at h ⊢;obtain⟨d,D,h1,e,j,l,p⟩:=h;exact⟨d,D,n _ _ h1,e,j,l,λk a u E hu=>m _ _ (p k a u E hu)⟩
 rw[ae h2]at h ⊢;by_cases h2:t.cq=9
 ·rw[ag h2]at h ⊢;obtain⟨d,a,b,c,h1,e,j,l,p,r,z,B⟩:=h;exact⟨d,a,b,c,n _ _ h1,e,j,l,p,m _ _ r,m _ _ z,m _ _ B⟩
 rw[ae h2]at h ⊢;by_cases h2:t.cq=10\/t.cq=11\/t.cq=12
 ·rw[ag h2]at h ⊢;obtain⟨d,a,h1,e,j,l,p⟩:=h;exact⟨d,a,n _ _ h1,e,j,l,m _ _ p⟩
 rw[ae h2]at h ⊢;obtain⟨d,a,b,h1,e,j,l,p,r⟩:=h;exact⟨d,a,b,n _ _ h1,e,j,l,m _ _ p,m _ _ r⟩
def nB.mono{ns r:List Nd}(e:∀(i:Nat) (d:Nd),ns[i]?=some d->r[i]?=some d):∀{m m':Nat},m<=m'->∀{x:Nat} {t:bY.T},nB ns m x t->nB r m' x t
 |0,_,_,_,_,h=>h.elim
 |m+1,0,p,_,_,_=>(Nat.not_succ_le_zero m p).elim
 |m+1,m'+1,p,x,t,h=>by
  unfold nB at h ⊢;by_cases h1:t.cq=1
  ·rw[ag h1]at h ⊢;obtain⟨d,a,b,h2,j,l,n,u,z⟩:=h;exact⟨d,a,b,e _ _ h2,j,l,n,nB.mono e RM u,nB.mono e RM z⟩
  rw[ae h1]at h ⊢;obtain⟨d,y,h2,j,l,n⟩:=h;exact⟨d,y,e _ _ h2,j,l,n.mono e (λx t h=>nB.mono e RM h)⟩
def Ext(ns b:List Nd):Prop:=∃e,b=ns++e
def Ext.refl(ns:List Nd):Ext ns ns:=⟨[],(QA _).symm⟩
def Ext.one(ns:List Nd)(d:Nd):Ext ns (ns++[d]):=⟨[d],rfl⟩
def Ext.trans{a b c:List Nd}(h:Ext a b)(k:Ext b c):Ext a c:=by
 obtain⟨e,rfl⟩:=h;obtain⟨f,rfl⟩:=k;exact⟨e++f,by rw[QM]⟩
def Ext.at{a b:List Nd}(h:Ext a b){i:Nat}{d:Nd}(hd:a[i]?=some d):b[i]?=some d:=by
 obtain⟨e,rfl⟩:=h;rw[aU (az.1 hd).1];exact hd
def Ext.rep{a b:List Nd}(h:Ext a b){m m' x:Nat}{t:bY.T}(j:nB a m x t)(e:m<=m'):nB b m' x t:=j.mono (λi d hd=>h.at hd) e
def Ext.len{a b:List Nd}(h:Ext a b):a.length<=b.length:=by
 obtain⟨e,rfl⟩:=h;rw[aj];omega
def ie(ns:List Nd)(d:Nd):(ns++[d])[ns.length]?=some d:=R2
def nB.again{ns:List Nd}{m x:Nat}{t:bY.T}{d:Nd}(h:nB ns m x t)(hd:ns[x]?=some d):nB (ns++[d]) m ns.length t:=by
 have e:=Ext.one ns d;cases m with
 |zero=>exact h.elim
 |succ m =>
  unfold nB at h ⊢;by_cases h1:t.cq=1
  ·rw[ag h1]at h ⊢;obtain⟨d',a,b,h2,j,l,n,p,r⟩:=h;rw[hd]at h2;cases h2;exact⟨d,a,b,ie ns d,j,l,n,e.rep p (af _),e.rep r (af _)⟩
  rw[ae h1]at h ⊢;obtain⟨d',y,h2,j,l,n⟩:=h;rw[hd]at h2;cases h2;exact⟨d,y,ie ns d,j,l,n.mono (λi d hd=>e.at hd) (λx t h=>e.rep h (af _))⟩
end Ref
section
open Tryz
namespace Ref
variable{rb B i n:Nat}{v u:Xa}{xs:List Xa}{ns:List Nd}{s t:ba}
def sZ{P:Program}{ops:Array Oper}{o:Oper}{a:Act}{w:QV}{K:Act->QV->Prop}{Q:Exit->Act->QV->Prop}{E:Prop}
  (J:o.guard=none) (s x:Operand) (t:TypeId) (M:o.op=Op.call { callee:=Callee.builtin Builtin.append,args:=#[s,x],argTypes:=#[t,t] })
  (l:Nat) (e:TypeId) (i:TypeInfo) (z:Xa) (size bytes:Nat) (h1:P.underlying t=some (.slice e)) (h2:P.info? e=some i) (y:i.zero=some z) (C:i.size=size) (D:i.bytes=bytes) (F:z.cells.size=size) (G:0<size)
  (v:Xa) (n:Nat) (xs:List Xa) (hs:a.eval s=v) (N:w.ownsRow l e size v n xs)
  (p:Addr) (m c:Nat) (b:List Xa) (hx:a.eval x=.slice (some p) m c) (L:b.length=m*size) (hc:∀j u,b[j]?=some u->w.cell? (p.add j)=some u) (r:∀u∈b,u.oneCell'=true)
  (b1:n+m<=maxLen) (b2:(n+m)*bytes<=140737488355328) (hb:l<=w.1.size)
  (I:∀v' w',w'.ownsRow l e size v' (n+m) (xs++b)->w.grownBy w' v.ownBlock->K (a.put o.dst v') w') :
  if Region.wanted o (yielded ops a.tmps)=true then Oper.wp P o a w K Q else E:=by
 have R:Region.wanted o (yielded ops a.tmps)=true:=by simp[Region.wanted,J]
 rw[ag R];obtain⟨v',w',O,S,T,_⟩:=run_append_own (P:=P) w l t o.type e i z size bytes h1 h2 y C D F G v n xs N p m c b L hc r b1 b2 hb;unfold Oper.wp;simp[execOp,M,resolve,invoke,builtin,hs,hx,O,Result.andThen];exact I v' w' S T
def FO:(prog.info? 147).map (λi=>(i.zero,i.size,i.bytes))=some (some (.agg #[.int .u8 0,.string ⟨#[]⟩,.int .i64 0,.int .i64 0,.int .i64 0,.slice none 0 0]),6,72):=RO
structure pY(w:QV)(B:Nat)(v:Xa)(ns:List Nd):Prop where
 own:w.ownsRow B 147 6 v ns.length (ns.flatMap Nd.cells)
 all:∀d∈ns,d.pn=d.all.length/\w.ownsRow B 3 1 (.slice d.p d.pn d.pc) d.all.length (d.all.map λa=>.int .i64 a)
structure RF(rb B:Nat)(w w':QV):Prop where
 os:w'.os=w.os
 tape:w'.tape=w.tape
 output:w'.output=w.output
 size:w.1.size<=w'.1.size
 low:∀k,k<B->k<w.1.size->k≠rb->w'.1[k]?=w.1[k]?
 other:∀k o,w.1[k]?=some o->k≠rb->(∀c fz,o≠.cells c 147 fz)->w'.1[k]?=some o
def RF.refl(rb B:Nat)(w:QV):RF rb B w w:=⟨rfl,rfl,rfl,af _,λ_ _ _ _=>rfl,λ_ _ h _ _=>h⟩
def RF.trans{a b c:QV}(h:RF rb B a b)(k:RF rb B b c):RF rb B a c :=⟨k.os.trans h.os,k.tape.trans h.tape,k.output.trans h.output,ah h.size k.size,λi hi e h1=>(k.low i hi (aA e h.size) h1).trans (h.low i hi e h1),λi o e h1 h2=>k.other i o (h.other i o e h1 h2) h1 h2⟩
def lt_of_heap{w:QV}{k:Nat}{o:Obj}(h:w.1[k]?=some o):k<w.1.size:=by
 by_cases b:k<w.1.size
 ·exact b
 rw[QH RM]at h;cases h
def RF.rj{w w':QV}(h:w.grownBy w' (some rb)):RF rb B w w' :=⟨h.os,h.tape,h.output,h.size,λk _ j h1=>h.block k j (λe=>h1 (by injection e)),λk o b h1 _=>(h.block k (lt_of_heap b) (λe=>h1 (by injection e))).trans b⟩
def RF.fr{w w1 w':QV}(k:RF rb B w w1)(h:w1.grownBy w' (some rb)):RF rb B w w':=k.trans (RF.rj h)
def se{w w':QV}(h:RF rb B w w'){b n:Nat}(j:w.ownsRow b 3 1 v n xs)(hb:rb<b):w'.ownsRow b 3 1 v n xs:=by
 refine⟨j.1,?_⟩;rcases j.2 with p|⟨g,l,m,h1,h2,r,y⟩
 ·exact Or.inl p
 refine Or.inr ⟨g,l,m,h1,h2,?_,y⟩;exact h.other g _ r RM (λc fz e=>by injection e with _ e _;exact absurd e RZ)
def pY.fr{w w':QV}(h:pY w B v ns)(hf:w.grownBy w' (some rb))(b:rb<B):pY w' B v ns :=⟨h.own.kept hf (Or.inr (λe=>by have:=(h.own.lt _ e).1;omega)),λd hd=>⟨(h.all d hd).1,se (RF.rj (B:=B) hf) (h.all d hd).2 b⟩⟩
def gX.alloc{w:QV}{code place b:Nat}(h:gX w s rb i t code place b v)(o:Obj):gX (w.alloc o) s rb i t code place b v :=(UE w o rb h.lt).trans h
def gX.grown{w w':QV}{code place b:Nat}{row:Option Nat}(h:gX w s rb i t code place b v)(e:w.grownBy w' row)(j:some rb≠row):gX w' s rb i t code place b v :=(e.block rb h.lt j).trans h
def gX.nodes{w:QV}{code place b:Nat}(h:gX w s rb i t code place b v)(v':Xa):gX (w.setCell ⟨rb,6,none⟩ v') s rb i t code place b v':=ig h 6 v'
def dP{w:QV}{b size n:Nat}{e:TypeId}(h:w.ownsRow b e size v n xs):∃p c,v=.slice p n c:=by
 rcases h.2 with⟨rfl,rfl⟩|⟨g,j,_,hv,_⟩
 ·exact⟨_,_,rfl⟩
 exact⟨_,_,hv⟩
def Lw(w:QV)(A:Obj)(k:Nat)(T:TypeId)(b a1 e l m p:Xa):∀j u,[b,a1,e,l,m,p][j]?=some u->(((w.alloc A).drewN k).alloc (.cells #[b,a1,e,l,m,p] T)).cell? ((⟨w.1.size+1,0,none⟩:Addr).add j)=some u:=by
 intro j u hj;have r:(((w.alloc A).drewN k).alloc (.cells #[b,a1,e,l,m,p] T)).1[w.1.size+1]?=some (.cells #[b,a1,e,l,m,p] T):=by
  have:=heap_alloc_new ((w.alloc A).drewN k) (.cells #[b,a1,e,l,m,p] T);simpa using this
 have y:j<6:=by have:=az.1 hj;exact this.1
 rcases(by omega:j=0\/j=1\/j=2\/j=3\/j=4\/j=5)with rfl|rfl|rfl|rfl|rfl|rfl
 all_goals
  simp only[World.cell?,Addr.add];generalize (((w.alloc A).drewN k).alloc (.cells #[b,a1,e,l,m,p] T)).1=H at r;simp[r];simpa using hj
def I9{w:QV}{e:TypeId}{size:Nat}(h:w.ownsRow B e size v n xs)(b:rb<B):some rb≠v.ownBlock:=λe=>by
 have:=(h.lt _ e.symm).1;omega
def NF{w w':QV}(rb B:Nat)(m:w.ownsRow B 147 6 v n xs)(j:w.grownBy w' v.ownBlock):RF rb B w (w'.setCell ⟨rb,6,none⟩ u):=by
 refine RF.trans (b:=w') ⟨j.os,j.tape,j.output,j.size,λk l p _=>j.block k p (λe=>?_),λk o l _ h2=>(j.block k (lt_of_heap l) (λe=>?_)).trans l⟩ (RF.rj (Fr.set (UD _ _) _ _))
 ·have:=(m.lt _ e.symm).1;omega
 rcases m.2 with⟨rfl,_⟩|⟨g,r,y,rfl,_,hb,_⟩
 ·simp[Value.ownBlock]at e
 simp[Value.ownBlock]at e;subst e;rw[l]at hb;injection hb with hb
 exact h2 _ _ hb
def Ly(s:ba)(rb B i:Nat)(t:ba)(code place N:Nat)(ns:List Nd)(v:Xa)(b:Int)(t2:ba)(x y z:Int)(p:Option Addr)(j r:Nat)(w:QV)(al:List Int)(h:gX w s rb i t code place N v)(T:pY w B v ns)(l:rb<B)(ad:B<=w.1.size)(hn:ns.length<=100000)(L:j=al.length)(F:w.ownsRow B 3 1 (.slice p j r) al.length (al.map λa=>.int .i64 a)):Calls prog 67 #[.pointer (some ⟨rb,0,none⟩),.agg #[.int .u8 b,.string t2,.int .i64 x,.int .i64 y,.int .i64 z,.slice p j r]] w λe w'=>e=.returned (.int .i64 (ns.length:Int))/\∃v',gX w' s rb i t code place N v'/\pY w' B v' (ns++[⟨b,t2,x,y,z,p,j,r,al⟩])/\RF rb B w w':=by
 obtain⟨O,c1,c2,P,Q,R,S,cf⟩:=h.cells;obtain⟨m,G⟩:=T;have E:=bZ (And.intro L F);have D:=bZ G;clear L F G;obtain⟨Z,U,V,X,Y⟩:=UJ FO;have ai:=h.lt;obtain⟨vp,vc,rfl⟩:=dP m;go_enter func67,ntmps67;go_wp2_with fail
 go_region_law (refine sZ rfl (.tmp 9) (.tmp 11) 80 rfl B 147 Z _ 6 72 underlying80 U V X Y rfl RZ (.slice vp ns.length vc) _ (ns.flatMap Nd.cells) rfl (m.kept (row:=none) (Fr.alloc (Fr.drewN (Fr.alloc (UD _ _) _) 1) _) (Classical.em _)) ⟨w.1.size+1,0,none⟩ 1 1 [.int .u8 b,.string t2,.int .i64 x,.int .i64 y,.int .i64 z,.slice p j r] rfl rfl (Lw w _ _ _ _ _ _ _ _ _) Tw R6 RM R5 ?_;intro v' w' K I;obtain⟨ab,aa,rfl⟩:=dP K;have J:=Fr.trans (row:=_) (Fr.alloc (Fr.drewN (Fr.alloc (UD w _) _) 1) _) I;have M:=gX.grown h J (I9 m l);obtain⟨k0,k1,k2,k3,k4,k5,k6,kf⟩:=M.cells)
 all_goals
  clear O c1 c2 P Q R S cf I;go_wp2_with fail;go_ret;have C:=NF rb B (u:=.slice ab (ns.length+1) aa) m J;refine⟨by congr 2,_,gX.nodes M _,⟨?_,λd hd=>?_⟩,C⟩
  ·rw[aj,Qf];exact ownsRow_setCell_below K l _
  rcases aK.1 hd with hd|hd
  ·exact⟨(D.Z d hd).1,se C (D.Z d hd).2 l⟩
  rw[P1.1 hd];exact⟨E.Z.1,se C E.Z.2 l⟩
end Ref
end
section
open bY
open Tryz
namespace Ref
variable{s:ba}{n D u:List Nd}{y:Nat×Nat}{v:Xa}{t l:a_}{i j:Nat}{F:Nat->Except (Nat×Nat) Nat}{c:UInt8}{d:Nd}
def i_(s:ba):Except (Nat×Nat) Nat->Nat
 |.ok i=>4*(s.size-i)
 |.error _=>0
structure RX(s:ba)(rb B its:Nat)(n:List Nd)(st:Except (Nat×Nat) Nat)(w:QV):Prop where
 held:∃v i t code place,gX w s rb i t code place its v/\pY w B v n/\(∀j,st=.ok j->i=j/\code=0/\t=s.extract j (j+jq (s.1.1.drop j)))/\(∀y,st=.error y->code=y.1/\place=y.2/\y.1≠0)
 lt:rb<B
 le:B<=w.1.size
def RX.ok{b B its j:Nat}{w:QV}(h:RX s b B its n (.ok j) w):∃v p,MJ w s b j 0 p its v/\pY w B v n:=by
 obtain⟨v,i,t,code,place,h1,h2,e,_⟩:=h.held;obtain⟨rfl,rfl,rfl⟩:=e j rfl;exact⟨v,place,h1,h2⟩
def RX.err{b B its:Nat}{w:QV}(h:RX s b B its n (.error y) w):y.1≠0/\∃v i t,gX w s b i t y.1 y.2 its v/\pY w B v n:=by
 obtain⟨v,i,t,code,place,h1,h2,_,e⟩:=h.held;obtain⟨rfl,rfl,m⟩:=e y rfl;exact⟨m,v,i,t,h1,h2⟩
def RX.jo{b B its j p:Nat}{w:QV}(h:MJ w s b j 0 p its v)(m:pY w B v n)(hl:b<B)(e:B<=w.1.size):RX s b B its n (.ok j) w :=⟨⟨v,j,_,0,p,h,m,λk r=>(by cases r;exact⟨rfl,rfl,rfl⟩),λy hy=>(by cases hy)⟩,hl,e⟩
def RX.eU{b B its i:Nat}{t:ba}{w:QV}(h:gX w s b i t y.1 y.2 its v)(hy:y.1≠0)(m:pY w B v n)(hl:b<B)(e:B<=w.1.size):RX s b B its n (.error y) w :=⟨⟨v,i,t,_,_,h,m,λk p=>(by cases p),λz hz=>(by cases hz;exact⟨rfl,rfl,hy⟩)⟩,hl,e⟩
def Good(s:ba)(i:Nat)(st:Except (Nat×Nat) Nat):Prop:=∀j,st=.ok j->i<=j/\j<=s.size
def Good.andThen{st:Except (Nat×Nat) Nat}(h:Good s i st)(hF:∀a b,F a=.ok b->a<=s.size->a<=b/\b<=s.size):Good s i (bY.andThen st F):=λk e=>by
 obtain⟨j,h1,h2⟩:=andThen_ok e;have:=h j h1;have:=hF j k h2 this.2;omega
theorem Good.cv{st:Except (Nat×Nat) Nat}(h:Good s i st)(p:t≠[]):Good s i (bY.andThen st (bY.cv s.1.1 t)) :=h.andThen λa b m e=>by
  have:=fI m p Sw;simp at this;omega
def Good.P{st:Except (Nat×Nat) Nat}(h:Good s i st)(n p e m:Nat):Good s i (bY.andThen st (bY.P s.1.1 n p e m)) :=h.andThen λa b z r=>by
  have:=jv s.1.1 n p e m a b z (by simpa using r);simp at this;omega
def I_(s:ba)(r B E:Nat)(n:List Nd)(st:Except (Nat×Nat) Nat)(w:QV)(h:RX s r B E n st w)(b:Int)(t2:ba)(x y z:Int)(p:Option Addr)(m C:Nat)(al:List Int)(K:n.length<=100000)(L:m=al.length)(J:w.ownsRow B 3 1 (.slice p m C) al.length (al.map λa=>.int .i64 a)):Calls prog 67 #[.pointer (some ⟨r,0,none⟩),.agg #[.int .u8 b,.string t2,.int .i64 x,.int .i64 y,.int .i64 z,.slice p m C]] w λe w'=>e=.returned (.int .i64 (n.length:Int))/\RX s r B E (n++[⟨b,t2,x,y,z,p,m,C,al⟩]) st w'/\RF r B w w':=by
 obtain⟨v,i,t,code,place,h1,h2,G,I⟩:=h.held;refine(Ly s r B i t code place E n v b t2 x y z p m C w al h1 h2 h.lt h.le K L J).mono ?_;rintro e w'⟨rfl,v',k1,k2,k3⟩;exact⟨rfl,⟨⟨v',i,t,code,place,k1,k2,G,I⟩,h.lt,ah h.le k3.size⟩,k3⟩
def kD(s:ba)(m B p:Nat)(n:List Nd)(st:Except (Nat×Nat) Nat)(w:QV)(h:RX s m B p n st w)(b:Int)(t2:ba)(x y z:Int)(r:n.length<=100000):Calls prog 67 #[.pointer (some ⟨m,0,none⟩),.agg #[.int .u8 b,.string t2,.int .i64 x,.int .i64 y,.int .i64 z,.slice none 0 0]] w λe w'=>e=.returned (.int .i64 (n.length:Int))/\RX s m B p (n++[⟨b,t2,x,y,z,none,0,0,[]⟩]) st w'/\RF m B w w' :=I_ s m B p n st w h b t2 x y z none 0 0 [] r rfl ⟨rfl,.inl ⟨rfl,rfl⟩⟩
def j9(s:ba)(b B m:Nat)(n:List Nd)(st:Except (Nat×Nat) Nat)(w:QV)(h:RX s b B m n st w)(hs:s.size<=200)(t:ba)(E:known t.1.1=true)(i:Nat)(C:Good s i st):Calls prog 271 #[.pointer (some ⟨b,0,none⟩),.string t] w λe w'=>e=.returned (.tuple #[])/\RX s b B m n (bY.andThen st (bY.cv s.1.1 t.1.1)) w'/\RF b B w w':=by
 cases st with
 |error y =>
  obtain⟨hy,v,i,x,h1,h2⟩:=h.err;refine(EN s b i x y.1 y.2 m v t w h1 hy).mono ?_;rintro e w'⟨rfl,rfl⟩;exact⟨rfl,h,RF.refl _ _ _⟩
 |ok j =>
  obtain⟨v,p,h1,h2⟩:=h.ok;refine(GL s b j p m v t w h1 hs (C j rfl).2 E).mono ?_;rintro e w'⟨rfl,f1,k1,k2⟩;refine⟨rfl,?_,RF.rj f1⟩;show RX s b B m n (bY.cv s.1.1 t.1.1 j) w';have z:=h2.fr f1 h.lt;have r:=ah h.le f1.size;cases hx:bY.cv _ _ j with
  |ok k =>
   obtain⟨p',k3⟩:=k1 k hx;exact RX.jo k3 z h.lt r
  |error y =>
   have G:y.1=3:=by
    unfold bY.cv at hx;split at hx
    ·cases hx
    cases hx;rfl
   exact RX.eU (k2 y hx) RM z h.lt r
structure Ex(w:QV)(a b:List Nd):Prop where
 ext:Ext a b
 new:∀d∈b,d∈a\/∀g,(Value.slice d.p d.pn d.pc).ownBlock=some g->w.1.size<=g
def Ex.then{w w1:QV}{a b c:List Nd}(h:Ex w a b)(k:Ex w1 b c)(hs:w.1.size<=w1.1.size):Ex w a c :=⟨h.ext.trans k.ext,λd hd=>by
  rcases k.new d hd with h1|h1
  ·exact h.new d h1
  ·exact .inr (λg e=>ah hs (h1 g e))⟩
def Ex.refl(w:QV)(a:List Nd):Ex w a a:=⟨Ext.refl a,λ_ hd=>.inl hd⟩
def Ex.add(w:QV)(a:List Nd)(d:Nd)(h:∀g,(Value.slice d.p d.pn d.pc).ownBlock=some g->w.1.size<=g):Ex w a (a++[d]) :=⟨Ext.one a d,λe b=>by
  rcases aK.1 b with h1|h1
  ·exact .inl h1
  ·rw[P1.1 h1];exact .inr h⟩
def Ex.one(w:QV)(a:List Nd)(d:Nd)(h:d.p=none):Ex w a (a++[d]):=Ex.add w a d (λg b=>by rw[h]at b;cases b)
def RP(s:ba)(p B r:Nat)(n:List Nd)(w:QV)(st:Except (Nat×Nat) Nat)(m:Nat)(b:Except (Nat×Nat) Nat)(C:Nat->List Nd->Nat->Prop)(e:Ending)(w':QV):Prop :=∃(x:Int) (n':List Nd),e=.returned (.int .i64 x)/\RX s p B r n' b w'/\RF p B w w'/\n'.length+i_ s b<=n.length+i_ s st+m/\Ex w n n'/\(∀j,b=.ok j->∃k:Nat,x=(k:Int)/\k<n'.length/\C j n' k)
def Is(l:a_)(n p b e:Nat)(st:Except (Nat×Nat) Nat)(j:Nat)(ns:List Nd)(k:Nat):Prop :=∀i,st=.ok i->∃t m,PT l n p b e i []=.ok (j,[t])/\nB ns m k t
def RT(s:ba)(m B f p n:Nat):Prop :=∀(b e i:Nat) (st:Except (Nat×Nat) Nat) (w:QV) (c:List Nd),b<=20->e<=b->8*(s.size-i)+bY.nd p<=n->Good s i st->RX s m B e c st w->c.length+i_ s st<=2000 ->Calls prog f #[.pointer (some ⟨m,0,none⟩),.int .i64 (b:Int)] w (RP s m B e c w st 0 (bY.andThen st (bY.P s.1.1 n p b e)) (Is s.1.1 n p b e st))
def sf(s:ba)(j:Nat)(x:a_)(hx:known x=true):((s.extract j (j+jq (s.1.1.drop j))).toList==x)=(tx s.1.1 j==x):=by
 rw[UC,kq,QE,P',P'];exact mq _ _ _ hx
def D_(s:ba)(j:Nat)(c:UInt8)(hx:known [c]=true)(h:tx s.1.1 j=[c]):(s.extract j (j+jq (s.1.1.drop j))).size=1:=by
 have:=(mq _ _ _ hx).2 h;rw[<-kq]at this;rw[UB,this];rfl
def vh(s:ba)(b B m:Nat)(n:List Nd)(j:Nat)(w:QV)(h:RX s b B m n (.ok j) w)(hs:s.size<=200)(hj:j<=s.size)(r:2<=(bY.tok (s.1.1.drop j)).1):Calls prog 64 #[.pointer (some ⟨b,0,none⟩)] w λe w'=>e=.returned (.tuple #[])/\RX s b B m n (.ok (fC s.1.1 j)) w'/\RF b B w w':=by
 obtain⟨v,p,h1,h2⟩:=h.ok;refine(tT s b j 0 p m v w h1 hs hj r).mono ?_;rintro e w'⟨rfl,k1,f1⟩;exact⟨rfl,RX.jo k1 (h2.fr f1 h.lt) h.lt (ah h.le f1.size),RF.rj f1⟩
def FP(hc:jl c=true)(h:tx l j=[c]):(bY.tok (l.drop j)).1=6:=by
 have m:=jQ (l:=l) (i:=j) SX;have p:[c]=(l.drop j).take (jq (l.drop j)):=by rw[kP _ m];exact h.symm
 obtain⟨d1,d2,d3⟩:=qB hc;rcases kZ _ _ p with⟨_,a⟩|⟨_,_,b⟩|⟨_,_,_,_,_,x,r,e,f⟩|⟨_,_,_,_,d⟩|⟨a,_⟩|⟨a,_⟩
 ·rw[iB d1]at a;cases a
 ·rw[iK d3]at b;cases b
 ·injection e with e1 e2;rw[<-e1,d2]at f;cases f
 ·obtain⟨x,r,e,f⟩:=wT d;injection e with e1 e2;rw[<-e1,d2]at f;cases f
 ·exact a
 omega
def Ea(l:a_)(j:Nat)(a b:UInt8)(z:jl a=true)(hb:jl b=true):fY l j [a,b]=(tx l j==[a]||tx l j==[b]):=by
 have h1:=λ(c:UInt8) (hc:jl c=true) (h:tx l j=[c])=>FP hc h;unfold fY;generalize tx l j=t at h1;rcases t with _|⟨c,_|⟨d,r⟩⟩
 ·rfl
 ·have hi:=GH [a,b] c;show((bY.tok _).1==6&&decide _)=([c]==[a]||[c]==[b]);by_cases hx:c=a\/c=b
  ·have p:(bY.tok (l.drop j)).1=6:=by
    rcases hx with rfl|rfl
    ·exact h1 c z rfl
    exact h1 c hb rfl
   have m:=hi.2 (by simpa using hx);rw[p,aS m];rcases hx with rfl|rfl<;>simp
  have m:¬0<=Lib.indexByte [a,b] c:=λh=>hx (by simpa using hi.1 h);rw[aF m];have:c≠a/\c≠b:=⟨λe=>hx (Or.inl e),λe=>hx (Or.inr e)⟩;simp[this.1,this.2]
 simp
def vk{e m x1 b:Nat}{t1 t2:bY.T}(h1:nB D e x1 t1)(p:Ext D u)(h2:nB u m b t2)(z:d.op=(((tx l j).headD 0).toNat:Int))(hx:d.x=x1)(hy:d.y=b):nB (u++[d]) (max e m+1) u.length (iT l j [t1] [t2]):=by
 unfold nB;have r:(iT l j [t1] [t2]).cq=1:=rfl;rw[ag r];refine⟨d,x1,b,ie u d,z,hx,hy,?_,?_⟩
 ·exact(p.trans (Ext.one u d)).rep h1 (Ri _ _)
 exact(Ext.one u d).rep h2 (Rk _ _)
def Eb{n b e j k x1 m:Nat}{st:Except (Nat×Nat) Nat}(h1:Is l n 1 b e st j D x1)(p:Ext D u)(r:fY l j [60,61]=true)(h2:Is l n 1 b e (.ok (fC l j)) k u m)(z:d.op=(((tx l j).headD 0).toNat:Int))(hx:d.x=x1)(hy:d.y=m):Is l (n+1) 0 b e st k (u++[d]) u.length:=by
 intro i hi;obtain⟨t1,E,e1,B⟩:=h1 i hi;obtain⟨t2,G,e2,C⟩:=h2 _ rfl;refine⟨_,_,?_,vk B p C z hx hy⟩;rw[PT,ag rfl,e1];show(if fY l j [60,61]=true then _ else _)=_;rw[ag r,e2];rfl
def LB{n b e j x1:Nat}{st:Except (Nat×Nat) Nat}(h1:Is l n 1 b e st j D x1)(m:¬fY l j [60,61]=true):Is l (n+1) 0 b e st j D x1:=by
 intro i hi;obtain⟨t1,p,e1,r⟩:=h1 i hi;refine⟨t1,p,?_,r⟩;rw[PT,ag rfl,e1];show(if fY l j [60,61]=true then _ else _)=_;rw[ae m]
def A0(s:ba)(j:Nat)(c:UInt8)(hx:known [c]=true)(h:tx s.1.1 j=[c])(b:0<(s.extract j (j+jq (s.1.1.drop j))).size):(s.extract j (j+jq (s.1.1.drop j)))[0]=c:=by
 have:=(mq _ _ _ hx).2 h;rw[<-kq]at this;have h2:=byte_at _ 0 b;rw[this]at h2;exact(aB h2).symm
def C8(s:ba)(G B n:Nat)(hs:s.size<=200)(H:RT s G B 103 1 n):RT s G B 65 0 (n+1):=by
 intro r m i st w c hd am ad hg h hc;have hr:∀k,bY.P _ (n+1) 0 r m k=bY.andThen _ λj=>if fY _ j [60,61]=true then bY.P _ n 1 r m (fC s.1.1 j)else .ok j:=λ_=>rfl;have h1:=H r m i st w c hd am (by simp[bY.nd]at ad ⊢;omega) hg h hc;have ai:=hg.P n 1 r m;have z:bY.andThen st (bY.P s.1.1 (n+1) 0 r m)=bY.andThen (bY.andThen st (bY.P s.1.1 n 1 r m)) λj=>if fY s.1.1 j [60,61]=true then bY.P s.1.1 n 1 r m (fC s.1.1 j)else .ok j:=by
  cases st with
  |error y=>rfl
  |ok k=>exact hr k
 rw[z];generalize bY.andThen st _=av at h1 ai;generalize ab:(bY.andThen av λj=>if fY _ j [60,61]=true then bY.P _ n 1 r m _ else .ok j)=fin;have H1:=bZ h1;go_enter func65,ntmps65;go_wp2_with fail;refine H1.Z.mono ?_;rintro e w1⟨x1,D,rfl,k1,E,b1,L,a6⟩;cases av with
 |error y =>
  have hf:=ab.symm;subst hf;obtain⟨hy,v,i1,t1,V,q2⟩:=k1.err;obtain⟨c0,c1,c2,c3,c4,c5,c6,cf⟩:=V.cells;go_wp2_with fail;go_ret;exact⟨x1,D,rfl,k1,E,b1,L,λj hj=>SH⟩
 |ok j =>
  obtain⟨a1,rfl,ax,aC⟩:=a6 j rfl;have N:=bZ aC;obtain⟨v,p,V,q2⟩:=k1.ok;obtain⟨c0,c1,c2,c3,c4,c5,c6,cf⟩:=V.cells;have hj:=ai j rfl;have T:=Ea s.1.1 j 60 61 RZ RZ;have t60:=sf s j [60] RZ;have t61:=sf s j [61] RZ;have z:(if fY s.1.1 j [60,61]=true then bY.andThen (.ok (fC s.1.1 j)) (bY.P s.1.1 n 1 r m)else .ok j)=fin:=ab;rw[T]at z;by_cases b:(tx s.1.1 j==[60]||tx s.1.1 j==[61])=true
  ·rw[ag b]at z;have a4:∃c,jl c=true/\known [c]=true/\tx s.1.1 j=[c]:=by
    rw[Ql]at b;rcases b with b|b
    ·exact⟨60,by decide,by decide,eq_of_beq b⟩
    exact⟨61,by decide,by decide,eq_of_beq b⟩
   obtain⟨P,a8,ao,M⟩:=a4;have a5:=D_ s j P ao M;have a7:=A0 s j P ao M (by rw[a5];decide);have C:Hid (fY s.1.1 j [60,61]=true/\(((tx s.1.1 j).headD 0).toNat:Int)=(P.toNat:Int)):=bZ ⟨by rw[T];exact b,by rw[M];rfl⟩;have ak:=jQ (l:=s.1.1) (i:=j) (by rw[M];simp);have a9:=fO (qx _ ak);have a2:fC s.1.1 j<=s.size:=by have:=fb s.1.1 j Sh;simpa using this
   have Z:=bZ (vh s G B m D j w1 k1 hs hj.2 ak);have bc:D.length+i_ s (.ok (fC s.1.1 j))+4<=c.length+i_ s st:=by simp only[i_]at b1 ⊢;omega
   have O:=bZ (λ(w2:QV) (k2:RX s G B m D (.ok (fC s.1.1 j)) w2)=>H r m (fC s.1.1 j) (.ok (fC s.1.1 j)) w2 D hd am (by simp[bY.nd]at ad ⊢;omega) (λa ha=>by cases ha;exact⟨af _,a2⟩) k2 RM);rw[z]at O;cases aa:(tx s.1.1 j==[60]) with
   |true =>
    rw[aa]at t60;go_wp2_with fail;refine Z.Z.mono ?_;rintro e w2⟨rfl,k2,J⟩;go_wp2_with fail;refine(O.Z _ k2).mono ?_;rintro e w3⟨x3,u,rfl,k3,K,b3,I,Y⟩;go_wp2_with fail;refine(kD s G B m u fin w3 k3 _ _ _ _ _ RM).mono ?_;rintro e w4⟨rfl,k4,X⟩;go_wp2_with fail;go_ret;refine⟨_,_,rfl,k4,E.trans (J.trans (K.trans X)),by rw[aj,aD];omega,L.then (I.then (Ex.one w3 u _ rfl) K.size) (E.trans J).size,λU S=>⟨u.length,rfl,by rw[aj,aD];omega,?_⟩⟩;obtain⟨a3,Q,ay,R⟩:=Y U S;exact Eb N.Z I.ext C.Z.1 R C.Z.2.symm rfl Q
   |false =>
    rw[aa]at t60 b;rw[QK]at b;rw[b]at t61;go_wp2_with fail;refine Z.Z.mono ?_;rintro e w2⟨rfl,k2,J⟩;go_wp2_with fail;refine(O.Z _ k2).mono ?_;rintro e w3⟨x3,u,rfl,k3,K,b3,I,Y⟩;go_wp2_with fail;refine(kD s G B m u fin w3 k3 _ _ _ _ _ RM).mono ?_;rintro e w4⟨rfl,k4,X⟩;go_wp2_with fail;go_ret;refine⟨_,_,rfl,k4,E.trans (J.trans (K.trans X)),by rw[aj,aD];omega,L.then (I.then (Ex.one w3 u _ rfl) K.size) (E.trans J).size,λU S=>⟨u.length,rfl,by rw[aj,aD];omega,?_⟩⟩;obtain⟨a3,Q,ay,R⟩:=Y U S;exact Eb N.Z I.ext C.Z.1 R C.Z.2.symm rfl Q
  rw[ae b]at z;subst z;have ap:(tx s.1.1 j==[60])=false/\(tx s.1.1 j==[61])=false:=by
   rw[Ql,not_or]at b;exact⟨by simpa using b.1,by simpa using b.2⟩
  rw[ap.1]at t60;rw[ap.2]at t61;have C:Hid (¬fY s.1.1 j [60,61]=true):=bZ (by rw[T];simpa using b);go_wp2_with fail;go_ret;exact⟨_,D,rfl,k1,E,b1,L,λj' a0=>(by cases a0;exact⟨a1,rfl,ax,LB N.Z C.Z⟩)⟩
end Ref
end
