/- Out of A6. -/
import Derived.Test.YtpekpdimdelncaaGreatDoorP25
set_option linter.unusedVariables false
set_option linter.unusedSimpArgs false
set_option maxRecDepth 100000
set_option maxHeartbeats 4000000
set_option linter.defProp false
namespace Go.Proofs.YtpekpdimdelncaaGreatDoor
open Go.RowKit Go.Shelf
section
open bY
open Tryz
namespace Ref
variable{M:Nat->Prop}{ts:ba}
def wM{p:UInt8->Bool}:∀{l:a_},l.all p=true->dJ p l=l.length
 |[],_=>rfl
 |c::r,h=>by
  rw[RL,RO]at h;unfold dJ;rw[ag h.1,wM h.2];rfl
def oe(l):jF l=dB l:=by
 rw[R6];constructor
 ·intro h;have n:=h;unfold jF at h;simp only[RO,SD]at h;obtain⟨⟨h1,_,p⟩,z,_⟩:=h;have m:jD l=l.length:=by
   cases l with
   |nil=>simp at h1
   |cons c r =>
    have j:eE c=true:=Tw;have u:¬c=39:=λe=>by subst e;revert j;decide
    show(if c=39 then _ else if eE c=true then _ else _)=_;rw[ae u,ag j];exact wM z
  have y:l=l.take (jD l):=by rw[m,SC]
  rcases ln l l y with⟨_,a⟩|⟨_,_,a⟩|⟨a,_⟩|⟨_,_,_,a,_⟩|⟨_,_,_,a,_⟩|⟨_,_,_,a,_⟩
  ·cases l with
   |nil=>simp at h1
   |cons c r =>
    have j:eE c=true:=Tw;have hd:dH c=false:=by
     cases hx:dH c with
     |false=>rfl
     |true =>
      exfalso;have a:=mD.1 j;have b:=ko.1 hx;omega
    rw[iJ hd]at a;cases a
  ·cases l with
   |nil=>simp at h1
   |cons c r =>
    have j:eE c=true:=Tw;have u:¬c=39:=λe=>by subst e;revert j;decide
    rw[iV u]at a;cases a
  ·unfold dB;rw[a,<-k_ l R5,m];simp
  ·rw[n]at a;cases a
  ·rw[n]at a;cases a
  rw[n]at a;cases a
 intro h;unfold dB at h;simp at h;have m:jD l=l.length:=by rw[k_ l R5];exact h.2
 have y:l=l.take (jD l):=by rw[m,SC]
 rcases ln l l y with⟨a,_⟩|⟨a,_⟩|⟨_,_,_,a,_⟩|⟨a,_⟩|⟨a,_⟩|⟨a,_⟩
 ·omega
 ·omega
 ·exact a
 ·omega
 ·omega
 omega
abbrev Zero(w:Xa)(k:Nat):Prop:=w.1[k]?=some (.cells #[.int .i64 0,.string ⟨#[]⟩] 166 (0,0))
abbrev fill(w:Xa)(k:Nat)(c:Int)(t:ba):Xa:=(w.setCell ⟨k,0,none⟩ (.int .i64 c)).setCell ⟨k,1,none⟩ (.string t)
def qF.fill{c:Cx}{p:Pe V}{s:LS}{nd:List (a_×Wo)}{r:Xb}{w W w':Xa}{M:Nat->Prop}{e:Ending}(h:qF c p s nd r W M e w')(u:eu M w W)(m:Zero W w.1.size)(hM:∀k,M k->k<w.1.size):∃b ts,e=.returned (.agg #[.int .i64 b,.string ts])/\Zero w' w.1.size/\qF c p s nd r w M (.returned (.agg #[.int .i64 b,.string ts])) (fill w' w.1.size b ts):=by
 obtain⟨rfl,l⟩:=h;obtain⟨b,ts,n⟩:=dw (p.run (Nn c) (s,nd)).1.1;have j:Zero w' w.1.size:=by
  obtain⟨C,_,_,_,hF⟩:=l;exact(hF.block _ (cj m) (λz=>by have:=hM _ z;omega)).trans m
 exact⟨b,ts,by rw[n],j,by rw[n],fb.post (fb.on (λ_ h=>.inl h) (λ_ h=>h) u l) (kU (af _) j _ _) (λB y=>y.bx (kU (af _) j _ _))⟩
def ES.fill{c:Cx}{s:LS}{nd:List (a_×Wo)}{f:Nat}{j:Xb}{w W:Xa}(h:ES c s nd f j w M)(b:Xc w W)(e:Zero W w.1.size){r:Wo}{tc:Int}(m:dC r=.agg #[.int .i64 tc,.string ts]):qF c (.ret (r,f)) s nd j w M (.returned (.agg #[.int .i64 tc,.string ts])) (Ref.fill W w.1.size tc ts) :=⟨by rw[<-m];rfl,fb.post (fb.pre b (fb.refl (h.below b))) (kU (af _) e _ _) (λn l=>l.bx (kU (af _) e _ _))⟩
def GX(c v x w M s nd f D)(hx:Tx x v)(G:L3 v)(h:ES c s nd f D w M)(hp:Pu c s nd (f+1)):Calls prog 237 #[ptr c.rb,ptr c.qb,.string x] w (qF c (match bY.keyOf v with|.ok k=>kJ k f|.error e=>.ret (.error e,f)) s nd D w M):=by
 have ao:x.size<=57500:=by rw[VO,hx];exact rJ G
 obtain⟨a,m,p,u,ks,k1,X,_⟩:=kinds G x hx R5;have hM:∀k,M k->k<w.1.size:=λk B=>h.cz.lt B;have aa:=λ(ab:ba) (B:ab.size<=200)=>(q8 c ab (dV w) M s nd f D (h.below (eg w)) hp B).mono (λe w' he=>he.fill (eu.below (eg w)) (eP w) hM);have I:=bZ (h.fill (eg w) (eP w) (r:=.error 9) (tc:=9) (ts:=⟨#[]⟩) rfl);have C:=bZ aa;have z:=bZ (X (dV w));obtain⟨Y,b1,b2,Z,b4⟩:=cX (eP w);clear aa h hp X;rcases k1 with⟨rfl,rfl,rfl,rfl,T⟩|⟨rfl,rfl,rfl,b,rfl⟩|⟨rfl,rfl,rfl,l,rfl,_⟩
 ·have B:(⟨#[107]⟩++x:ba).1.1=107::Lib.itoa a:=by
   rw[dI,hx,xo];rfl
  have ai:(⟨#[107]⟩++x:ba).size<=200:=by
   rw[VO,B];have:=nK T.1 T.2;simp;omega
  have r:=bZ (C.Z _ ai);rw[B]at r;show Calls _ _ _ _ (qF c (kJ (107::Lib.itoa a) f) s nd D w M);generalize kJ (107::Lib.itoa a) f=P at r ⊢;clear B T C I;have am:¬9223372036854775807<(⟨#[107]⟩:ba).size+x.size:=by show ¬_<1+x.size;omega
  unfold ptr at r ⊢;go_enter func237,ntmps237;go_wp2_with fail;refine b_ z.Z.1 λy j=>?_;obtain rfl:=j.symm;dsimp only;go_wp2_with fail;refine r.Z.mono ?_;rintro e w2⟨V,ts,rfl,n,E⟩;obtain⟨L,N,O,Q,R⟩:=cX n;have K:=bZ E;clear E n;dsimp only;go_wp2;exact VN (v:=.agg #[.int .i64 V,.string ts]) UL rfl K.Z
 ·obtain⟨hz,n⟩:=nS hx;have ak:=(lh G rfl).1;have U:x.size-1=b.length+1:=R5;rw[U]at n;have ad:(x.extract 1 (b.length+1)).size<=200:=by rw[VO,n];omega
  have F:=bZ (dT (x.extract 1 (b.length+1)) (dV w) R5);have r:=bZ (C.Z _ ad);rw[n,oe]at F;rw[n]at r;have S:bY.keyOf (vw b)=if dB b=true then .ok b else .error 9:=rfl;rw[S];cases J:dB b with
  |true =>
   rw[J]at F;rw[ag rfl];show Calls _ _ _ _ (qF c (kJ b f) s nd D w M);generalize kJ b f=P at r ⊢;clear J S n C I hx G U;unfold ptr at r ⊢;go_enter func237,ntmps237;go_wp2_with fail;refine b_ z.Z.1 λy j=>?_;obtain rfl:=j.symm;dsimp only;go_wp2_with fail;refine b_ z.Z.2.1 λy j=>?_;obtain rfl:=j.symm;dsimp only;go_wp2_with fail;refine b_ F.Z λy j=>?_;obtain rfl:=j;dsimp only;go_wp2_with fail;refine r.Z.mono ?_;rintro e w2⟨V,ts,rfl,n,E⟩;obtain⟨L,N,O,Q,R⟩:=cX n;have K:=bZ E;clear E n;dsimp only;go_wp2;exact VN (v:=.agg #[.int .i64 V,.string ts]) UL rfl K.Z
  |false =>
   rw[J]at F;rw[ae S4];clear J S n C r hx G U;unfold ptr;go_enter func237,ntmps237;go_wp2_with fail;refine b_ z.Z.1 λy j=>?_;obtain rfl:=j.symm;dsimp only;go_wp2_with fail;refine b_ z.Z.2.1 λy j=>?_;obtain rfl:=j.symm;dsimp only;go_wp2_with fail;refine b_ F.Z λy j=>?_;obtain rfl:=j;dsimp only;go_wp2;exact VN (v:=.agg #[.int .i64 9,.string ⟨#[]⟩]) UM rfl I.Z
 show Calls _ _ _ _ (qF c (.ret (.error 9,f)) s nd D w M);clear C;unfold ptr;go_enter func237,ntmps237;go_wp2_with fail;refine b_ z.Z.1 λy j=>?_;obtain rfl:=j.symm;dsimp only;go_wp2_with fail;refine b_ z.Z.2.1 λy j=>?_;obtain rfl:=j.symm;dsimp only;go_wp2;exact VN (v:=.agg #[.int .i64 9,.string ⟨#[]⟩]) UM rfl I.Z
end Ref
namespace Ref
variable{c:Cx}{s:LS}{f x:Nat}{j v:Xb}{M:Nat->Prop}{d:Nd}{it:Option V}{k:a_}
def DZ(w:Xa)(d:Nd):Xa:=(dV w).alloc (.cells #[.int .u8 d.op,.string d.s,.int .i64 d.x,.int .i64 d.y,.int .i64 d.z,.slice d.p d.pn d.pc] 147)
def lV(w d):Xc w (DZ w d):=(eg w).alloc (eg w).size _
def sM(w d):Zero (DZ w d) w.1.size:=(VR (dV w) _ _ (cj (eP w))).trans (eP w)
def yC(w d):(DZ w d).1[w.1.size+1]?=some (.cells #[.int .u8 d.op,.string d.s,.int .i64 d.x,.int .i64 d.y,.int .i64 d.z,.slice d.p d.pn d.pc] 147 (0,0)):=by
 have:=heap_alloc_new (dV w) (.cells #[.int .u8 d.op,.string d.s,.int .i64 d.x,.int .i64 d.y,.int .i64 d.z,.slice d.p d.pn d.pc] 147);have e:(dV w).1.size=w.1.size+1:=by unfold dV;simp
 rw[e]at this;exact this
def ES.begin{nd:List (a_×Wo)}{w:Xa}(h:ES c s nd f j w M)(hd:c.ns[x]?=some d):∃g m,(dV w).cell? ⟨c.qb,0,none⟩=some (.slice (some ⟨g,0,none⟩) c.ns.length m)/\g<(dV w).1.size/\c.qb<w.1.size/\x<(c.ns.length:Int) /\((dV w).cell? ⟨g,x*6,none⟩=some (.int .u8 d.op)/\(dV w).cell? ⟨g,x*6+1,none⟩=some (.string d.s)/\(dV w).cell? ⟨g,x*6+2,none⟩=some (.int .i64 d.x)/\(dV w).cell? ⟨g,x*6+3,none⟩=some (.int .i64 d.y)/\(dV w).cell? ⟨g,x*6+4,none⟩=some (.int .i64 d.z)/\(dV w).cell? ⟨g,x*6+5,none⟩=some (.slice d.p d.pn d.pc))/\(∀k,M k->k<w.1.size):=by
 have hM:∀k,M k->k<w.1.size:=λk u=>h.cz.lt u;have y:c.qb<w.1.size:=by obtain⟨L,z,_,_,r,_⟩:=h;exact hM _ r
 obtain⟨g,m,e,a,b,n,p,l⟩:=(h.below (eg w)).cells hd;rw[e]at n;exact⟨g,m,n,a,y,p,⟨l 0 _ rfl,l 1 _ rfl,l 2 _ rfl,l 3 _ rfl,l 4 _ rfl,l 5 _ rfl⟩,hM⟩
def ES.ret{nd:List (a_×Wo)}{w:Xa}(h:ES c s nd f j w M)(r:Wo)(e:dC r=v):∀W,Xc w W->qF c (.ret (r,f)) s nd j w M (.returned v) W :=λW b=>⟨by rw[<-e];rfl,fb.pre b (fb.refl (h.below b))⟩
def ES.QX{nd:List (a_×Wo)}{w:Xa}(h:ES c s nd f j w M):f<=400:=by
 obtain⟨_,_,_,_,_,_,_,_,_,b,_⟩:=h;exact b
def ES.P8{nd:List (a_×Wo)}{w:Xa}(h:ES c s nd (f+1) j w M):w.cell? ⟨c.qb,2,none⟩=some (.int .i64 (400-(f+1:Nat):Int))/\(∀o,w.frozen? ⟨c.qb,o,none⟩=false)/\ES c s nd f j (w.setCell ⟨c.qb,2,none⟩ (.int .i64 (400-f))) M/\eu M w (w.setCell ⟨c.qb,2,none⟩ (.int .i64 (400-f))):=by
 obtain⟨L,K,h1,h2,p,u,F,y,l,N,G,E⟩:=h;have m:∀k,k≠c.qb->(w.setCell ⟨c.qb,2,none⟩ (.int .i64 (400-f:Int))).1[k]?=w.1[k]? := λk b=>VU w ⟨c.qb,2,none⟩ k _ b;have z:=heap_setCell_same w c.qb 2 _ _ (.int .i64 (400-f:Int)) l;have B:KN w (w.setCell ⟨c.qb,2,none⟩ (.int .i64 (400-f:Int))):=λk C t D b J=>by
  have n:k≠c.qb:=λe=>by rw[e,l]at b;cases b;rcases J with h|h<;>cases h
  exact(m k n).trans b
 refine⟨by simp[World.cell?,l],λo=>by simp[World.frozen?,l],⟨L,K,h1.st (λk b=>m k (λe=>u (e▸b))) B,h2,p,u,F,λk b=>?_,z,by omega,cJ G (λg O C D r=>(m g (λe=>?_)).trans r),E.st B⟩,⟨rfl,rfl,rfl,by simp,λk b I=>m k (λe=>I (e▸p))⟩⟩
 ·by_cases n:k=c.qb
  ·subst n;exact⟨(y _ p).1,_,_,_,z,.inr (.inr (.inr (.inr (.inr rfl))))⟩
  rw[m k n];exact y k b
 rw[e,l]at r;cases r
def QY{y:Nat}{P:Nat->Pe V}(hd:c.ns[x]?=some d)(N:d.op=102)(hx:d.x=y)(H:nY c y it P 1):nY c x it (λf=>if f=0 then .ret (.error 11,f)else P (f-1)) 0:=by
 intro w M s nd f e j h _ r hi;obtain⟨g,ab,U,X,q2,q3,⟨u,z,B,C,D,E⟩,hM⟩:=h.begin hd;obtain⟨op,Y,xx,Z,zz,p,T,S,I⟩:=d;simp only at N hx u z B C D E;subst N hx;cases f with
 |zero =>
  show Calls _ _ _ _ (qF c (.ret (.error 11,0)) s nd j w M);have J:w.cell? ⟨c.qb,2,none⟩=some (.int .i64 400):=by
   obtain⟨L,vN,_,_,_,_,_,_,h7,_⟩:=h;simp[World.cell?,h7]
  have HB:=bZ (h.ret (.error 11) rfl);clear h r hi H;unfold dV at U X u z B C D E;unfold ptr;go_enter func196,ntmps196;go_wp2;exact VN (v:=.agg #[.int .i64 11,.string ⟨#[]⟩]) Uu rfl (HB.Z _ (((VM _ w).alloc (af _) _).alloc S5 _))
 |succ f =>
  show Calls _ _ _ _ (qF c (P f) s nd j w M);obtain⟨J,cf,l,hF⟩:=h.P8;obtain⟨sp,Q⟩:∃sp:Nat,(sp:Int)=400-((f+1:Nat):Int):=⟨399-f,by have:=(h.QX);omega⟩;rw[<-Q]at J;have O:(400-(f:Int))=(sp:Int)+1:=R5;rw[O]at l hF;have ai:sp<=399:=R5;have ad:¬(400:Int)<=(sp:Int):=R5;have R:(w.setCell ⟨c.qb,2,none⟩ (.int .i64 ((sp:Int)+1))).1.size=w.1.size:=S5;have b:=lV (w.setCell ⟨c.qb,2,none⟩ (.int .i64 ((sp:Int)+1))) ⟨102,Y,y,Z,zz,p,T,S,I⟩;have hZ:=sM (w.setCell ⟨c.qb,2,none⟩ (.int .i64 ((sp:Int)+1))) ⟨102,Y,y,Z,zz,p,T,S,I⟩;rw[R]at hZ;have m:=hF.trans (eu.below (L:=M) b) (λk n=>.inl n);have F:=bZ ((H _ M s nd f (e+1) j (l.below b) R5 (by rw[show f+(e+1)=f+1+e by omega];exact r) (hi.st m (λk n=>.inl n) R5)).mono (λe w' he=>he.fill m hZ hM));clear l h r hi H b hF m hM O Q hZ R;unfold dV at U X u z B C D E;unfold ptr at F ⊢;go_enter func196,ntmps196;go_wp2_with fail;refine F.Z.mono ?_;rintro e w2⟨tc,ts,rfl,K,G⟩;obtain⟨e0,e1,e2,e3,e4⟩:=cX K;have aa:=bZ G;clear G K;dsimp only;go_wp2;exact VN (v:=.agg #[.int .i64 tc,.string ts]) T9 rfl aa.Z
def QU{v:V}(hd:c.ns[x]?=some d)(b:d.op=118)(l:d.s.1.1=wr 3 v)(d0):nY c x it (λf=>.ret (.ok v,f)) d0:=by
 intro w M s nd f e j h _ D hi;obtain⟨g,I,E,F,L,N,⟨n,r,u,y,z,B⟩,hM⟩:=h.begin hd;obtain⟨op,m,O,P,Q,p,K,J,G⟩:=d;simp only at b l n r u y z B;subst b;have C:=bZ (h.ret (.ok v) (v:=.agg #[.int .i64 0,.string m]) (by show Value.agg #[.int .i64 0,str (wr 3 v)]=_;rw[lR l]));clear h D hi;unfold dV at E F n r u y z B;unfold ptr;go_enter func196,ntmps196;go_wp2;exact VN (v:=.agg #[.int .i64 0,.string m]) Uu rfl (C.Z _ (((VM _ w).alloc (af _) _).alloc S5 _))
def QZ(hd:c.ns[x]?=some d)(y:d.op=107)(m:d.s.1.1=k)(P:k.length<=200):nY c x it (λf=>kJ k f) 1:=by
 intro w M s nd f e j h u z hi;obtain⟨g,V,Q,R,Z,q3,⟨B,C,D,E,F,G⟩,hM⟩:=h.begin hd;have l:=lV w d;have b:=bZ ((q8 c d.s (DZ w d) M s nd f j (h.below l) (z.le R5) (by rw[VO,m];exact P)).mono (λe w' u=>u.fill (eu.below l) (sM w d) hM));rw[m]at b;obtain⟨op,sx,xx,yy,zz,p,Y,X,U⟩:=d;simp only at y m B C D E F G b;subst y;clear h z hi l hM;unfold dV at Q R B C D E F G;unfold ptr at b ⊢;go_enter func196,ntmps196;go_wp2_with fail;refine b.Z.mono ?_;rintro e w2⟨S,T,rfl,r,n⟩;obtain⟨J,K,L,N,O⟩:=cX r;have I:=bZ n;clear n r;dsimp only;go_wp2;exact VN (v:=.agg #[.int .i64 S,.string T]) (by simp[results,results196,go_sem,J,K,L,N,O]) rfl I.Z
def Q0{u:V}(hd:c.ns[x]?=some d)(C:d.op=110)(d0):nY c x (some u) (λf=>.ret (.ok u,f)) d0:=by
 intro w M s nd f e j h _ P hi;obtain⟨g,U,Q,R,q2,q3,⟨E,F,G,I,J,K⟩,hM⟩:=h.begin hd;obtain⟨op,sx,xx,yy,zz,p,pn,pc,S⟩:=d;simp only at C E F G I J K;subst C;have T:w.cell? ⟨c.qb,3,none⟩=some j:=by
  obtain⟨L,vN,_,_,_,_,_,_,O,_⟩:=h;simp[World.cell?,O]
 obtain⟨l,h1,h2,r,y⟩:=hi;obtain⟨_,b,rfl⟩:=y u rfl;have z:(b++[wr 3 u])[b.length]?=some (wr 3 u):=S5;have B:(b++[wr 3 u]).length=b.length+1:=S5;unfold dX at h1;rw[B]at h1 r;obtain⟨m,n,rfl⟩:∃m n,j=.slice (some ⟨m,0,none⟩) (b.length+1) n:=by
  rcases h1.2 with⟨_,Y⟩|⟨m,n,X,e,_⟩
  ·omega
  exact⟨m,n,e⟩
 have D:=V7 h1 (g:=m) rfl b.length (str (wr 3 u)) (by rw[Q6,z];rfl);rw[addr_add,aG]at D;unfold str at D;have Z:=(VT h1 m rfl).2;have N:=bZ (h.ret (.ok u) rfl);have aa:b.length<=400:=R5;clear h P h1 h2 r y z B;unfold dV at Q R E F G I J K;unfold ptr;go_enter func196,ntmps196;go_wp2_with fail
 go_region
 all_goals
  go_wp2;exact VN (v:=.agg #[.int .i64 0,.string ⟨(wr 3 u).toArray⟩]) Uu rfl (N.Z _ (((VM _ w).alloc (af _) _).alloc S5 _).drew)
end Ref
namespace Ref
variable{M M1:Nat->Prop}{c:Cx}{p:Pe V}{nd1:List (a_×Wo)}{vI:Xb}{e:Ending}{s:LS}{it:Option V}{X f:Nat}{d:Nd}
structure vY(w:Xa)(M:Nat->Prop)(W:Xa)(M1:Nat->Prop):Prop where
 Pt:∀k,M1 k->M k\/w.1.size<=k
 Z:∀k,M k->M1 k
 mK:eu M w W
 zero:Zero W w.1.size
 no:¬M1 w.1.size
def vY.below{w W b:Xa}(h:vY w M W M1)(j:Xc W b):vY w M b M1 :=⟨h.Pt,h.Z,h.mK.trans (eu.below (L:=M1) j) h.Pt,(j.block _ (cj h.zero)).trans h.zero,h.no⟩
def vY.on{w W m:Xa}{l:Nat->Prop}(h:vY w M W M1)(h2:∀k,l k->M1 k\/W.1.size<=k)(n:∀k,M1 k->l k)(hF:eu M1 W m):vY w M m l:=by
 have r:=cj h.zero;refine⟨λk j=>?_,λk j=>n k (h.Z k j),h.mK.trans hF h.Pt,(hF.block _ r h.no).trans h.zero,λj=>?_⟩
 ·rcases h2 k j with b|b
  ·exact h.Pt k b
  have:=h.mK.size;exact .inr R5
 rcases h2 _ j with b|b
 ·exact h.no b
 omega
def vY.fill{c:Cx}{p:Pe V}{s b:LS}{nd nd1:List (a_×Wo)}{f1:Nat}{r:Wo}{vI:Xb}{w W:Xa}{M M1:Nat->Prop}{tc:Int}{ts:ba}(h:vY w M W M1)(j:ES c b nd1 f1 vI W M1)(n:p.run (Nn c) (s,nd)=((r,f1),(b,nd1)))(m:dC r=.agg #[.int .i64 tc,.string ts]):qF c p s nd vI w M (.returned (.agg #[.int .i64 tc,.string ts])) (fill W w.1.size tc ts):=by
 unfold qF;rw[n];exact⟨by rw[m],fb.post (fb.on h.Pt h.Z h.mK (fb.refl j)) (kU (af _) h.zero _ _) (λu l=>l.bx (kU (af _) h.zero _ _))⟩
def qF.mid{C:LS}{w W w':Xa}(h:qF c p C nd1 vI W M1 e w')(F:vY w M W M1):∃(r:Wo) (f2:Nat) (m:LS) (l:List (a_×Wo)) (b:Nat->Prop) (n:Int) (u:ba),p.run (Nn c) (C,nd1)=((r,f2),(m,l))/\dC r=.agg #[.int .i64 n,.string u]/\e=.returned (.agg #[.int .i64 n,.string u])/\ES c m l f2 vI w' b/\vY w M w' b /\(∀it g y,jP W M1 vI it g->y<=g->jP w' b vI it y)/\(∀k o,W.1[k]?=some o->¬M1 k->w'.1[k]?=some o)/\(∀k,b k->M1 k\/W.1.size<=k)/\eu M1 W w':=by
 obtain⟨rfl,b,h1,h2,D,j⟩:=h;rcases I:p.run (Nn c) _ with⟨⟨r,f2⟩,m,l⟩;rw[I]at h1;obtain⟨n,u,B⟩:=dw r;exact⟨r,f2,m,l,b,n,u,rfl,B,by rw[B],h1,F.on h2 D j,λit g y hi E=>hi.st j h2 E,λk o z G=>(j.block k (cj z) G).trans z,h2,j⟩
def yL{w:Xa}(d)(hM:∀k,M k->k<w.1.size):vY w M (DZ w d) M :=⟨λ_ h=>.inl h,λ_ h=>h,eu.below (lV w d),sM w d,λh=>by have:=hM _ h;omega⟩
def qF.then{nd:List (a_×Wo)}{w W b:Xa}(h:qF c p s nd vI w M e W)(j:Xc W b):qF c p s nd vI w M e b :=⟨h.1,fb.post h.2 (Bx.below j) (λm l=>l.below j)⟩
structure Q2(c:Cx)(w:Xa)(M:Nat->Prop)(d:Nd)(it:Option V)(vI:Xb)(e:Nat)(p:Pe V)(s:LS)(nd:List (a_×Wo))(w1:Xa)(r:Wo)(f1:Nat)(s1:LS)(nd1:List (a_×Wo))(M1:Nat->Prop)(tc:Int)(ts:ba):Prop where
 run:p.run (Nn c) (s,nd)=((r,f1),(s1,nd1))
 told:dC r=.agg #[.int .i64 tc,.string ts]
 es:ES c s1 nd1 f1 vI w1 M1
 mid:vY w M w1 M1
 pu:Pu c s1 nd1 (f1+e)
 its:jP w1 M1 vI it (f1+e)
 l3:∀v,r=.ok v->L3 v
 ec:EC r
 node:w1.1[w.1.size+1]?=some (.cells #[.int .u8 d.op,.string d.s,.int .i64 d.x,.int .i64 d.y,.int .i64 d.z,.slice d.p d.pn d.pc] 147 (0,0))
 Q3:¬M1 (w.1.size+1)
def jw{p:Nat->Pe V}(H:nY c X it p 0)(d){w:Xa}{nd:List (a_×Wo)}{e:Nat}(h:ES c s nd f vI w M)(G:Pu c s nd (f+e))(hi:jP w M vI it (f+e))(n:pC p 0):Calls prog 196 #[ptr c.rb,ptr c.qb,.int .i64 X] (DZ w d) λy J=>∃r f1 u nd1 M1 j l,y=.returned (.agg #[.int .i64 j,.string l])/\Q2 c w M d it vI e (p f) s nd J r f1 u nd1 M1 j l:=by
 have hM:∀k,M k->k<w.1.size:=λk b=>h.cz.lt b;have m:=lV w d;refine(H _ M s nd f e vI (h.below m) (ar _) G (hi.below m)).mono ?_;intro y J P;obtain⟨r,f1,u,nd1,M1,j,l,h1,h2,K,E,L,N,O,_⟩:=P.mid (yL d hM);obtain⟨z,B,C,D⟩:=sK c e (p f) f s nd G (n.sp f) (n.pp f) (n.pe f);rw[h1]at z B C D;have F:=O _ _ (yC w d) (λb=>by have:=hM _ b;omega);have Q:¬M1 _:=λb=>by
  obtain⟨_,S,t,T,I,R⟩:=E.cz _ b;rw[F]at I;cases I;exact R.no (.inl rfl)
 exact⟨r,f1,u,nd1,M1,j,l,K,h1,h2,E,L,z,N it _ _ (hi.below m) (SF C e),B,D,F,Q⟩
def fH{w:Xa}{k:Nat}(h:w.1[k]?=some (.cells #[.int .u8 d.op,.string d.s,.int .i64 d.x,.int .i64 d.y,.int .i64 d.z,.slice d.p d.pn d.pc] 147 (0,0))):w.cell? ⟨k,0,none⟩=some (.int .u8 d.op)/\w.cell? ⟨k,1,none⟩=some (.string d.s)/\w.cell? ⟨k,2,none⟩=some (.int .i64 d.x)/\w.cell? ⟨k,3,none⟩=some (.int .i64 d.y)/\w.cell? ⟨k,4,none⟩=some (.int .i64 d.z)/\w.cell? ⟨k,5,none⟩=some (.slice d.p d.pn d.pc)/\k<w.1.size:=by
 refine⟨?_,?_,?_,?_,?_,?_,cj h⟩
 all_goals simp[World.cell?,h]
def KY(o:Int):Prop:=(o==118)=false/\(o==107)=false/\(o==110)=false/\(o==102)=false/\(o==123)=false/\(o==116)=false
def B3{x:Nat}{p P:Nat->Pe V}(hd:c.ns[x]?=some d)(m:KY d.op)(hx:d.x=X)(H:nY c X it p 0){w:Xa}{nd:List (a_×Wo)}{e:Nat}(h:ES c s nd f vI w M)(J:Pu c s nd (f+e))(hi:jP w M vI it (f+e))(L:pC p 0){ec:Nat}(b:((p f).run (Nn c) (s,nd)).1.1=.error ec)(j:(P f).run (Nn c) (s,nd)=(p f).run (Nn c) (s,nd)):Calls prog 196 #[ptr c.rb,ptr c.qb,.int .i64 x] w (qF c (P f) s nd vI w M):=by
 obtain⟨g,S,O,Q,q2,q3,⟨n,u,y,z,B,C⟩,hM⟩:=h.begin hd;have l:=bZ (jw H d h J hi L);obtain⟨op,sx,xx,yy,zz,pp,pn,pc,R⟩:=d;simp only at m hx n u y z B C l;subst hx;obtain⟨o1,o2,o3,o4,o5,o6⟩:=m;have E:=bZ (And.intro b j);unfold dV at O Q n u y z B C;unfold ptr at l ⊢;go_enter func196,ntmps196;go_wp2_with fail;refine l.Z.mono ?_;rintro T w1⟨r,f1,s1,nd1,M1,tc,ts,rfl,hF⟩;obtain⟨b,j⟩:=E.Z;have K:=hF.run;rw[K]at b j;simp only at b;subst b;have N:=hF.told;cases N;have D:=bZ (hF.mid.fill hF.es j rfl);obtain⟨Y,Z,n2,n3,n4,n5,n6⟩:=fH hF.node;obtain⟨F,b1,b2,G,I⟩:=cX hF.mid.zero;have U:((ec:Int) != 0)=true:=by rw[Q5];have:=hF.ec ec rfl;omega
 go_wp2;exact VN (v:=.agg #[.int .i64 ec,.string ⟨#[]⟩]) (by simp[results,results196,go_sem,F,b1,b2,G,I]) rfl (D.Z.then ((VM _ _).alloc (af _) _))
end Ref
namespace Ref
variable{v:V}{tc:Int}{ts:ba}{it:Option V}
def lk(h:dC (.ok v)=.agg #[.int .i64 tc,.string ts]):tc=0/\Tx ts v:=by
 cases h;exact⟨rfl,rfl⟩
def rN{b:Nat}(h:dC (.error b)=.agg #[.int .i64 tc,.string ts]):tc=b/\ts=⟨#[]⟩:=by
 cases h;exact⟨rfl,rfl⟩
def oj(h:Tx ts v)(b:L3 v):ts.size<=57500:=by rw[VO,h];exact rJ b
def D8{c:Cx}{x X Y:Nat}{p q:Nat->Pe V}{d:Nd}(hd:c.ns[x]?=some d)(U:KY d.op)(ao:(d.op==49)=false/\(d.op==91)=false/\(d.op==63)=false/\(d.op==101)=false/\(d.op==115)=false)(hx:d.x=X)(hy:d.y=Y)(H:nY c X it p 0)(H':nY c Y it q 0)(hs:pC p 0)(ay:pC q 0)(k op)(ap:(k=1/\op∈[43,45,42,47,60,61])\/(k=13/\op∈[109,120,64]))(S:d.op=(JZ k op)):nY c x it (λf=>eT (p f) λv f=>eT (q f) λu f=>.ret (bY.make op v u,f)) 0:=by
 intro w M s nd f e vI h _ Z hi;have h8:8<=w.1.size:=by obtain⟨L,vN,_,_,h3,_,_,h6,_⟩:=h;exact ah (h6 _ h3).1 (aF (h6.lt h3))
 cases j:((p f).run (Nn c) (s,nd)).1.1 with
 |error F =>
  refine B3 (P:=λf=>eT (p f) λv f=>eT (q f) λu f=>.ret (bY.make op v u,f)) hd U hx H h Z hi hs j ?_;rcases av:(p f).run (Nn c) (s,nd) with⟨⟨r,f1⟩,s1⟩;rw[av]at j;cases j;exact fN av
 |ok v =>
  obtain⟨g,a8,q0,q1,q2,q3,⟨z0,z1,z2,z3,z4,z5⟩,hM⟩:=h.begin hd;have C:=bZ (jw H d h Z hi hs);obtain⟨o,sx,xx,yy,zz,pp,pn,pc,al⟩:=d;simp only at U ao hx hy S z0 z1 z2 z3 z4 z5 C;subst hx hy;obtain⟨o1,o2,o3,o4,o5,o6⟩:=U;obtain⟨o7,o8,o9,bd,bf⟩:=ao;have HX:=bZ j;have HH:=bZ H';have P:=bZ ay;have HD:=bZ (And.intro ap S);clear h Z hi H hs j H' ay ap S;unfold dV at q0 q1 z0 z1 z2 z3 z4 z5;unfold ptr at C ⊢;go_enter func196,ntmps196;go_wp2_with fail;refine C.Z.mono ?_;rintro Q O⟨r,f1,s1,a2,M1,tc,ts,rfl,hF⟩;have j:=HX.Z;rw[hF.run]at j;simp only at j;subst j;obtain⟨rfl,aC⟩:=lk hF.told;have b:=eI O 0 ts;have ak:=hF.es.below b;have y:=hF.mid.below b;have a5:¬M1 O.1.size:=λhk=>by have:=hF.es.cz.lt hk;omega
  have z:=(b.block _ (cj hF.node)).trans hF.node;have D:=bZ ((HH.Z (h_ O 0 ts) M1 s1 a2 f1 e vI ak (ar _) hF.pu (hF.its.below b)).mono (λQ w' he=>And.intro (he.mid y) (And.intro y z)));obtain⟨n0,n1,n2,n3,n4,n5,n6⟩:=fH hF.node;have m:=bZ hF;clear hF ak y HX C b z;unfold ptr at D;dsimp only;go_wp2_with fail;refine D.Z.mono ?_;rintro Q w3⟨⟨r2,f2,s2,bc,M2,bg,l,B,N,rfl,J,n,_,K,_⟩,y,z⟩;have T:=K _ _ z m.Z.Q3;have ab:=K _ _ (oc O 0 ts) a5;obtain⟨g1,G,g3,I⟩:=sK c e (q f1) f1 s1 a2 m.Z.pu (P.Z.sp f1) (P.Z.pp f1) (P.Z.pe f1);rw[B]at G I;obtain⟨m0,m1,m2,m3,m4,m5,m6⟩:=fH (d:=⟨o,sx,X,Y,zz,pp,pn,pc,al⟩) T;obtain⟨b0,b1,b2,b3,b4⟩:=cX n.zero;obtain⟨b5,b6,b7,b8,b9⟩:=cX ab;cases ax:r2 with
  |error F =>
   subst ax;obtain⟨rfl,rfl⟩:=rN N;have a9:((F:Int) != 0)=true:=by rw[Q5];have:=I F rfl;omega
   have E:=bZ (n.fill J ((fT m.Z.run).trans (fN B)) (p:=eT (p f) λv f=>eT (q f) λu f=>.ret (bY.make op v u,f)) (s:=s) (nd:=nd) rfl);clear n J B N K y z T ab m D n0 n1 n2 n3 n4 n5 n6 g1 G g3 I;dsimp only;go_wp2;exact VN (v:=.agg #[.int .i64 F,.string ⟨#[]⟩]) Uj rfl (E.Z.then ((VM _ _).alloc (af _) _))
  |ok u =>
   subst ax;obtain⟨rfl,a0⟩:=lk N;have hv:=m.Z.l3 v rfl;have hu:=G u rfl;have a4:8<=(h_ w3 0 l).1.size:=by have:=n.mK.size;have:=(eI w3 0 l).size;omega
   have R:=J0 k op HD.Z.1 v u ts l (h_ w3 0 l) a4 hv hu aC a0 (ah (oj aC hv) S4) (ah (oj a0 hu) S4);obtain⟨a6,a7,aa⟩:=dw (bY.make op v u);rw[aa,<-HD.Z.2]at R;have E:=bZ (λw4 (b:Below (h_ w3 0 l).1.size (h_ w3 0 l) w4)=>And.intro ((n.below (eI w3 0 l)).below b).zero (((n.below (eI w3 0 l)).below b).fill ((J.below (eI w3 0 l)).below b) (p:=eT (p f) λv f=>eT (q f) λu f=>.ret (bY.make op v u,f)) (s:=s) (nd:=nd) ((fT m.Z.run).trans (fT B)) aa));have ad:=bZ R;clear n J B N K y z T ab m D R aa n0 n1 n2 n3 n4 n5 n6 g1 G g3 I;dsimp only;go_wp2_with fail;refine ad.Z.mono ?_;rintro Q w4⟨rfl,ai⟩;obtain⟨hz,am⟩:=E.Z w4 ai;obtain⟨e0,e1,e2,e3,e4⟩:=cX hz;have a3:=bZ am;clear hz am ai E ad;dsimp only;go_wp2;exact VN (v:=.agg #[.int .i64 a6,.string a7]) T9 rfl a3.Z
end Ref
namespace Ref
variable{c:Cx}{s:LS}{f x X:Nat}{j:Xb}{M:Nat->Prop}{e:Ending}{it:Option V}{p q k:Nat->Pe V}{d:Nd}
def ES.eight{nd:List (a_×Wo)}{w:Xa}(h:ES c s nd f j w M):8<=w.1.size:=by
 obtain⟨L,m,_,_,b,_,_,l,_⟩:=h;exact ah (l _ b).1 (aF (l.lt b))
def qF.last{p P:Pe V}{y:LS}{nd u:List (a_×Wo)}{w W w':Xa}{m:Nat->Prop}(h:qF c p y u j W m e w')(D:vY w M W m)(C:P.run (Nn c) (s,nd)=p.run (Nn c) (y,u)):∃b l,e=.returned (.agg #[.int .i64 b,.string l])/\Zero w' w.1.size/\qF c P s nd j w M (.returned (.agg #[.int .i64 b,.string l])) (Ref.fill w' w.1.size b l):=by
 obtain⟨r,f2,G,F,E,b,l,h1,h2,z,B,n,_⟩:=h.mid D;exact⟨b,l,z,n.zero,n.fill B (C.trans h1) h2⟩
def KZ(hd:c.ns[x]?=some d)(E:d.op=49)(hx:d.x=X)(H:nY c X it p 0)(Q:pC p 0){G:V->Wo}(I:∀(v) (x) (w),8<=w.1.size->L3 v->Tx x v->x.size<=100000->Calls prog 236 #[.string d.s,.string x] w λe w'=>e=.returned (dC (G v))/\Xc w w'):nY c x it (λf=>eT (p f) λv f=>.ret (G v,f)) 0:=by
 intro w M s nd f e j h ak O hi;cases b:((p f).run (Nn c) _).1.1 with
 |error ec =>
  refine B3 (P:=λf=>eT (p f) λv f=>.ret (G v,f)) hd (by rw[E];unfold KY;decide) hx H h O hi Q b ?_;rcases P:(p f).run (Nn c) (s,nd) with⟨⟨r,f1⟩,s1⟩;rw[P]at b;cases b;exact fN P
 |ok v =>
  obtain⟨g,ai,q0,q1,q2,q3,⟨U,Y,Z,z3,z4,z5⟩,hM⟩:=h.begin hd;have D:=bZ (jw H d h O hi Q);obtain⟨o,sx,xx,yy,zz,pp,pn,pc,al⟩:=d;simp only at E hx I U Y Z z3 z4 z5 D;subst E hx;have HX:=bZ b;have HH:=bZ I;unfold dV at q0 q1 U Y Z z3 z4 z5;unfold ptr at D ⊢;go_enter func196,ntmps196;go_wp2_with fail;refine D.Z.mono ?_;rintro m B⟨r,f1,s1,am,M1,u,l,rfl,hF⟩;have b:=HX.Z;rw[hF.run]at b;simp only at b;subst b;obtain⟨rfl,S⟩:=lk hF.told;have J:=eI B 0 l;have K:=hF.es.below J;have N:=hF.mid.below J;obtain⟨n0,n1,n2,n3,n4,n5,n6⟩:=fH hF.node;have T:=hF.l3 v rfl;have ad:=hF.run;have L:=HH.Z v l (h_ B 0 l) K.eight T S (ah (oj S T) S4);obtain⟨y,z,R⟩:=dw (G v);rw[R]at L;have HA:=bZ (L.mono (λm C (n:m=.returned (.agg #[.int .i64 y,.string z])/\Below (h_ B 0 l).1.size (h_ B 0 l) C)=>show ∃(u:Int) (F:ba),m=.returned (.agg #[.int .i64 u,.string F])/\Zero C w.1.size/\qF c (eT (p f) λv f=>.ret (G v,f)) s nd j w M (.returned (.agg #[.int .i64 u,.string F])) (fill C w.1.size u F) from⟨y,z,n.1,(N.below n.2).zero,(N.below n.2).fill (K.below n.2) (fT ad) R⟩));go_wp2_with fail;refine HA.Z.mono ?_;rintro m C⟨y,z,rfl,hz,ab⟩;obtain⟨e0,e1,e2,e3,e4⟩:=cX hz;have aa:=bZ ab;go_wp2;exact VN (v:=.agg #[.int .i64 y,.string z]) T9 rfl aa.Z
def P'(hd:c.ns[x]?=some d)(m:d.op=91)(hx:d.x=X)(H:nY c X it p 0)(D:pC p 0):nY c x it (λf=>eT (p f) λv f=>match bY.keyOf v with|.ok k=>kJ k f|.error e=>.ret (.error e,f)) 1:=by
 intro w M s nd f e j h av B hi;cases b:((p f).run (Nn c) _).1.1 with
 |error ec =>
  refine B3 (P:=λf=>eT (p f) λv f=>match bY.keyOf v with|.ok k=>kJ k f|.error e=>.ret (.error e,f)) hd (by rw[m];unfold KY;decide) hx H h B hi D b ?_;rcases C:(p f).run (Nn c) _ with⟨⟨r,f1⟩,E⟩;rw[C]at b;cases b;exact fN C
 |ok v =>
  obtain⟨g,ap,q0,q1,q2,q3,⟨G,I,J,K,L,N⟩,hM⟩:=h.begin hd;have l:=bZ (jw H d h B hi D);obtain⟨o,sx,xx,yy,zz,pp,pn,pc,al⟩:=d;simp only at m hx G I J K L N l;subst m hx;have P:=bZ b;unfold dV at q0 q1 G I J K L N;unfold ptr at l ⊢;go_enter func196,ntmps196;go_wp2_with fail;refine l.Z.mono ?_;rintro y F⟨r,f1,E,ak,Q,tc,n,rfl,hF⟩;have b:=P.Z;rw[hF.run]at b;simp only at b;subst b;obtain⟨rfl,ai⟩:=lk hF.told;have z:=eI F 0 n;have Y:=hF.es.below z;have ab:=hF.mid.below z;obtain⟨n0,n1,n2,n3,n4,n5,n6⟩:=fH hF.node;have hv:=hF.l3 v rfl;have ad:=hF.run;have u:=bZ ((GX c v n (h_ F 0 n) Q E ak f1 j ai hv Y (hF.pu.le R5)).mono (λy w4 Z=>Z.last (P:=eT (p f) λv f=>match bY.keyOf v with|.ok k=>kJ k f|.error e=>.ret (.error e,f)) (s:=s) (nd:=nd) ab (fT ad)));unfold ptr at u;go_wp2_with fail;refine u.Z.mono ?_;rintro y w4⟨am,ao,rfl,hz,aa⟩;obtain⟨R,S,T,U,V⟩:=cX hz;have O:=bZ aa;go_wp2;exact VN (v:=.agg #[.int .i64 am,.string ao]) (by simp[results,results196,go_sem,R,S,T,U,V]) rfl O.Z
def QE(hd:c.ns[x]?=some d)(U:d.op=63)(hx:d.x=X)(H:nY c X it p 0)(hs:pC p 0){Y Z:Nat}{r:Nat->Pe V}(hy:d.y=Y)(z:d.z=Z)(HY:nY c Y it q 0)(HZ:nY c Z it r 0):nY c x it (λf=>eT (p f) λv f=>match fw v with|.ok i=>if i=0 then r f else q f|.error e=>.ret (.error e,f)) 0:=by
 intro w M s nd f e j h a5 n hi;cases y:((p f).run (Nn c) _).1.1 with
 |error ec =>
  refine B3 (P:=λf=>eT (p f) λv f=>match fw v with|.ok i=>if i=0 then r f else q f|.error e=>.ret (.error e,f)) hd (by rw[U];unfold KY;decide) hx H h n hi hs y ?_;rcases ap:(p f).run (Nn c) (s,nd) with⟨⟨r,f1⟩,s1⟩;rw[ap]at y;cases y;exact fN ap
 |ok v =>
  obtain⟨g,a3,q0,q1,q2,q3,⟨z0,z1,z2,z3,z4,z5⟩,hM⟩:=h.begin hd;have I:=bZ (jw H d h n hi hs);obtain⟨o,sx,xx,yy,zz,pp,pn,pc,al⟩:=d;simp only at U hx hy z z0 z1 z2 z3 z4 z5 I;subst U hx hy z;have HX:=bZ y;have ay:=bZ HY;have aC:=bZ HZ;unfold dV at q0 q1 z0 z1 z2 z3 z4 z5;unfold ptr at I ⊢;go_enter func196,ntmps196;go_wp2_with fail;refine I.Z.mono ?_;rintro B F⟨r,f1,s1,ax,M1,tc,C,rfl,hF⟩;have y:=HX.Z;rw[hF.run]at y;simp only at y;subst y;obtain⟨rfl,av⟩:=lk hF.told;have D:=eI F 0 C;have am:=hF.es.below D;have ao:=hF.mid.below D;obtain⟨n0,n1,n2,n3,n4,n5,n6⟩:=fH hF.node;have hv:=hF.l3 v rfl;have a0:=hF.run;obtain⟨a,m,p0,u,ks,k1,HK,_⟩:=kinds hv C av (ah (oj av hv) S4);have HN:=bZ (HK (F.alloc (.cells #[.int .i64 0,.string C] 166))).1;have E:=fT (k:=λv f=>match fw v with|.ok i=>if i=0 then r f else q f|.error e=>.ret (.error e,f)) a0;have ai:=bZ (λn=>(ay.Z (h_ F 0 C) M1 s1 ax f1 e j am (ar _) hF.pu (hF.its.below D)).mono (λB w4 S=>S.last (P:=eT (p f) λv f=>match fw v with|.ok i=>if i=0 then r f else q f|.error e=>.ret (.error e,f)) (s:=s) (nd:=nd) ao n));have ak:=bZ (λn=>(aC.Z (h_ F 0 C) M1 s1 ax f1 e j am (ar _) hF.pu (hF.its.below D)).mono (λB w4 S=>S.last (P:=eT (p f) λv f=>match fw v with|.ok i=>if i=0 then r f else q f|.error e=>.ret (.error e,f)) (s:=s) (nd:=nd) ao n));obtain⟨b0,b1,b2,b3,b4⟩:=cX hF.mid.zero
  have ad:=bZ (λn=>hF.mid.fill hF.es (p:=eT (p f) λv f=>match fw v with|.ok i=>if i=0 then r f else q f|.error e=>.ret (.error e,f)) (s:=s) (nd:=nd) (r:=.error 9) (tc:=9) (ts:=⟨#[]⟩) n rfl);unfold ptr at ai ak;go_wp2_with fail;refine HN.Z.mono ?_;rintro B w2⟨rfl,a2⟩;obtain rfl:=a2.symm;rcases k1 with⟨rfl,rfl,rfl,rfl,_⟩|⟨rfl,rfl,rfl,b,rfl⟩|⟨rfl,rfl,rfl,l,rfl,_⟩
  ·by_cases R:a=0
   ·subst R;have G:=bZ (ak.Z E);go_wp2_with fail;refine G.Z.mono ?_;rintro B w4⟨aa,ab,rfl,z,T⟩;obtain⟨L,N,O,P,Q⟩:=cX z;have K:=bZ T;go_wp2;exact VN (v:=.agg #[.int .i64 aa,.string ab]) UR rfl K.Z
   have a4:(a != 0)=true:=by rw[Q5];exact R
   have G:=bZ (ai.Z (E.trans (by show(if a=0 then r f1 else q f1).run _ _=_;rw[ae R])));go_wp2_with fail;refine G.Z.mono ?_;rintro B w4⟨aa,ab,rfl,z,T⟩;obtain⟨L,N,O,P,Q⟩:=cX z;have K:=bZ T;go_wp2;exact VN (v:=.agg #[.int .i64 aa,.string ab]) UR rfl K.Z
  ·have J:=bZ (ad.Z E);go_wp2;exact VN (v:=.agg #[.int .i64 9,.string ⟨#[]⟩]) Uj rfl (J.Z.then ((VM _ _).alloc (af _) _))
  have J:=bZ (ad.Z E);go_wp2;exact VN (v:=.agg #[.int .i64 9,.string ⟨#[]⟩]) Uj rfl (J.Z.then ((VM _ _).alloc (af _) _))
def O7(k:Nat->Pe V)(f:Nat):Wo->Pe V
 |.ok v=>.ret (.ok v,f)
 |.error e=>if e=7\/e=8\/e=9\/e=10 then k f else .ret (.error e,f)
def Np{σ:Type}{N:a_->σ->Wo×σ}{p:Pe V}{s b:σ}{r:Wo}(h:p.run N s=((r,f),b)):(p5 p k).run N s=(O7 k f r).run N b:=by
 unfold p5;rw[Pg.run_bind,h];cases r<;>rfl
def P_(hd:c.ns[x]?=some d)(J:d.op=116)(hx:d.x=X)(H:nY c X it p 0)(hs:pC p 0){Y:Nat}(L:d.y=Y)(HY:nY c Y it q 0):nY c x it (λf=>p5 (p f) λf=>q f) 0:=by
 intro w M s nd f e j h av l hi;obtain⟨g,ap,q0,q1,q2,q3,⟨P,Q,R,S,T,U⟩,hM⟩:=h.begin hd;have m:=bZ (jw H d h l hi hs);obtain⟨o,sx,xx,yy,zz,pp,pn,pc,al⟩:=d;simp only at J hx L P Q R S T U m;subst J hx L;have aa:=bZ HY;unfold dV at q0 q1 P Q R S T U;unfold ptr at m ⊢;go_enter func196,ntmps196;go_wp2_with fail;refine m.Z.mono ?_;rintro F O⟨r,f1,s1,ak,M1,N,y,rfl,hF⟩;have u:=eI O N y;have ab:=hF.es.below u;have ai:=hF.mid.below u;obtain⟨n0,n1,n2,n3,n4,n5,n6⟩:=fH hF.node;have ax:=hF.run;have b:=Np (k:=q) hF.run;obtain⟨C,b1,b2,D,E⟩:=cX hF.mid.zero;have z:=bZ (λl=>hF.mid.fill hF.es (p:=p5 (p f) λf=>q f) (s:=s) (nd:=nd) l hF.told);have B:=bZ (λl=>(aa.Z (h_ O N y) M1 s1 ak f1 e j ab (ar _) hF.pu (hF.its.below u)).mono (λF w4 he=>he.last (P:=p5 (p f) λf=>q f) (s:=s) (nd:=nd) ai l));have I:=hF.ec;have K:=hF.told;unfold ptr at B;cases r with
 |ok v =>
  obtain⟨rfl,ay⟩:=lk K;have n:=bZ (z.Z b);go_wp2;exact VN (v:=.agg #[.int .i64 0,.string y]) US rfl (n.Z.then ((VM _ _).alloc (af _) _))
 |error ec =>
  obtain⟨rfl,rfl⟩:=rN K;have I:=I ec rfl;by_cases G:ec=7\/ec=8\/ec=9\/ec=10
  ·simp only[O7,ag G]at b;have V:=bZ (B.Z b);have k0:((ec:Int)==0)=false:=Tj;have aC:((ec:Int)==12)=false:=Tj;go_wp2_with fail;refine V.Z.mono ?_;rintro F w4⟨am,ao,rfl,hz,ad⟩;obtain⟨e0,e1,e2,e3,e4⟩:=cX hz;have Z:=bZ ad;go_wp2;exact VN (v:=.agg #[.int .i64 am,.string ao]) T9 rfl Z.Z
  simp only[O7,ae G]at b;have n:=bZ (z.Z b);rcases(by omega:ec=11\/ec=12)with rfl|rfl
  all_goals
   go_wp2;exact VN (v:=.agg #[.int .i64 _,.string ⟨#[]⟩]) US rfl (n.Z.then ((VM _ _).alloc (af _) _))
end Ref
namespace Ref
variable{B f k x:Nat}{M:Nat->Prop}{v vI:Xb}{l:List (a_)}{c:Cx}{s:LS}{it:Option V}{cs:Array Xb}{fz:Nat×Nat}{d:Nd}{b:List Nat}{E:bY.T->Nat->Pe V}{ts:List bY.T}
structure wQ(B:Nat)(w:Xa)(M:Nat->Prop)(v:Xb)(l:List (a_)):Prop where
 row:dX w v l
 new:∀g,v.ownBlock=some g->B<=g
 no:∀g,v.ownBlock=some g->¬M g
theorem wQ.nil(B w M):wQ B w M (.slice none 0 0) []:=⟨⟨rfl,.inl ⟨rfl,rfl⟩⟩,(λg e=>by cases e),(λg e=>by cases e)⟩
def wQ.st{w w':Xa}{j:Nat->Prop}(h:wQ B w M v l)(hF:eu M w w')(hM:∀k,j k->M k\/w.1.size<=k):wQ B w' j v l:=by
 refine⟨cJ h.row (λg e cs fz m=>(hF.block g (cj m) (h.no g e)).trans m),h.new,λg e n=>?_⟩;rcases hM g n with h1|h1
 ·exact h.no g e h1
 have:=(VT h.row g e).2;omega
def wQ.below{w w':Xa}(h:wQ B w M v l)(e:Xc w w'):wQ B w' M v l:=h.st (eu.below e) (λ_ h=>.inl h)
structure Ht(v:Xb)(w w':Xa):Prop where
 mK:eu (λk=>v.ownBlock=some k) w w'
 ty:∀g,v.ownBlock=some g->∃cs fz,w.1[g]?=some (.cells cs 9 fz)
def Ht.at{v:Xb}{w w':Xa}(h:Ht v w w'){k:Nat}{cs:Array Xb}{t:TypeId}{fz:Nat×Nat}(j:w.1[k]?=some (.cells cs t fz))(n:t≠9):w'.1[k]?=some (.cells cs t fz):=by
 refine(h.mK.block k (cj j) (λe=>?_)).trans j;obtain⟨p,r,m⟩:=h.ty k e;rw[j]at m;cases m;exact n rfl
def Ht.kn{w w':Xa}(h:Ht v w w'):KN w w':=λk cs t fz j m=>h.at j (λe=>by rcases m with rfl|rfl<;>cases e)
def Ht.es{w w':Xa}(h:Ht v w w'){nd:List (a_×Wo)}(j:ES c s nd f vI w M)(n:∀g,v.ownBlock=some g->¬M g):ES c s nd f vI w' M :=j.st (λk m=>h.mK.block k (j.cz.lt m) (λe=>n k e m)) h.kn
def Ht.mid{w W n:Xa}{m:Nat->Prop}(h:Ht v W n)(j:vY w M W m)(u:∀g,v.ownBlock=some g->w.1.size<=g):vY w M n m :=⟨j.Pt,j.Z,⟨h.mK.os.trans j.mK.os,h.mK.tape.trans j.mK.tape,h.mK.output.trans j.mK.output,ah j.mK.size h.mK.size,λk p r=>(h.mK.block k (aw p j.mK.size) (λe=>by have:=u k e;omega)).trans (j.mK.block k p r)⟩,h.at j.zero S4,j.no⟩
def Ht.its{w w':Xa}(h:Ht v w w')(hi:jP w M vI it f)(p:∀g,vI.ownBlock=some g->v.ownBlock≠some g):jP w' M vI it f:=by
 obtain⟨l,h1,h2,j,m⟩:=hi;exact⟨l,cJ h1 (λg n cs fz e=>(h.mK.block g (cj e) (p g n)).trans e),h2,j,m⟩
def wQ.push{w:Xa}(h:wQ B w M v l)(hM:Typed w M)(D:8<=w.1.size)(F:B<=w.1.size)(x)(C:l.length<=10000000):∃g y r,(Builtin.append_ #[40,40] 40 #[v,.slice (some ⟨w.1.size,0,none⟩) 1 1]).run prog (w.alloc (.cells #[.string x] 9))=.ok (.slice (some ⟨g,0,none⟩) (l.length+1) y) r/\wQ B r M (.slice (some ⟨g,0,none⟩) (l.length+1) y) (l++[x.1.1])/\Ht v w r/\(v.ownBlock=some g\/w.1.size<=g):=by
 have m:Below _ w (w.alloc (.cells #[.string x] 9)):=(VM _ w).alloc (af _) _;have h1:=h.below m;obtain⟨g,y,r,I,G,n,j,hold⟩:=iN 40 40 9 _ 1 16 underlying40 qA rfl S4 v _ _ h1.row ⟨w.1.size,0,none⟩ 1 [.string x] rfl (cell_one_new _ _ _) (λu hu=>by
  simp at hu;rw[hu];rfl) R5 Th (ah D m.size)
 refine⟨g,y,r,I,⟨?_,λk p=>?_,λk p z=>?_⟩,⟨⟨n.os,n.tape,n.output,ah m.size n.size,λk p C=>(n.block k (aw p m.size) (λe=>C e.symm)).trans (m.block k p)⟩,λg n=>cE h.row n⟩,j.imp id (λe=>by rw[e];exact m.size)⟩
 ·unfold dX;rw[aj,aZ];show r.ownsRow 8 9 1 _ _ (l.map str++[str x.1.1]);rw[dG];exact G
 ·cases p;rcases j with j|j
  ·exact h.new _ j
  rw[j];exact ah F m.size
 cases p;rcases j with j|j
 ·exact h.no _ j z
 have h1:g<w.1.size:=hM.lt z;rw[j]at h1;have:=m.size;omega
def B4(w:Xa):Xa:={w with heap:=w.1.extract 0 8}
def wQ.Nq{w:Xa}(h:wQ B w M v l)(j:8<=w.1.size):iY (B4 w) w v l:=by
 have e:(B4 w).1.size=8:=by unfold B4;simp;omega
 refine⟨h.row,λg m=>by rw[e];exact(VT h.row g m).1,⟨rfl,rfl,rfl,by rw[e];exact j,λk n=>?_⟩⟩;rw[e]at n;show w.1[k]?=(w.1.extract 0 8)[k]?;rw[Array.getElem?_extract,ag R5];simp
structure Qa(c:Cx)(w:Xa)(M:Nat->Prop)(d:Nd)(it:Option V)(vI:Xb)(e nb:Nat)(wr:Xa)(v:Xb)(k f1:Nat)(s1:LS)(nd1:List (a_×Wo))(M1:Nat->Prop)(acc:List V):Prop where
 len:acc.length=k
 es:ES c s1 nd1 f1 vI wr M1
 mid:vY w M wr M1
 pu:Pu c s1 nd1 (f1+e)
 its:jP wr M1 vI it (f1+e)
 l3:∀x∈acc,L3 x
 node:wr.1[nb]?=some (.cells #[.int .u8 d.op,.string d.s,.int .i64 d.x,.int .i64 d.y,.int .i64 d.z,.slice d.p d.pn d.pc] 147 (0,0))
 Nr:wQ w.1.size wr M1 v (acc.map (bY.wr 3))
def wR{nd:List (a_×Wo)}{w:Xa}(h:ES c s nd f vI w M){t:TypeId}(e:w.1[k]?=some (.cells cs t fz))(m:¬M6 t):¬M k:=λj=>by
 obtain⟨_,n,r,p,h1,h2⟩:=h.cz k j;rw[e]at h1;cases h1;exact m h2
def rO:¬M6 147:=λh=>h.no (.inl rfl)
def G3:¬M6 166:=λh=>h.QA rfl
def G4(w c t):(h_ w c t).1.size=w.1.size+1:=by unfold h_;simp
def ES.item{nd:List (a_×Wo)}{w:Xa}(h:ES c s nd f vI w M){a:Nat}(hd:c.ns[x]?=some d)(p:d.all=b.map (λ(a:Nat)=>(a:Int)))(u:b[k]?=some a):∃g,d.p=some ⟨g,0,none⟩/\g<w.1.size/\w.cell? ⟨g,k,none⟩=some (.int .i64 a):=by
 obtain⟨L,C,_,_,_,_,_,_,_,_,_,n⟩:=h;obtain⟨h1,h2⟩:=n.all d (aJ hd);have j:(d.all.map λa=>Value.int .i64 a)[k]?=some (.int .i64 (a:Int)):=by rw[p,Rb,Q6,u];rfl
 rcases h2.2 with⟨_,m⟩|⟨g,y,z,e,_,r,_⟩
 ·rw[R4.1 m]at j;cases j
 injection e with e _ _
 refine⟨g,e,cj r,?_⟩;have:=h2.cells (g:=g) TR k _ j;rw[addr_add,aG]at this;exact this
def O8(hd:c.ns[x]?=some d)(ho:d.op=123)(F:d.all=b.map (λ(a:Nat)=>(a:Int)))(X:b.length=ts.length)(bI:ts.length<=200)(H:∀(k a:Nat) (u),b[k]?=some a->ts[k]?=some u->nY c a it (E u) 0)(hs:∀u∈ts,pC (E u) 0):nY c x it (λf=>oP E ts [] f) 0:=by
 intro w M s nd f e vI h bF hp hi;obtain⟨g,bD,q0,q1,q2,q3,⟨z0,z1,z2,z3,z4,z5⟩,hM⟩:=h.begin hd;have aC:d.pn=ts.length:=by
  obtain⟨L,vN,_,_,_,_,_,_,_,_,_,bh⟩:=h;rw[(bh.all d (aJ hd)).1,F,aH,X]
 have ad:∀g,vI.ownBlock=some g->g<w.1.size:=λg T=>by
  obtain⟨l,h1,_⟩:=hi;exact(VT h1 g T).2
 have am:=lV w d;have bk:Qa c w M d it vI e _ _ _ 0 f s nd M [] :=⟨rfl,h.below am,yL d hM,hp,hi.below am,(λx hx=>by cases hx),yC w d,wQ.nil _ _ _⟩;have H0:Hid (Qa c w M d it vI e (w.1.size+1) (DZ w d) (.slice none 0 0) 0 f s nd M []/\(oP E ts [] f).run (Nn c) (s,nd)=(oP E (ts.drop 0) [] f).run (Nn c) (s,nd)):=bZ ⟨bk,rfl⟩;have HD:=bZ (And.intro hd (And.intro F (And.intro X (And.intro H (And.intro hs ad)))));obtain⟨o,sx,xx,yy,zz,pp,pn,pc,al⟩:=d;simp only at ho aC z0 z1 z2 z3 z4 z5;subst ho aC;unfold dV at q0 q1 z0 z1 z2 z3 z4 z5;unfold ptr;go_enter func196,ntmps196;go_wp2
 go_loopw [8,9] (λlv kv wr=>∃(k f1:Nat) (D:LS) (C:List (a_×Wo)) (O:Nat->Prop) (m:List V) (o:Option Addr) (cp:Nat),lv=.slice o k cp/\kv=.int .i64 (k:Int)/\k<=ts.length/\Hid (Qa c w M ⟨123,sx,xx,yy,zz,pp,ts.length,pc,al⟩ it vI e (w.1.size+1) wr (.slice o k cp) k f1 D C O m/\(oP E ts [] f).run (Nn c) (s,nd)=(oP E (ts.drop k) m f1).run (Nn c) (D,C))) (λ_ kv _=>ts.length-(intOf kv).toNat)
 case atStart=>exact⟨0,f,s,nd,M,[],none,0,rfl,rfl,ar _,H0⟩
 case round =>
  obtain⟨k,f1,D,C,O,m,oL,cL,rfl,rfl,hk,K⟩:=hrel;obtain⟨n0,n1,n2,n3,n4,n5,n6⟩:=fH K.Z.1.node;obtain⟨hd,F,X,H,hs,ad⟩:=HD.Z;by_cases ax:k<ts.length
  ·have bt:(k:Int)<(ts.length:Int):=R5;have hu:=aq ax;have av:=aU ax;generalize ts[k]=u at hu av;have bv:k<b.length:=R5;have U:=aq bv;generalize b[k]=a at U;obtain⟨j,p⟩:=K.Z;obtain⟨gi,a0,bH,ci⟩:=j.es.item hd F U;simp only at a0;subst a0;have bx:=hs u (aJ hu);have HC:=bZ ((H k a u U hu wr O D C f1 e vI j.es (ar _) j.pu j.its).mono (λz w' y=>y.mid j.mid));rw[av]at p;have HR:=bZ p;have bd:=bZ j;have N:=bZ bx;have bg:=bZ ad;unfold ptr at HC;go_wp2_with fail;refine HC.Z.mono ?_;rintro z w1⟨r2,f2,s2,a6,M2,bJ,ai,Z,a3,rfl,ao,I,bq,br,bm,bj⟩;have j:=bd.Z;obtain⟨g1,g2,g3,g4⟩:=sK c e (E u f1) f1 D C j.pu (N.Z.sp f1) (N.Z.pp f1) (N.Z.pe f1);rw[Z]at g1 g2 g3 g4;have ay:=br _ _ j.node (wR j.es j.node rO);have J:=j.Nr.st bj bm;have bp:=bq it (f1+e) (f2+e) j.its (SF g3 e);have bu:=j.l3;have hlen:=j.len;obtain⟨b0,b1,b2,b3,b4⟩:=cX I.zero;cases r2 with
   |error P =>
    obtain⟨rfl,rfl⟩:=rN a3;have bG:((P:Int) != 0)=true:=by rw[Q5];have:=g4 P rfl;omega
    have HE:=bZ (I.fill ao (p:=oP E ts [] f) (s:=s) (nd:=nd) (HR.Z.trans (fN Z)) rfl);go_wp2;exact VN (v:=.agg #[.int .i64 P,.string ⟨#[]⟩]) Uj rfl (HE.Z.then ((VM _ _).alloc (af _) _))
   |ok v =>
    obtain⟨rfl,bB⟩:=lk a3;have r:=eI w1 0 ai;have Q:=ao.below r;have bw:=I.below r;have bA:=J.below r;have n:(m.map (bY.wr 3)).length=k:=by rw[aH];exact hlen
    obtain⟨g',ak,w',R,ab,G,_⟩:=bA.push Q.cz Q.eight (ah I.mK.size r.size) ai (by rw[n];omega);rw[n,G4]at R;rw[n]at ab;unfold h_ at R;have bn:m.map (bY.wr 3)++[ai.1.1]=(m++[v]).map (bY.wr 3):=by rw[aZ,bB];rfl
    rw[bn]at ab;have bl:Qa c w M ⟨123,sx,xx,yy,zz,some ⟨gi,0,none⟩,ts.length,pc,al⟩ it vI e (w.1.size+1) w' (.slice (some ⟨g',0,none⟩) (k+1) ak) (k+1) f2 s2 a6 M2 (m++[v]) :=⟨by rw[aj,hlen];rfl,G.es Q J.no,G.mid bw J.new,g1,G.its (bp.below r) (λg T e=>by have:=bg.Z g T;have:=J.new g e;omega),ig bu (kA (g2 v rfl)),G.at ((r.block _ (cj ay)).trans ay) S4,ab⟩;have bc:=bZ (And.intro bl (HR.Z.trans (fT Z)));go_wp2_with(at_builtin;refine cW _ rfl _ _ _ _ rfl _ _ _ _ rfl rfl R ?_);refine⟨⟨k+1,f2,s2,a6,M2,m++[v],some ⟨g',0,none⟩,ak,rfl,by go_num,by omega,bc⟩,?_⟩;simp[intOf];omega
  have bt:¬(k:Int)<(ts.length:Int):=R5;obtain⟨j,p⟩:=K.Z;rw[aT R5]at p;have p:=p;have h8:=j.es.eight;have n:(m.map (bY.wr 3)).length=k:=by rw[aH];exact j.len
  have ap:=bY.iK (m:=57500) (m.map (bY.wr 3)) (λx hx=>by
   obtain⟨u,hu,rfl⟩:=aE.1 hx;exact rJ (j.l3 u hu))
  rw[n]at ap;have bE:=ah ap (Rt 57501 R5);have Y:=pq (l:=m.map (bY.wr 3)) (o:=oL) (c:=cL) (w0:=B4 wr) (w:=wr) (by rw[n];exact j.Nr.Nq h8) R5 R5;rw[n]at Y;obtain⟨t,a4⟩:∃t:ba,(⟨(il (m.map (bY.wr 3))).toArray⟩:ba)=t:=⟨_,rfl⟩;have a2:t.1.1=il (m.map (bY.wr 3)):=by rw[<-a4]
  have bz:str (il (m.map (bY.wr 3)))=.string t:=by rw[<-a4];rfl
  rw[bz]at Y;have S:=uj t wr h8 (by rw[VO,a2];unfold il;simp;omega);rw[a2,vE j.l3,pY]at S;obtain⟨tc,a7,a5⟩:=dw (en m);rw[a5]at S;have bf:=bZ Y;have a9:=bZ (S.mono (λz w4 (y:z=.returned (.agg #[.int .i64 tc,.string a7])/\Xc wr w4)=>And.intro y.1 (And.intro (j.mid.below y.2).zero ((j.mid.below y.2).fill (j.es.below y.2) p a5))));go_wp2_with fail;refine bf.Z.mono ?_;rintro z w2⟨rfl,bC⟩;obtain rfl:=bC.symm;go_wp2_with fail;refine a9.Z.mono ?_;rintro z w4⟨rfl,hz,bo⟩;obtain⟨e0,e1,e2,e3,e4⟩:=cX hz;have a8:=bZ bo;go_wp2;exact VN (v:=.agg #[.int .i64 tc,.string a7]) T9 rfl a8.Z
end Ref
end
section
open bY
namespace Ref
variable{c:Cx}{s:LS}{f B f2:Nat}{m:Xb}{M:Nat->Prop}{l:List (a_)}{o:Option Addr}{x:a_}{q:V->Nat->Pe V}{a:V}{r j:List V}{e:Ending}
def ES.D9{nd:List (a_×Wo)}{w:Xa}(h:ES c s nd f m w M)(v):w.cell? ⟨c.qb,3,none⟩=some m/\(∀o,w.frozen? ⟨c.qb,o,none⟩=false)/\c.qb<w.1.size/\ES c s nd f v (w.setCell ⟨c.qb,3,none⟩ v) M/\eu M w (w.setCell ⟨c.qb,3,none⟩ v)/\(∀(k:Nat) (n) (t) (p),w.1[k]?=some (.cells n t p)->t≠287->(w.setCell ⟨c.qb,3,none⟩ v).1[k]?=some (.cells n t p)):=by
 obtain⟨L,R,h1,h2,u,E,K,C,y,N,O,J⟩:=h;have z:∀k,k≠c.qb->(w.setCell ⟨c.qb,3,none⟩ v).1[k]?=w.1[k]? := λk b=>VU w ⟨c.qb,3,none⟩ k _ b;have F:=heap_setCell_same w c.qb 3 _ _ v y;have hty:∀(k:Nat) (n:Array Xb) (t:TypeId) (p:Nat×Nat),w.1[k]?=some (.cells n t p)->t≠287->(w.setCell ⟨c.qb,3,none⟩ v).1[k]?=some (.cells n t p):=λk n t p b D=>(z k (λe=>by rw[e,y]at b;cases b;exact D rfl)).trans b;have G:KN w (w.setCell ⟨c.qb,3,none⟩ v):=λk n t p b D=>hty k n t p b (λe=>by rcases D with rfl|rfl<;>cases e);refine⟨by simp[World.cell?,y],λo=>by simp[World.frozen?,y],C.lt u,⟨L,R,h1.st (λk b=>z k (λe=>E (e▸b))) G,h2,u,E,K,λk b=>?_,F,N,cJ O (λg S n p P=>hty g n _ p P S4),J.st G⟩,⟨rfl,rfl,rfl,by simp,λk b Q=>z k (λe=>Q (e▸u))⟩,hty⟩;by_cases I:k=c.qb
 ·subst I;exact⟨(C _ u).1,_,_,_,F,.inr (.inr (.inr (.inr (.inr rfl))))⟩
 rw[z k I];exact C k b
def wQ.but{w w':Xa}{v n:Xb}(h:wQ B w M v l)(p:Ht n w w')(y:∀g,v.ownBlock=some g->n.ownBlock≠some g):wQ B w' M v l :=⟨cJ h.row (λg u z C b=>(p.mK.block g (cj b) (y g u)).trans b),h.new,h.no⟩
def wQ.cell{w:Xa}{n c:Nat}(h:wQ B w M (.slice o n c) l)(b:8<=w.1.size){i:Nat}(hx:l[i]?=some x):∃g,o=some ⟨g,0,none⟩/\g<w.1.size/\w.cell? ⟨g,i,none⟩=some (str x):=(h.Nq b).cell hx
def um(b:Bool)(q:V->Nat->Pe V)(l j:List V)(f:Nat):Pe V:=if b=true then oP q l j f else lK q l j f
def Ns(b q j f):um b q [] j f=.ret (en j,f):=by cases b<;>rfl
def Nt{b:Bool}{f f2 n:Nat}{σ:Type}{N:a_->σ->Wo×σ}{s p:σ}(h:(q a f).run N s=((.error n,f2),p)):(um b q (a::r) j f).run N s=((.error n,f2),p):=by
 cases b
 ·show(lK q (a::r) j f).run N s=_;rw[lK];exact fN h
 exact fN h
def K0{v:V}{σ:Type}{N:a_->σ->Wo×σ}{s b:σ}(h:(q a f).run N s=((.ok v,f2),b)):(um true q (a::r) j f).run N s=(um true q r (j++[v]) f2).run N b:=fT h
def K1{v:V}{aC:List V}{σ:Type}{N:a_->σ->Wo×σ}{s b:σ}(h:(q a f).run N s=((.ok v,f2),b)):(um false q (a::r) aC f).run N s=(match fw v with|.ok i=>if i=0 then um false q r aC f2 else um false q r (aC++[a]) f2|.error e=>.ret (.error e,f2)).run N b:=by
 show(lK q (a::r) aC f).run N s=_;rw[lK,fT h];cases fw v<;>rfl
def qF.pre{p:Pe V}{nd:List (a_×Wo)}{w w0 w':Xa}(h:qF c p s nd m w0 M e w')(b:Xc w w0):qF c p s nd m w M e w':=⟨h.1,fb.pre b h.2⟩
def lZ(w:Xa)(d:Nd):Xa:=w.alloc (.cells #[.int .u8 d.op,.string d.s,.int .i64 d.x,.int .i64 d.y,.int .i64 d.z,.slice d.p d.pn d.pc] 147)
def wS(w d):Xc w (lZ w d):=(VM _ w).alloc (af _) _
def yM(w d):(dV (lZ w d)).1[w.1.size]?=some (.cells #[.int .u8 d.op,.string d.s,.int .i64 d.x,.int .i64 d.y,.int .i64 d.z,.slice d.p d.pn d.pc] 147 (0,0)):=by
 have h:=heap_alloc_new w (.cells #[.int .u8 d.op,.string d.s,.int .i64 d.x,.int .i64 d.y,.int .i64 d.z,.slice d.p d.pn d.pc] 147);exact(VR _ _ _ (cj h)).trans h
def yN(w d):(lZ w d).1.size=w.1.size+1:=by unfold lZ;simp
end Ref
end
section
open Tryz
namespace jU
def Qc:(prog.info? 66).map (λi=>(i.zero,i.size,i.bytes))=some (some (.agg #[.string ⟨#[]⟩,.int .i64 0,.string ⟨#[]⟩]),3,40):=S8
def Oe:(prog.info? 160).map (λi=>(i.zero,i.size,i.bytes))=some (some (.agg #[.slice none 0 0,.int .i64 0]),2,32):=S8
def sj:ur 1 113:=by
 intro w y P Q vN N L H h l n xs K hn a0 hN ab ax;obtain⟨E,B,rfl⟩:=Ref.dD K;have c2:w.cell? ⟨y,2,none⟩=some (.int .i64 (N:Int)):=cr h.eb rfl;have cf:∀o,w.frozen? ⟨y,o,none⟩=false:=λo=>fq h.eb;obtain⟨b,ak⟩:∃x:ba,str (gp (N+1))=.string x:=⟨_,rfl⟩;have ai:=λw=>wV (N+1) w R5;rw[ak,show((N+1:Nat):Int)=(N:Int)+1 from rfl]at ai;have HS:=bZ ai;have a3:∀g,(Value.slice E n B).ownBlock=some g->g<w.1.size:=λg J=>(VT K g J).2;have ay:∀g,H g->g<w.1.size:=λg J=>(h.cz g J).2.1;have bC:=cj h.eb;have p:=bZ (And.intro h (And.intro K (And.intro a0 ax)));have T:=bZ (And.intro a3 ay);have HX:=bZ ak;have a9:=bZ ab;clear h K a0 ak ai ab ax a3 ay;go_enter func113,ntmps113;go_wp2_with(go_at_call 80;refine b_ (HS.Z _) λR G=>?_);have Z:=heap_alloc_new R (.cells #[.string b,.int .i64 99,.string b] 66);have bE:w.1.size<=R.1.size:=by have:=G.size;simp at this;exact this
 obtain⟨h1,aC⟩:=L1.zero p.Z.1 p.Z.2.1 p.Z.2.2.1 (G.alloc G.size (.cells #[.string b,.int .i64 99,.string b] 66));generalize R.alloc (.cells #[.string b,.int .i64 99,.string b] 66)=C at *;generalize R.1.size=m at *;have a4:∀wr:Xa,eu (λk=>H k\/k=y\/(Value.slice E n B).ownBlock=some k) C wr->wr.1[m]?=some (.cells #[.string b,.int .i64 99,.string b] 66 (0,0)):=λwr hf=>(hf.block m (cj Z) (λhx=>by
  rcases hx with hx|hx|hx
  ·have:=T.Z.2 m hx;omega
  ·omega
  ·have:=T.Z.1 m hx;omega)).trans Z
 have am:=bZ a4;have H1:=bZ h1;have S:=bZ aC;clear h1 aC G HS c2 cf Z a4
 go_loopw [5] (λr wr=>∃i:Nat,r=.int .i64 (i:Int)/\i<=n/\Hid (L1 1 C y P Q vN N L H (.slice E n B) n xs i wr)) (λr _=>n-(intOf r).toNat)
 case atStart=>exact⟨0,rfl,ar _,H1⟩
 case round =>
  obtain⟨i,rfl,hi,F⟩:=hrel;have e:=am.Z wr F.Z.2.2;by_cases bm:i<n
  ·have bj:(i:Int)<(n:Int):=R5;obtain⟨g,c,hv,J,M,a2,D⟩:=F.Z.next bm p.Z.2.2.1 p.Z.2.1.1 (z:=3) rfl;cases hv;have bw:g≠m:=by have:=T.Z.1 g rfl;omega
   have m0:wr.cell? ⟨m,0,none⟩=some (.string b):=cr e rfl;have m1:wr.cell? ⟨m,1,none⟩=some (.int .i64 99):=cr e rfl;have O:wr.cell? ⟨m,2,none⟩=some (.string b):=cr e rfl;obtain⟨u0,y0⟩:=M 0 S4;obtain⟨u1,y1⟩:=M 1 S4;obtain⟨u2,y2⟩:=M 2 S4;rw[aR]at y0;have D:L1 1 C y P Q vN N L H (.slice (some ⟨g,0,none⟩) n B) n xs (i+1) (((wr.setCell ⟨g,i*3,none⟩ (str (gp (N+1)))).setCell ⟨g,i*3+1,none⟩ (.int .i64 99)).setCell ⟨g,i*3+2,none⟩ (str (gp (N+1)))):=D;rw[HX.Z]at D;have bd:=bZ D;clear D M e;go_wp2;refine⟨⟨i+1,by go_num,by omega,bd⟩,?_⟩;simp[intOf];omega
  have bj:¬(i:Int)<(n:Int):=R5;obtain rfl:i=n:=R5;have ao:=bZ (F.Z.nm p.Z.2.2.1 p.Z.2.1.1);clear F H1 e;go_wp2
  go_loopw [6,7] (λgv r wr=>∃j:Nat,r=.int .i64 (j:Int)/\j<=3/\(∃o c,gv=.slice o (i+j) c)/\Hid (∃bt bq H',Nm 1 C y P Q N L H (.slice E i B) (i+j) j gv bt bq H' wr)) (λ_ r _=>3-(intOf r).toNat)
  case atStart=>exact⟨0,rfl,ar _,⟨_,_,rfl⟩,bZ ⟨_,_,_,ao.Z⟩⟩
  case round =>
   clear ao;obtain⟨j,rfl,hj,⟨og,X,rfl⟩,HM⟩:=hrel;obtain⟨bF,bB,H2,hM⟩:=HM.Z;obtain⟨oN,O,cN,xN,bz,bD,c2,c3,a6,a5⟩:=hM.qp R5 (c:=4) (t:=160) rfl rfl;have ab:=a9.Z 1;have bv:8<=wr.1.size:=UU;have ap:=bZ a5;have av:=bZ a6;clear hM a5 a6 HM;by_cases bx:j<3
   ·have bk:(j:Int)<3:=R5
    go_upto_region 10 with fail
    go_cut []from 32 to 54 (λwx=>Hid (∃a8 a7 H3,Nm 1 C y P Q N L H (.slice E i B) (i+j) (j+1) (.slice og (i+j) X) a8 a7 H3 wx))
    case first =>
     go_region_law (refine fV rfl (.tmp 40) (.tmp 47) 88 rfl 160 _ 2 32 underlying88 Oe sQ S4 (.slice oN O cN) _ xN rfl (VY (w:=wr.drewN _) av.Z _) ⟨wr.1.size,0,none⟩ 1 [.slice og (i+j) X,.int .i64 ((N:Int)+1)] rfl rfl (jQ _ _ _ _) T0 R5 Th Tc ?_;intro Y V w3 ho aa ad;obtain⟨q1,⟨v0,br⟩,a2,bo⟩:=ap.Z _ w3 Y V (lU _ _ _) ho aa ad;have U:=bZ q1)
     all_goals
      go_wp2
      go_meet
      case rel=>exact U
    case rest =>
     generalize wc=z at *;obtain⟨a8,a7,H3,I⟩:=hcut.Z;have bg:8<=z.1.size:=by have:=I.mK.size;have:=S.Z.size;have:=p.Z.2.2.2;omega
     have e:=am.Z z I.mK;have bA:=cj e;have m0:z.cell? ⟨m,0,none⟩=some (.string b):=cr e rfl;have m1:z.cell? ⟨m,1,none⟩=some (.int .i64 99):=cr e rfl;have O:z.cell? ⟨m,2,none⟩=some (.string b):=cr e rfl;obtain⟨g5,bu,w5,bp,bn,bh,bl⟩:=pF (cs:=#[.string b,.int .i64 99,.string b]) I.sv R5 bg rfl (by rw[<-HX.Z];rfl) underlying62 Qc rfl rfl S4;have bc:=bZ (I.more ((VM _ z).alloc (af _) _) bn bh bl);have bf:=bZ bp;clear e
     apply_assumption
     go_wp2_with(at_builtin;refine cW _ rfl _ _ _ _ rfl _ _ _ _ rfl rfl bf.Z ?_)
     go_roundw
     case rel=>exact⟨j+1,by go_num,by omega,⟨_,_,rfl⟩,bZ ⟨_,_,_,bc.Z⟩⟩
     case measure=>simp[intOf];omega
   have bk:¬(j:Int)<3:=R5;obtain rfl:j=3:=R5
   go_upto_region 12 with fail
   go_region_law (refine fV rfl (.tmp 59) (.tmp 66) 88 rfl 160 _ 2 32 underlying88 Oe sQ S4 (.slice oN O cN) _ xN rfl (VY (w:=wr.drewN _) av.Z _) ⟨wr.1.size,0,none⟩ 1 [.slice og (i+3) X,.int .i64 ((N:Int)+1)] rfl rfl (jQ _ _ _ _) T0 R5 Th Tc ?_;intro Y V w3 ho aa ad;obtain⟨q1,⟨v0,br⟩,a2,bo⟩:=ap.Z _ w3 Y V (lU _ _ _) ho aa ad;have U:=bZ q1)
   all_goals
    go_wp2
    go_end0
    obtain⟨_,_,_,hq⟩:=U.Z;exact hq.done S.Z
end jU
end
