/- Out of Pv. -/
import Derived.Test.YtpekpdimdelncaaGreatDoorP01
set_option linter.unusedVariables false
set_option linter.defProp false
namespace Go.Proofs.YtpekpdimdelncaaGreatDoor
section
namespace bY
variable{c:UInt8}{n:Nat}{l b:a_}{i:Int}
def me:a_->a_->Int->Bool->List (a_)->List (a_)
 |[],j,_,_,e=>e++[j]
 |c::r,j,d,q,e =>
  if c=39 then me r (j++[c]) d (!q) e
  else if q=true then me r (j++[c]) d q e
  else if c=123 then me r (j++[c]) (d+1) q e
  else if c=125 then me r (j++[c]) (d-1) q e
  else if c=44/\d=0 then me r [] d q (e++[j])
  else me r (j++[c]) d q e
def gd(l:a_):List (a_):=if l=[] then[]else me l [] 0 false []
def gX(l:a_):Option (a_):=if 2<=l.length/\l.head?=some 123/\l.getLast?=some 125 then some ((l.drop 1).dropLast)else none
def xH:∀a,(∀c∈a,c≠39/\c≠123/\c≠125/\c≠44)->∀r m d j,me (a++r) m d false j=me r (m++a) d false j
 |[],_,r,m,d,j=>by simp
 |c::a,h,r,m,d,j=>by
  obtain⟨h1,h2,p,u⟩:=h c S5;rw[RC,me,ae h1,ae S5,ae h2,ae p,ae (λe=>u e.1),xH a (λx hx=>h x (aS _ hx))];simp
def AJ:∀a,(∀c∈a,c≠39)->∀r j d e,me (a++r) j d true e=me r (j++a) d true e
 |[],_,r,j,d,e=>by simp
 |c::a,h,r,j,d,e=>by
  rw[RC,me,ae (h c S5),ag rfl,AJ a (λx hx=>h x (aS _ hx))];simp
def CS(h:mP c=true):c≠39/\c≠123/\c≠125/\c≠44:=by
 refine⟨?_,?_,?_,?_⟩<;>(rintro rfl;revert h;decide)
def AK(m)(P:∀u:V,iX m u->∀(r p) (d) (j),0<=d->me (wr m u++r) p d false j=me r (p++wr m u) d false j):∀(l:List V),(∀u∈l,iX m u)->∀r p d j,0<d->me (cS (l.map (wr m))++r) p d false j=me r (p++cS (l.map (wr m))) d false j
 |[],_,r,p,d,j,hd=>by simp[cS]
 |[u],h,r,p,d,j,hd=>P u (h u S5) r p d j R5
 |u::v::l,h,r,p,d,j,hd=>by
  have e:cS ((u::v::l).map (wr m))=wr m u++44::cS ((v::l).map (wr m)):=rfl;rw[e,RU,P u (h u S5) _ _ _ _ R5,RC,me,ae S4,ae S5,ae S4,ae S4,ae (λx=>by omega),AK m P (v::l) (λx hx=>h x (aS _ hx)) _ _ _ _ hd];simp
def yX:∀n v,iX n v->∀r m d j,0<=d->me (wr n v++r) m d false j=me r (m++wr n v) d false j
 |n,⟨.inl i⟩,h,r,m,d,j,hd=>by
  have e:wr n ⟨.inl i⟩=Lib.itoa i:=Uf;rw[e];exact xH _ (λc p=>CS (j9 i c p)) r m d j
 |n,⟨.inr (.inl b)⟩,h,r,m,d,j,hd=>by
  have e:wr n ⟨.inr (.inl b)⟩=39::(b++[39]):=Uf;unfold iX at h;rw[e,RC,me,ag rfl,RU];show me (b++([39]++r)) (m++[39]) d true j=_;rw[AJ b (λc p=>(h.2 c p).2),List.singleton_append,me,ag rfl];simp
 |0,⟨.inr (.inr l)⟩,h,r,m,d,j,hd=>by
  unfold iX at h;exact h.elim
 |n+1,⟨.inr (.inr l)⟩,h,r,m,d,j,hd=>by
  have e:wr (n+1) ⟨.inr (.inr l)⟩=123::(cS (l.map (wr n))++[125]):=by rw[wr]
  unfold iX at h;rw[e,RC,me,ae S4,ae S5,ag rfl,RU,AK n (yX n) l h.2 _ _ _ _ R5,List.singleton_append,me,ae S4,ae S5,ae S4,ag rfl];simp
def xI(m):∀l v,(∀u∈v::l,iX m u)->∀p j,me (cS ((v::l).map (wr m))) p 0 false j=j++(p++wr m v)::l.map (wr m)
 |[],v,h,p,j=>by
  have:=yX m v (h v S5) [] p 0 j R5;rw[RD]at this;show me (wr m v) p 0 false j=_;rw[this,me];simp
 |u::l,v,h,p,j=>by
  have e:cS ((v::u::l).map (wr m))=wr m v++44::cS ((u::l).map (wr m)):=rfl;rw[e,yX m v (h v S5) _ _ _ _ R5,me,ae S4,ae S5,ae S4,ae S4,ag ⟨rfl,rfl⟩,xI m l u (λx hx=>h x (aS _ hx))];simp
theorem Ik{v:V}(h:iX n v):wr n v≠[]:=by
 obtain⟨x⟩:=v;rcases x with i|b|l
 ·grind [wr,tV]
 ·grind [wr]
 cases n with
 |zero=>unfold iX at h;exact h.elim
 |succ n =>
  have e:wr (n+1) ⟨.inr (.inr l)⟩=123::(cS (l.map (wr n))++[125]):=by rw[wr]
  rw[e];exact List.cons_ne_nil _ _
def nB{m:Nat}{l:List V}(h:∀u∈l,iX m u):gd (cS (l.map (wr m)))=l.map (wr m):=by
 cases l with
 |nil=>rfl
 |cons v l =>
  have j:cS ((v::l).map (wr m))≠[]:=by
   cases l with
   |nil=>exact Ik (h v S5)
   |cons u l=>exact λe=>Ik (h v S5) (List.append_eq_nil_iff.1 e).1
  unfold gd;rw[ae j,xI m l v h];rfl
def mg:∀e x,cS (e++[x])=if e=[]then x else cS e++44::x
 |[],x=>rfl
 |[a],x=>rfl
 |a::b::r,x=>by
  have:=mg (b::r) x;rw[ae S5]at this;rw[ae S5];show a++44::cS (b::r++[x])=(a++44::cS (b::r))++44::x;rw[this];simp
theorem uF:∀r j d q e,cS (me r j d q e)=if e=[]then j++r else cS e++44::(j++r)
 |[],j,d,q,e=>by rw[me,mg];simp
 |c::r,j,d,q,e=>by
  have m:∀d q,cS (me r (j++[c]) d q e)=if e=[]then j++c::r else cS e++44::(j++c::r):=λd q=>by
   rw[uF r (j++[c]) d q e];simp
  rw[me];split
  ·exact m _ _
  split
  ·exact m _ _
  split
  ·exact m _ _
  split
  ·exact m _ _
  split
  ·rename_i p;obtain⟨rfl,_⟩:=p;rw[uF,ae S5,mg];split<;>simp
  exact m _ _
theorem AL(h:l≠[]):cS (gd l)=l:=by
 grind [gd,uF]
/-! Numbers. -/
def sZ:∀l n m,iU l n=some m->∀c∈l,dH c=true
 |[],_,_,_,c,e=>by cases e
 |d::l,n,m,h,c,e=>by
  unfold iU at h;split at h
  ·rename_i hd;split at h
   ·cases h
   rcases aK.1 e with rfl|e
   ·exact hd
   exact sZ l _ m h c e
  cases h
theorem mh(h:dO l=some n):l=Lib.decDigits n/\n<=9223372036854775807:=by
 unfold dO at h;split at h
 ·cases h
 rename_i j;have hd:=sZ l 0 n h;rw[qu l 0 hd R5]at h;split at h
 ·rename_i r;cases h;have m:l≠[]:=λe=>j (.inl e);refine⟨(Ek l hd m ?_).symm,r⟩;by_cases p:l.head?=some 48
  ·refine .inr ?_;have:¬1<l.length:=λe=>j (.inr ⟨p,e⟩);have:l.length≠0:=λe=>m (R4.1 e);omega
  grind
 cases h
theorem uG(h:n<=9223372036854775807):dO (Lib.decDigits n)=some n:=by
 unfold dO;rw[ae,qu _ 0 (mQ n) R5,Ep,ag h];rintro(e|⟨m,j⟩)
 ·exact rW n e
 by_cases p:10<=n
 ·grind [Ax]
 rw[Lib.decDigits,RA R5]at j
 grind
def jd(l:a_):Option Int :=if 1<l.length/\l.head?=some 45 then
  (if l=Lib.itoa (-9223372036854775808)then some (-9223372036854775808)else match dO (l.drop 1) with|some n=>if 0<n then some (-(n:Int))else none|none=>none)
 else(dO l).map λn=>(n:Int)
theorem itoa_neg(h:i<0):Lib.itoa i=45::Lib.decDigits i.natAbs:=by
 grind [Lib.itoa]
theorem o_(h:0<=i):Lib.itoa i=Lib.decDigits i.toNat:=by
 grind [Lib.itoa]
theorem FO(l):jd l=d_ l:=by
 have B:∀i,jd l=some i->d_ l=some i:=λi h=>by
  unfold jd at h;split at h
  ·rename_i y;split at h
   ·grind [ie]
   split at h
   ·rename_i n m;split at h
    ·rename_i z;cases h;obtain⟨p,j⟩:=mh m;have E:l=45::l.drop 1:=by
      cases l with
      |nil=>cases y.2
      |cons c r =>
       have:=aB y.2;rw[this];rfl
     have e:l=Lib.itoa (-(n:Int)):=by
      grind [itoa_neg]
     grind [ie]
    cases h
   cases h
  cases m:dO l with
  |none=>rw[m]at h;cases h
  |some n =>
   rw[m]at h;cases h;obtain⟨p,j⟩:=mh m;have e:l=Lib.itoa (n:Int):=by rw[o_ R5];exact p
   rw[e];exact ie _ R5 R5
 have D:∀i,d_ l=some i->jd l=some i:=λi h=>by
  obtain⟨e,C⟩:=js h;obtain⟨z,h1⟩:=iF l i C;subst e;by_cases F:i<0
  ·grind [jd,List.drop_one,List.tail_cons,uG,ie,itoa_neg,rW]
  have e:=o_ (i:=i) R5;unfold jd;rw[ae]
  ·grind [uG]
  rintro⟨_,j⟩;rw[e]at j;have:=mQ i.toNat;cases hd:Lib.decDigits _ with
  |nil=>rw[hd]at j;cases j
  |cons c r =>
   rw[hd]at j this;have u:=this c S5;rw[aB j]at u
   revert u
   decide
 cases h:jd l with
 |some i=>exact(B i h).symm
 |none =>
  cases h2:d_ l with
  |none=>rfl
  |some i=>rw[D i h2]at h;cases h
/-! Words,lists,values. -/
def j_(l:a_):Option (a_):=if 2<=l.length/\l.length<=32/\l.head?=some 39/\l.getLast?=some 39/\(((l.drop 1).dropLast).all λc=>fW c&&!(c==39))=true then some ((l.drop 1).dropLast)else none
theorem Er{a b:UInt8}(h:2<=l.length)(h1:l.head?=some a)(h2:l.getLast?=some b):l=a::((l.drop 1).dropLast++[b]):=by
 cases l with
 |nil=>cases h1
 |cons c r =>
  have m:=aB h1;have u:r≠[]:=λe=>by rw[e]at h;simp at h
  have p:r.getLast?=some b:=by
   rw[List.getLast?_cons]at h2;cases j:r.getLast? with
   |none=>exact absurd (List.getLast?_eq_none_iff.1 j) u
   |some x=>rw[j]at h2;exact h2
  have e:r.dropLast++[b]=r:=by
   obtain⟨y,rfl⟩:=List.getLast?_eq_some_iff.1 p;rw[List.dropLast_concat]
  rw[m,List.drop_one,List.tail_cons,e]
theorem FP(h:j_ l=some b):l=39::(b++[39])/\b.length<=30/\∀c∈b,fW c=true/\c≠39:=by
 unfold j_ at h;split at h
 ·rename_i e;obtain⟨h1,h2,j,m,p⟩:=e;cases h;refine⟨Er h1 j m,?_,λc e=>?_⟩
  ·grind
  grind
 cases h
theorem rX(h1:b.length<=30)(h2:∀c∈b,fW c=true/\c≠39):j_ (39::(b++[39]))=some b:=by
 grind [j_]
theorem s8{x:a_}(h:gX l=some x):l=123::(x++[125]):=by
 grind [gX,Er]
theorem pa(x):gX (123::(x++[125]))=some x:=by
 grind [gX]
def ka(f:a_->Option V):List (a_)->Option (List V)
 |[]=>some []
 |a::r=>match f a with
  |none=>none
  |some v=>(ka f r).map (v::·)
def uH(f g):∀l:List V,(∀u∈l,f (g u)=some u)->ka f (l.map g)=some l
 |[],_=>rfl
 |u::l,h=>by
  rw[Rr,ka,h u S5,uH f g l (λx hx=>h x (aS _ hx))];rfl
def uI(f g)(P:V->Prop)(r:∀a v,f a=some v->P v/\a=g v):∀e j,ka f e=some j->(∀v∈j,P v)/\e=j.map g
 |[],j,h=>by cases h;exact⟨(λv B=>by cases B),rfl⟩
 |a::e,j,h=>by
  rw[ka]at h;cases m:f a with
  |none=>rw[m]at h;cases h
  |some v =>
   rw[m]at h;simp only at h;cases p:ka f e with
   |none=>rw[p]at h;cases h
   |some l =>
    rw[p]at h;cases h;obtain⟨h1,h2⟩:=uI f g P r e l p;obtain⟨y,z⟩:=r a v m;refine⟨λu hu=>?_,by rw[Rr,<-h2,<-z]⟩;rcases aK.1 hu with rfl|hu
    ·exact y
    exact h1 u hu
def rv:Nat->a_->Option V
 |n,l=>match d_ l with
  |some i=>some (vn i)
  |none=>match j_ l with
   |some b=>some (vw b)
   |none=>match n with
    |0=>none
    |m+1=>match gX l with
     |none=>none
     |some x=>if 12<(gd x).length then none else(ka (rv m) (gd x)).map vl
theorem p9(n l):rv n l=match d_ l with
  |some i=>some (vn i)
  |none=>match j_ l with
   |some b=>some (vw b)
   |none=>match n with
    |0=>none
    |m+1=>match gX l with
     |none=>none
     |some x=>if 12<(gd x).length then none else(ka (rv m) (gd x)).map vl:=by
 rw[rv.eq_def]
def lF(h:l.head?=some c)(j:mP c=false):d_ l=none:=by
 cases m:d_ l with
 |none=>rfl
 |some i =>
  have e:=(js m).1;have h2:=j9 i c (by rw[e];exact List.mem_of_head? h);rw[j]at h2;cases h2
def yY:∀n l v,rv n l=some v->iX n v/\l=wr n v
 |n,l,v,h=>by
  rw[p9]at h;cases j:d_ l with
  |some i =>
   rw[j]at h;cases h;obtain⟨e,y⟩:=js j;have z:=iF l i y;exact⟨by unfold iX;exact z,by unfold wr;exact e.symm⟩
  |none =>
   rw[j]at h;simp only at h;cases r:j_ l with
   |some b =>
    rw[r]at h;cases h;obtain⟨e,h1,h2⟩:=FP r;exact⟨by unfold iX;exact⟨h1,h2⟩,by unfold wr;exact e⟩
   |none =>
    rw[r]at h;simp only at h
    match n,h with
    |m+1,h =>
     simp only at h;cases hi:gX l with
     |none=>rw[hi]at h;cases h
     |some x =>
      rw[hi]at h;simp only at h;split at h
      ·cases h
      rename_i B;cases p:ka (rv m) (gd x) with
      |none=>rw[p]at h;cases h
      |some u =>
       rw[p]at h;cases h;obtain⟨h1,h2⟩:=uI (rv m) (wr m) (iX m) (λa v=>yY m a v) _ _ p;have hlen:u.length<=12:=by
        have:=congrArg List.length h2;rw[aH]at this;omega
       have hx:x=cS (u.map (wr m)):=by
        rw[<-h2];by_cases e:x=[]
        ·rw[e];rfl
        exact(AL e).symm
       refine⟨by unfold iX vl;exact⟨hlen,h1⟩,?_⟩;rw[s8 hi,hx];unfold vl;rw[wr]
theorem Es:∀n v,iX n v->rv n (wr n v)=some v
 |n,⟨.inl i⟩,h=>by
  have e:wr n ⟨.inl i⟩=Lib.itoa i:=Uf;unfold iX at h;rw[e,p9,ie i h.1 h.2];rfl
 |n,⟨.inr (.inl b)⟩,h=>by
  have e:wr n ⟨.inr (.inl b)⟩=39::(b++[39]):=Uf;unfold iX at h;rw[e,p9,lF (c:=39) rfl S4,rX h.1 h.2];rfl
 |0,⟨.inr (.inr l)⟩,h=>by
  unfold iX at h;exact h.elim
 |n+1,⟨.inr (.inr l)⟩,h=>by
  have e:wr (n+1) ⟨.inr (.inr l)⟩=123::(cS (l.map (wr n))++[125]):=by rw[wr]
  unfold iX at h;have m:j_ (123::(cS (l.map (wr n))++[125]))=none:=by
   unfold j_;rw[ae];rintro⟨_,_,j,_⟩;cases j
  rw[e,p9,lF (c:=123) rfl S4,m];simp only;rw[pa];simp only;rw[nB h.2,aH,ae R5,uH (rv n) (wr n) l (λu hu=>Es n u (h.2 u hu))];rfl
def Oi(l):sY l=rv 3 l:=by
 cases h:rv 3 l with
 |some v =>
  obtain⟨h1,h2⟩:=yY 3 l v h;rw[h2];exact Ij h1
 |none =>
  cases h2:sY l with
  |none=>rfl
  |some v =>
   obtain⟨e,j⟩:=qS h2;rw[j,Es 3 v e]at h;cases h
end bY
namespace bY
variable{m i:Nat}{b:Bool}{t l:a_}{r:RT}{f:Nat->List T->RT}{x:Nat×List T}
theorem IE{n:Nat}{b:Bool}{t:T}(h1:1<=t.cu)(h2:t.cu<=16)(e:t.cu=8\/t.parts.length=jH t.cu)(j:t.parts.length<=200)
  (p:t.cu=1->t.op∈[43,45,42,47,60,61]) (y:t.cu=13->t.op∈[109,120,64]) (z:t.cu=2->t.is.isSome=true) (B:t.cu=4->b=true)
  (C:if t.cu=15\/t.cu=16 then iy n b (t.cM 0)=true/\iy n true (t.cM 1)=true else ∀u∈t.parts,iy n b u=true):iy (n+1) b t=true:=by
 rw[iy]
 grind
def ze:∀{n:Nat}{b:Bool}{t:T},iy n b t=true->iy (n+1) b t=true
 |0,_,_,h=>by simp[iy]at h
 |n+1,b,t,h=>by
  rw[iy]at h ⊢;simp only[RO]at h ⊢;refine⟨h.1,?_⟩;have h2:=h.2;split at h2
  ·rename_i e;rw[ag e];simp only[RO]at h2 ⊢;exact⟨ze h2.1,ze h2.2⟩
  rename_i e;rw[ae e];rw[Rk]at h2 ⊢;exact λu hu=>ze (h2 u hu)
def kg{n:Nat}{t:T}(h:iy n b t=true)(e:n<=m):iy m b t=true:=by
 induction e with
 |refl=>exact h
 |step _ j=>exact ze j
def eU(h:dh r f=.ok x):∃j n,r=.ok (j,n)/\f j n=.ok x:=by
 rcases r with e|⟨j,n⟩
 ·cases h
 exact⟨j,n,rfl,h⟩
theorem qX{k:Nat}{ts us:List T}(h:eX l t i ts=.ok (k,us))(j:t≠[])(hi:i<=l.length):us=ts/\i+1<=k/\k<=l.length:=by
 have e:=lz l t i ts;rw[h]at e;have h1:=fP e.symm j hi
 grind [eX]
def One(l:a_)(m:Nat)(b:Bool)(i j:Nat)(ts:List T):Prop:=i+1<=j/\j<=l.length/\∃t,ts=[t]/\iy m b t=true
def One.exp(u:∀j e,r=.ok (j,e)->One l m b i j e)(h:dh r (eX l t)=.ok x)(y:t≠[]):One l m b i x.1 x.2:=by
 obtain⟨j,e,h1,h2⟩:=eU h;obtain⟨z,n,p⟩:=u j e h1;obtain⟨k,B⟩:=x;obtain⟨rfl,b1,b2⟩:=qX h2 y n;exact⟨by show i+1<=k;omega,b2,p⟩
def IG(l:a_)(m:Nat)(b:Bool)(k i j:Nat)(ts:List T):Prop :=i<=j/\j<=l.length/\(k=8\/ts.length=jH k)/\ts.length<=(j-i)+3/\(k=8->ts.length<=j-i) /\(if k=15\/k=16 then ∃t u,ts=[t,u]/\iy m b t=true/\iy m true u=true else ∀u∈ts,iy m b u=true)
theorem II{l:a_}{m:Nat}{b:Bool}{k i j:Nat}{ts:List T}{R F W:Nat->RT}{I:Nat->List T->RT}(h:gM l k i R F W I=.ok (j,ts))(hi:i<=l.length)(hk:2<=k)(aa:k<=16)
  (y:∀a j ts,a<=l.length->R a=.ok (j,ts)->One l m b a j ts) (hF:∀a j ts,a<=l.length->F a=.ok (j,ts)->One l m b a j ts) (X:∀a j ts,a<=l.length->W a=.ok (j,ts)->One l m true a j ts)
  (V:∀a M j ts,a<=l.length->(∀u∈M,iy m b u=true)->I a M=.ok (j,ts)->a<=j/\j<=l.length/\ts.length<=M.length+(j-a)/\∀u∈ts,iy m b u=true):IG l m b k i j ts:=by
 have one:∀k,k≠8->jH k=1->¬(k=15\/k=16)->One l m b i j ts->IG l m b k i j ts:=λk U h1 hn ⟨D,n,t,Q,L⟩=>by
  subst Q;refine⟨by omega,n,.inr T4,by simp,λh=>absurd h U,?_⟩
  grind
 unfold gM at h;split at h
 ·rename_i e;subst e;exact one 5 S4 rfl S4 (hF i j ts hi h)
 split at h
 ·rename_i e;subst e;exact one 6 S4 rfl S4 (One.exp (λj ts=>y i j ts hi) h S5)
 split at h
 ·rename_i e;subst e;exact one 7 S4 rfl S4 (One.exp (λj ts=>y i j ts hi) h S5)
 split at h
 ·rename_i e;subst e;split at h
  ·rename_i Y;cases h;have h1:=gu (nt (l:=l) (i:=i) (by rw[Y];simp));have h2:=fu l i hi;exact⟨by omega,h2,.inl rfl,by simp,λ_=>by simp,by simp⟩
  obtain⟨a,us,h1,h2⟩:=eU h;obtain⟨D,n,t,rfl,L⟩:=y i a us hi h1;obtain⟨b1,b2,S,b4⟩:=V a _ j ts n T5 h2;simp at S;refine⟨by omega,b2,.inl rfl,by omega,λ_=>by omega,?_⟩
  grind
 split at h
 ·rename_i e;subst e;obtain⟨a,t1,h1,h2⟩:=eU h;obtain⟨D,n,u1,z,L⟩:=One.exp (λj ts=>y i j ts hi) h1 S5;obtain⟨c,t2,E,G⟩:=eU h2;obtain⟨C,p,u2,B,O⟩:=One.exp (λj ts=>y a j ts n) E S5;obtain⟨d,t3,J,K⟩:=eU G;obtain⟨d1,d2,u3,P,d4⟩:=hF c d t3 p J;dsimp only at D n z C p B P;cases K;subst z B P;refine⟨by omega,d2,.inr rfl,by simp,λh=>absurd h S4,?_⟩
  grind
 split at h
 ·rename_i e;obtain⟨a,t1,h1,h2⟩:=eU h;obtain⟨_,D,n⟩:=qX h1 S5 hi;obtain⟨C,p,N⟩:=One.exp (λj ts=>y a j ts n) h2 S5;dsimp only at C p N;refine one k R5 ?_ R5 ⟨by omega,p,N⟩;rcases e with rfl|rfl|rfl<;>rfl
 split at h
 ·rename_i e;obtain⟨a,t1,h1,h2⟩:=eU h;obtain⟨_,D,n⟩:=qX h1 S5 hi;obtain⟨c,t2,E,G⟩:=eU h2;obtain⟨C,p,u1,z,O⟩:=One.exp (λj ts=>y a j ts n) E S5;obtain⟨d,t3,J,K⟩:=eU G;obtain⟨d1,d2,u2,B,d4⟩:=One.exp (λj ts=>y c j ts p) J S5;dsimp only at C p z d1 d2 B;cases K;subst z B;refine⟨by omega,d2,.inr (by rcases e with rfl|rfl<;>rfl),by simp,λh=>by omega,?_⟩
  grind
 split at h
 ·rename_i e;obtain⟨a,t1,h1,h2⟩:=eU h;obtain⟨_,D,n⟩:=qX h1 S5 hi;obtain⟨c,t2,E,G⟩:=eU h2;obtain⟨C,p,u1,z,O⟩:=One.exp (λj ts=>y a j ts n) E S5;obtain⟨d,t3,J,K⟩:=eU G;obtain⟨d1,d2,u2,B,d4⟩:=One.exp (λj ts=>X c j ts p) J S5;dsimp only at C p z d1 d2 B;cases K;subst z B;refine⟨by omega,d2,.inr (by rcases e with rfl|rfl<;>rfl),by simp,λh=>by omega,?_⟩
  grind
 cases h;have Z:jH k=0:=by
  have:k=2\/k=3\/k=4:=R5;rcases this with rfl|rfl|rfl<;>rfl
 refine⟨af _,hi,.inr (by simp[Z]),by simp,λh=>by omega,?_⟩
 grind
end bY
namespace bY
variable{l p:a_}{i:Nat}{ts:List T}
def QQ:∀l c,0<=Lib.indexByte l c->c∈l
 |[],c,h=>by simp[Lib.indexByte]at h
 |b::l,c,h=>by
  rw[Lib.indexByte]at h;by_cases e:(b==c)=true
  ·have:b=c:=T';subst this;simp
  rw[ae e]at h;split at h
  ·simp at h
  rename_i h1;have j:Lib.indexByte l c≠-1:=T_;have m:=Lib.indexByte_ge l c;exact aS _ (QQ l c R5)
def Oo(h:gq l i p=true):∃c,tx l i=[c]/\c∈p:=by
 unfold gq at h;split at h
 ·rename_i c b;simp at h;exact⟨c,b,QQ _ _ h.2⟩
 cases h
theorem mq(t b):∀x,fC t b=x->(x=0\/(4<=x/\x<=16))/\(x=4->0<b):=by
 intro x hx;unfold fC at hx;split at hx
 ·grind
 grind
theorem mr(t):∀x,jV t=x->x=0\/(5<=x/\x<=8):=by
 grind [jV]
def xQ(l i b):∀x,cu l i b=x->(x=0\/(2<=x/\x<=16))/\(x=4->0<b):=by
 intro x hx;unfold cu kindOf at hx;split at hx
 ·omega
 split at hx
 ·omega
 split at hx
 ·have:=mq _ _ _ hx;omega
 split at hx
 ·have:=mr _ _ hx;omega
 omega
def nw{i b:Nat}(h:cu l i b≠0):2<=cu l i b/\cu l i b<=16:=by
 have:=(xQ l i b _ rfl).1;omega
def LV{i b:Nat}(h:cu l i b=4):0<b:=(xQ l i b _ rfl).2 h
theorem IJ{i b:Nat}(h:cu l i b=2):(nG (l.drop i)).isSome=true:=by
 unfold cu kindOf at h;split at h
 ·grind [nG]
 exfalso;split at h
 ·omega
 split at h
 ·have:=mq _ _ _ h;omega
 split at h
 ·have:=mr _ _ h;omega
 omega
theorem CY(t):byteOf t∈[109,120,64]:=by
 grind [byteOf]
def hT:Nat->Nat
 |0=>0
 |n+1=>hT n+n+2
theorem zf{m:Nat}{b:Bool}{t u:T}(h:gq l i p=true)(e:∀c∈p,c.toNat∈[43,45,42,47,60,61])(j:iy m b t=true)(hu:iy m b u=true):iy (m+1) b (jb l i [t] [u])=true:=by
 obtain⟨c,h1,h2⟩:=Oo h;refine IE TS TS (.inr rfl) TS (λ_=>?_) TS TS TS ?_
 ·grind [jb,List.headD_cons]
 grind [jb]
theorem LW{i b j m:Nat}(F:l.length<=200)(B:cu l i b≠0)(h:IG l m (decide (0<b)) (cu l i b) (fX l i) j ts):iy (m+1) (decide (0<b)) (iB l (cu l i b) i ts)=true:=by
 have C:=nw B;obtain⟨h1,h2,z,D,E,e⟩:=h;have hlen:ts.length<=200:=by
  grind [jH]
 refine IE (by show 1<=cu l i b;omega) C.2 z hlen (λh=>?_) (λh=>?_) (λh=>IJ h) (λh=>?_) ?_
 ·have:cu l i b=1:=h;omega
 ·grind [iB,CY]
 ·simpa using LV h
 show if cu l i b=15\/cu l i b=16 then _ else _
 split at e
 ·rename_i n;rw[ag n];obtain⟨t,u,rfl,r,y⟩:=e;exact⟨r,y⟩
 rename_i n;rw[ae n];exact e
def uV{n b e m i j:Nat}{r:List T}(h:PT l n b e m i r=.ok (j,ts))(hi:i<=l.length):i+(if b<=3 then 1 else 0)<=j/\j<=l.length:=by
 have u:=pj l n b e m i r;rw[h]at u;exact kS l n b e m i j u.symm hi
def NY(l)(U:l.length<=200):∀n,(∀E D r i C j ts,E<=3->i<=l.length->PT l n E D r i C=.ok (j,ts)->One l (hT n) (decide (0<r)) i j ts) /\(∀E D r i a m j ts,(E=4\/E=5)->i<=l.length->hT n<=m->iy m (decide (0<r)) a=true->PT l n E D r i [a]=.ok (j,ts)->∃t,ts=[t]/\iy (m+n) (decide (0<r)) t=true) /\(∀D r i C m j ts,i<=l.length->hT n<=m->(∀u∈C,iy m (decide (0<r)) u=true)->PT l n 6 D r i C=.ok (j,ts)->ts.length<=C.length+(j-i)/\∀u∈ts,iy m (decide (0<r)) u=true):=by
 have Z:∀c∈([60,61]:a_),c.toNat∈[43,45,42,47,60,61]:=S4;have s2:∀c∈([43,45]:a_),c.toNat∈[43,45,42,47,60,61]:=S4;have s3:∀c∈([42,47]:a_),c.toNat∈[43,45,42,47,60,61]:=S4;intro n
 induction n with
 |zero=>exact⟨λ_ _ _ _ _ _ _ _ _ h=>by simp[PT]at h,λ_ _ _ _ _ _ _ _ _ _ _ _ h=>by simp[PT]at h,λ_ _ _ _ _ _ _ _ _ _ h=>by simp[PT]at h⟩
 |succ n Y =>
  obtain⟨B,K,Q⟩:=Y;have hh:hT (n+1)=hT n+n+2:=rfl;refine⟨?_,?_,?_⟩
  ·intro E D r i C j ts P hi h;have L:=uV h hi;rw[ag P]at L;refine⟨L.1,L.2,?_⟩;rw[PT]at h;split at h
   ·obtain⟨a,G,h1,h2⟩:=eU h;obtain⟨I,y,t,rfl,z⟩:=B _ _ _ _ _ _ _ R5 hi h1;split at h2
    ·rename_i F;obtain⟨c,vs,S,T⟩:=eU h2;obtain⟨b1,b2,u,rfl,R⟩:=B _ _ _ _ _ _ _ R5 (fu l a y) S;cases T;exact⟨_,rfl,kg (zf F Z z R) R5⟩
    cases h2;exact⟨t,rfl,kg z R5⟩
   split at h
   ·obtain⟨a,G,h1,h2⟩:=eU h;obtain⟨I,y,t,rfl,z⟩:=B _ _ _ _ _ _ _ R5 hi h1;obtain⟨u,e,hu⟩:=K _ _ _ _ _ _ _ _ (.inl rfl) y (af _) z h2;exact⟨u,e,kg hu R5⟩
   split at h
   ·obtain⟨a,G,h1,h2⟩:=eU h;obtain⟨I,y,t,rfl,z⟩:=B _ _ _ _ _ _ _ R5 hi h1;obtain⟨u,e,hu⟩:=K _ _ _ _ _ _ _ _ (.inr rfl) y (af _) z h2;exact⟨u,e,kg hu R5⟩
   split at h
   ·split at h
    ·cases h
    rename_i N;split at h
    ·cases h
    obtain⟨a,G,h1,h2⟩:=eU h;have O:=nw N;have X:=II (m:=hT n) (b:=decide _) h1 (fu l i hi) O.1 O.2 (λa j ts b h=>B _ _ _ _ _ _ _ R5 b h) (λa j ts b h=>B _ _ _ _ _ _ _ R5 b h)
     (λa j ts b h=>by have:=B _ _ _ _ _ _ _ R5 b h;simpa using this)
     (λa C j ts b J h=>by
      have h1:=uV h b;have h2:=Q _ _ _ _ _ _ _ b (af _) J h;exact⟨by omega,h1.2,h2.1,h2.2⟩)
    cases h2;exact⟨_,rfl,kg (LW U N X) R5⟩
   exfalso;omega
  ·intro E D r i a m j ts P hi V b h;rw[PT]at h;rw[ae R5,ae R5,ae R5,ae R5]at h;split at h
   ·rename_i e;subst e;split at h
    ·rename_i F;obtain⟨c,G,h1,h2⟩:=eU h;obtain⟨I,y,t,rfl,z⟩:=B _ _ _ _ _ _ _ R5 (fu l i hi) h1;obtain⟨u,e,hu⟩:=K _ _ _ _ _ _ _ _ (.inl rfl) y R5 (zf F s2 b (kg z R5)) h2;exact⟨u,e,kg hu R5⟩
    cases h;exact⟨a,rfl,kg b R5⟩
   split at h
   ·rename_i e;subst e;split at h
    ·rename_i F;obtain⟨c,G,h1,h2⟩:=eU h;obtain⟨I,y,t,rfl,z⟩:=B _ _ _ _ _ _ _ R5 (fu l i hi) h1;obtain⟨u,e,hu⟩:=K _ _ _ _ _ _ _ _ (.inr rfl) y R5 (zf F s3 b (kg z R5)) h2;exact⟨u,e,kg hu R5⟩
    cases h;exact⟨a,rfl,kg b R5⟩
   exfalso;omega
  intro D r i C m j ts hi V J h;rw[PT]at h;rw[ae R5,ae R5,ae R5,ae R5,ae R5,ae R5]at h;split at h
  ·rename_i F;obtain⟨c,G,h1,h2⟩:=eU h;have a0:=gu (nt (l:=l) (i:=i) (by rw[F];simp));obtain⟨I,y,t,rfl,z⟩:=B _ _ _ _ _ _ _ R5 (fu l i hi) h1;have a5:=uV h2 y;have M:=Q _ _ _ _ m _ _ y R5 (by
    intro u hu;rcases aL.1 hu with hu|hu
    ·exact J u hu
    ·simp at hu;subst hu;exact kg z R5) h2
   refine⟨?_,M.2⟩;have:=M.1;simp at this;omega
  obtain⟨rfl,b1,b2⟩:=qX h S5 hi;exact⟨by omega,J⟩
end bY
namespace bY
def ji:Wo->Wo->Bool
 |.ok v,.ok u=>same 3 v u
 |.error c,.error d=>c==d
 |_,_=>false
def gT:Wo->Bool
 |.ok _=>false
 |.error c=>c==12
structure gl where
 dR:Wo
 cH:List (By×Wo)
structure cC where
 value:V
 di:Option T
 came:By
 kept:Option gl
structure rS where
 key:By
 need:By
 was:Wo
 now:Wo
structure LS where
 ct:List (By×cC)
 done:List (By×Wo)
 cm:List By
 cY:List By
 du:List rS
 jr:List By
def LS.new:LS:=⟨[],[],[],[],[],[]⟩
section
variable {α:Type}
def cv(l:List (By×α))(k:By):Option α:=(l.find? λp=>p.1==k).map (·.2)
def del(l:List (By×α))(k:By):List (By×α):=l.filter λp=>!(p.1==k)
def put(l:List (By×α))(k:By)(a:α):List (By×α) :=if(cv l k).isSome then l.map λp=>if p.1==k then(k,a)else p else l++[(k,a)]
end
/-! The journal. -/
def sh(s:Nat)(c:UInt8):Nat:=(Nat.xor s c.toNat*16777619)%4294967296
def jX(l:By):Nat:=l.foldl sh 2166136261
def kh(n:Nat):UInt8:=if n<10 then UInt8.ofNat (48+n)else UInt8.ofNat (87+n)
def xg(n:Nat):By:=(List.range 8).map λi=>kh (n / 16^(7-i)%16)
def line(t:By):By:=t++32::(xg (jX t)++[10])
def ld(c:Nat):By :=if c=7 then[110,111,110,101]else if c=8 then[110,111,117,103,104,116]else if c=9 then[107,105,110,100]else if c=10 then[108,97,114,103,101]else if c=11 then[115,112,101,110,116] else[]
def gO:Wo->By
 |.ok v=>wr 3 v
 |.error c=>ld c
def ed(key:By)(t:cC):By :=match t.di with
 |.none=>[112,117,116,32]++key++32::wr 3 t.value
 |.some _=>[115,101,116,32]++key++32::t.came
def g_(n:By×Wo):By:=32::(n.1++61::gO n.2)
def dA(key:By)(k:gl):By:=[107,101,101,112,32]++key++32::gO k.dR++k.cH.flatMap g_
def LS.write(s:LS)(t:By):LS:={s with jr:=s.jr++[t]}
/-! What is brought up to date. -/
def ei(b:List (By×Wo))(k:By)(w:Wo):List (By×Wo):=if(cv b k).isSome then b else b++[(k,w)]
def da(l:List (By×cC))(k:By)(o:Option gl):List (By×cC):=l.map λp=>if p.1==k then(p.1,{p.2 with kept:=o})else p
def LS.keep(s:LS)(key:By)(k:gl):LS:={s with ct:=da s.ct key (some k)}.write (dA key k)
def LS.lX(s:LS)(key:By):LS:={s with ct:=da s.ct key none}.write ([108,111,115,101,32]++key)
def cK(h:List (By×cC))(key:By):Option gl:=(cv h key).bind (·.kept)
def hM(t:T):Nat:=hT (1605+0*t.cu)
def prog(t:T):Pg Wo:=(tr (hM t) t .none 400).dR
section
variable (j:By->LS->Wo×LS)
def eC(key:By):List (By×Wo)->LS->Option rS×LS
 |[],s=>(.none,s)
 |(k,w)::r,s=>if ji (j k s).1 w=true then eC key r (j k s).2 else(some ⟨key,k,w,(j k s).1⟩,(j k s).2)
def ep(k:By)(s:LS×List (By×Wo)):Wo×(LS×List (By×Wo)):=((j k s.1).1,((j k s.1).2,ei s.2 k (j k s.1).1))
def ia(key:By)(q:Wo×(LS×List (By×Wo))):Wo×LS :=(q.1,if gT q.1=true then(if(cK q.2.1.ct key).isSome then q.2.1.lX key else q.2.1)else q.2.1.keep key ⟨q.1,q.2.2⟩)
def f_(key:By)(t:T)(y:rS)(s:LS):Wo×LS:=ia key ((prog t).run (ep j) ({s with du:=s.du++[y]},[]))
def fg(key:By)(t:T):Option gl->LS->Wo×LS
 |.none,s=>f_ j key t ⟨key,[],.error 0,.error 0⟩ s
 |.some k,s=>match eC j key k.cH s with
  |(.none,s)=>(k.dR,s)
  |(.some y,s)=>f_ j key t y s
def dE(key:By)(s:LS):Wo×LS :=match cv s.ct key with
 |.none=>(.error 7,s)
 |.some b=>match b.di with
  |.none=>(.ok b.value,s)
  |.some t=>fg j key t b.kept s
end
def eQ(l:List By)(k:By):List By:=l.dropWhile λx=>!(x==k)
def LS.meet(s:LS)(key:By):LS:=if s.cY=[] then{s with cY:=eQ s.cm key} else s
def eY(b:By->LS->Wo×LS)(key:By)(s:LS):Wo×LS :=match cv s.done key with
 |.some w=>(w,s)
 |.none =>
  if s.cm.contains key=true then(.error 12,s.meet key)
  else
   ((b key {s with cm:=s.cm++[key]}).1,{(b key {s with cm:=s.cm++[key]}).2 with cm:=(b key {s with cm:=s.cm++[key]}).2.cm.dropLast,done:=put (b key {s with cm:=s.cm++[key]}).2.done key (b key {s with cm:=s.cm++[key]}).1})
def cG:Nat->By->LS->Wo×LS
 |0=>eY λ_ s=>(.error 11,s)
 |n+1=>eY (dE (cG n))
def LS.ask(s:LS)(key:By):Wo×LS:=cG 42 key {s with done:=[],cY:=[],du:=[]}
def LS.iD(s:LS)(key:By)(t:cC):Nat×LS :=if(cv s.ct key).isNone=true/\40<=s.ct.length then(5,s) else(0,{s with ct:=put s.ct key t}.write (ed key t))
def LS.drop(s:LS)(key:By):LS:={s with ct:=del s.ct key}.write ([100,114,111,112,32]++key)
/-! Lists of keys. -/
section
variable {α:Type}
def look_nil(k):cv ([]:List (By×α)) k=none:=rfl
theorem ee(p)(l:List (By×α))(k):cv (p::l) k=if p.1=k then some p.2 else cv l k:=by
 grind [cv]
def ta(l m:List (By×α))(k):cv (l++m) k=(cv l k).or (cv m k):=by
 induction l with
 |nil=>simp[look_nil]
 |cons p l b =>
  rw[RC,ee,ee,b];split
  ·simp
  rfl
def jz{l:List (By×α)}{k:By}:cv l k=none↔∀p∈l,p.1≠k:=by
 induction l with
 |nil=>simp[look_nil]
 |cons p l b =>
  rw[ee];by_cases h:p.1=k
  ·simp[h]
  simp[h,b]
def jI{β:Type}(f)(g:By->α->β)(b:∀p,f p=(p.1,g p.1 p.2))(l k):cv (l.map f) k=(cv l k).map (g k):=by
 induction l with
 |nil=>rfl
 |cons p l e =>
  rw[Rr,ee,ee,e,b];by_cases h:p.1=k
  ·simp[h]
  simp[h]
theorem eG(l k)(a:α)(k'):cv (put l k a) k'=if k=k' then some a else cv l k':=by
 unfold put;by_cases m:(cv l k).isSome=true
 ·rw[ag m,jI _ (λq b=>if q=k then a else b) (λp=>?_)]
  ·by_cases h:k=k'
   ·subst h;obtain⟨b,r⟩:=Su.1 m
    grind
   rw[ae h];have n:¬k'=k:=λe=>h e.symm
   simp_all
  grind
 rw[ae m,ta,ee,look_nil];have u:cv l k=none:=by
  simp_all
 grind
theorem pk(l:List (By×α))(k k'):cv (del l k) k'=if k=k' then none else cv l k':=by
 unfold del
 induction l with
 |nil=>simp[look_nil]
 |cons p l m =>
  rw[R_];by_cases h:p.1=k
  ·rw[ae (by simp[h]),m,ee];by_cases h2:k=k'
   ·simp[h2]
   have b:¬p.1=k':=λe=>h2 (h.symm.trans e);simp[h2,b]
  rw[ag (by simp[h]),ee,ee,m];by_cases h2:k=k'
  ·have b:¬p.1=k':=λe=>h (e.trans h2.symm);simp[h2,b]
  simp[h2]
end
theorem fM(l k o k'):cv (da l k o) k'=if k=k' then(cv l k').map λb=>{b with kept:=o} else cv l k':=by
 unfold da;rw[jI _ (λq b=>if q=k then{b with kept:=o} else b) (λp=>?_)]
 ·by_cases h:k=k'
  ·grind
  have m:¬k'=k:=λe=>h e.symm
  simp_all
 grind
theorem ez(l k o k'):cK (da l k o) k'=if k=k' then(cv l k').bind λ_=>o else cK l k':=by
 unfold cK;rw[fM];by_cases h:k=k'
 ·subst h;simp only[aO];cases cv l k<;>rfl
 grind
end bY
end
namespace bY
def Sp{α:Type}:Pe α->Nat->Prop
 |⟨.inl q⟩,f=>q.2<=f
 |⟨.inr (_,c)⟩,f=>1<=f/\∀w,Sp (c w) (f-1)
def Sp.le{α:Type}:∀(p:Pe α) {f g:Nat},Sp p f->f<=g->Sp p g
 |⟨.inl q⟩,f,g,h,b=>ah h b
 |⟨.inr (_,c)⟩,f,g,h,b=>⟨ah h.1 b,λw=>Sp.le (c w) (h.2 w) R5⟩
def lg{α β:Type}(d):∀p (k:α->Nat->Pe β) (f),Sp p f->(∀v b,Sp (k v b) (b+d))->Sp (eT p k) (f+d)
 |⟨.inl (.ok a,b)⟩,k,f,h,j=>(j a b).le _ (by have:b<=f:=h;omega)
 |⟨.inl (.error e,b)⟩,k,f,h,j=>by
  show b<=f+d;have:b<=f:=h;omega
 |⟨.inr (q,c)⟩,k,f,h,j=>by
  refine⟨by have:=h.1;omega,λw=>?_⟩;have:=lg d (c w) k (f-1) (h.2 w) j;have h1:=h.1;rw[show f+d-1=f-1+d by omega];exact this
def IY:∀p k f,Sp p f->(∀b,Sp (k b) b)->Sp (p5 p k) f
 |⟨.inl (.ok a,b)⟩,k,f,h,j=>h
 |⟨.inl (.error e,b)⟩,k,f,h,j=>by
  unfold p5;simp only[Pg.bind];by_cases l:e=7\/e=8\/e=9\/e=10
  ·rw[ag l];exact(j b).le _ h
  rw[ae l];exact h
 |⟨.inr (q,c)⟩,k,f,h,j=>⟨h.1,λw=>IY (c w) k (f-1) (h.2 w) j⟩
def C3{α:Type}(P)(e:∀a f,Sp (P a f) f):∀(l:List α) (b) (f),Sp (oP P l b f) f
 |[],b,f=>af f
 |a::r,b,f=>lg 0 _ _ f (e a f) λv f=>C3 P e r _ f
def zk(P)(j:∀a f,Sp (P a f) f):∀l b f,Sp (lK P l b f) f
 |[],b,f=>af f
 |a::r,b,f=>lg 0 _ _ f (j a f) λv f=>by
  cases h:fw v with
  |ok i =>
   show Sp (if i=0 then _ else _) _;by_cases m:i=0
   ·rw[ag m];exact zk P j r _ f
   rw[ae m];exact zk P j r _ f
  |error e=>exact af f
def EA(k f):Sp (kJ k f) (f+1):=⟨by omega,λw=>by show f<=f+1-1;omega⟩
def IZ(P)(b:∀a f,Sp (P a f) f)(t f):Sp (fx P t f) (f+1):=by
 unfold fx;refine lg 1 _ _ f (b _ _) λv f=>?_;split
 ·exact(lg 0 _ (λu f=>.ret (make t.op v u,f)) f (b _ _) λu f=>af f).le _ R5
 split
 ·exact RI f
 split
 ·split
  ·exact EA _ _
  exact RI f
 split
 ·split
  ·split
   ·exact(b _ _).le _ R5
   exact(b _ _).le _ R5
  exact RI f
 split
 ·exact RI f
 split
 ·exact RI f
 split
 ·exact RI f
 exact RI f
def L9(P)(b:∀a f,Sp (P a f) f)(t f)(h1:t.cu=1):Sp (fx P t f) f:=by
 unfold fx;refine lg 0 _ _ f (b _ _) λv f=>?_;rw[ag (.inl h1)];exact lg 0 _ (λu f=>.ret _) f (b _ _) λu f=>af f
def mu:∀n t b f,Sp (tr n t b f) f
 |0,_,_,f=>af f
 |n+1,t,b,f=>by
  unfold tr;by_cases h1:t.cu=1
  ·rw[ag h1];exact L9 _ (λu f=>mu n u b f) t f h1
  rw[ae h1];by_cases j:f=0
  ·rw[ag j];exact af f
  rw[ae j];have e:f-1+1=f:=R5;split
  ·exact Sb f 1
  split
  ·have:=EA t.name (f-1);rw[e]at this;exact this
  split
  ·exact Sb f 1
  split
  ·exact(IY _ _ _ (mu n _ _ _) λf=>mu n _ _ f).le _ (Sb f 1)
  split
  ·refine(lg 0 _ _ (f-1) (mu n _ _ _) λv f=>?_).le _ (Sb f 1);split
   ·exact C3 _ (λu f=>mu n _ _ f) _ _ _
   exact af f
  split
  ·refine(lg 0 _ _ (f-1) (mu n _ _ _) λv f=>?_).le _ (Sb f 1);split
   ·exact zk _ (λu f=>mu n _ _ f) _ _ _
   exact af f
  split
  ·exact(C3 _ (λu f=>mu n _ _ f) _ _ _).le _ (Sb f 1)
  have:=IZ _ (λu f=>mu n u b f) t (f-1);rw[e]at this;exact this
def I0{α σ:Type}(N)(b:σ->Nat)(e:∀k s,b (N k s).2<=b s+1):∀(p:Pe α) (f) (s),Sp p f->b (p.run N s).2+(p.run N s).1.2<=b s+f
 |⟨.inl q⟩,f,s,h=>SQ h _
 |⟨.inr (k,c)⟩,f,s,h=>by
  have h1:=I0 N b e (c (N k s).1) (f-1) (N k s).2 (h.2 _);have h2:=e k s;have j:=h.1;show b ((c (N k s).1).run N (N k s).2).2+((c (N k s).1).run N (N k s).2).1.2<=_;omega
def Ot{σ:Type}(N:By->σ->Wo×σ)(b:σ->Nat)(j:∀k s,b (N k s).2<=b s+1)(n t it e):b (ev N n t it e).2.2+(ev N n t it e).2.1<=b e.2+e.1:=by
 obtain⟨f,s⟩:=e;rw[pg];exact I0 N b j _ f s (mu n t it f)
end bY
section
namespace bY
abbrev Src:=By->Option (Sum V T)
def fR(h:List (By×cC)):Src:=λk=>(cv h k).map λb=>match b.di with|.none=>.inl b.value|.some t=>.inr t
def Jc(t):Fin (prog t):=xP _ (ky _ _ _ _)
def Rn(O:By->Wo->Prop):Pg Wo->Wo->Prop
 |⟨.inl u⟩,w=>u=w/\w≠.error 12
 |⟨.inr (k,c)⟩,w=>∃u,O k u/\Rn O (c u) w
section
variable (e:Src)
def lO(k:By)(w:Wo):Prop:=(e k=none/\w=.error 7)\/∃v,e k=some (.inl v)/\w=.ok v
def Wn:Nat->By->Wo->Prop
 |0,k,w=>lO e k w
 |n+1,k,w=>lO e k w\/∃t,e k=some (.inr t)/\Rn (Wn n) (prog t) w
def W(k:By)(w:Wo):Prop:=∃n,Wn e n k w
def Is(k:By)(w:Wo):Prop:=W e k w\/(w=.error 12/\∀u,¬W e k u)
def Gb:Pg Wo->By->Prop
 |⟨.inl _⟩,_=>False
 |⟨.inr (k,c)⟩,k'=>k=k'\/∃u,W e k u/\Gb (c u) k'
def EE(k k':By):Prop:=∃t,e k=some (.inr t)/\Gb e (prog t) k'
end
def Rn.mono{O O':By->Wo->Prop}(h:∀k u,O k u->O' k u):∀p w,Rn O p w->Rn O' p w
 |⟨.inl _⟩,_,b=>b
 |⟨.inr (k,c)⟩,w,⟨u,h1,h2⟩=>⟨u,h k u h1,Rn.mono h (c u) w h2⟩
def Rn.mU{O:By->Wo->Prop}:∀p w,Rn O p w->w≠.error 12
 |⟨.inl _⟩,_,b=>b.2
 |⟨.inr (_,c)⟩,w,⟨u,_,h2⟩=>Rn.mU (c u) w h2
def Rn.Al{O O':By->Wo->Prop}(h:∀k u b,O k u->O' k b->u=b):∀p w j,Rn O p w->Rn O' p j->w=j
 |⟨.inl _⟩,_,_,n,r=>n.1.symm.trans r.1
 |⟨.inr (k,c)⟩,w,j,⟨u,h1,h2⟩,⟨b,l,m⟩=>by
  obtain rfl:=h k u b h1 l;exact Rn.Al h (c u) w j h2 m
variable {e:Src}
theorem lO.mU{k:By}{w:Wo}(h:lO e k w):w≠.error 12:=by
 rcases h with⟨_,rfl⟩|⟨v,_,rfl⟩
 ·grind
 grind
theorem lO.Al{k:By}{w w':Wo}(h:lO e k w)(b:lO e k w'):w=w':=by
 rcases h with⟨h,rfl⟩|⟨v,h,rfl⟩<;>rcases b with⟨b,rfl⟩|⟨j,b,rfl⟩
 ·rfl
 ·grind
 ·grind
 grind
theorem lO.qB{k:By}{w:Wo}{t:T}(h:lO e k w)(b:e k=some (.inr t)):False:=by
 rcases h with⟨h,_⟩|⟨v,h,_⟩
 ·grind
 grind
def Wn.mU{n:Nat}{k:By}{w:Wo}(h:Wn e n k w):w≠.error 12:=by
 cases n with
 |zero=>exact lO.mU h
 |succ n =>
  rcases h with h|⟨t,_,h⟩
  ·exact h.mU
  exact Rn.mU _ _ h
def Wn.up:∀{n:Nat}{k:By}{w:Wo},Wn e n k w->Wn e (n+1) k w
 |0,_,_,h=>.inl h
 |n+1,k,w,h=>by
  rcases h with h|⟨t,h1,h2⟩
  ·exact .inl h
  exact .inr ⟨t,h1,h2.mono (λ_ _ h=>Wn.up h)⟩
def Wn.le{n m:Nat}{k:By}{w:Wo}(h:Wn e n k w)(b:n<=m):Wn e m k w:=by
 induction b with
 |refl=>exact h
 |step _ j=>exact j.up
def Wn.Al:∀{n:Nat}{m:Nat}{k:By}{w l:Wo},Wn e n k w->Wn e m k l->w=l
 |0,m,k,w,l,h,j=>by
  cases m with
  |zero=>exact lO.Al h j
  |succ m =>
   rcases j with j|⟨t,h1,_⟩
   ·exact lO.Al h j
   exact(lO.qB h h1).elim
 |n+1,m,k,w,l,h,j=>by
  rcases h with h|⟨t,h1,h2⟩
  ·cases m with
   |zero=>exact lO.Al h j
   |succ m =>
    rcases j with j|⟨t,h1,_⟩
    ·exact lO.Al h j
    exact(lO.qB h h1).elim
  cases m with
  |zero=>exact(lO.qB j h1).elim
  |succ m =>
   rcases j with j|⟨y,p,r⟩
   ·exact(lO.qB j h1).elim
   rw[h1]at p;cases p;exact Rn.Al (O:=Wn e n) (O':=Wn e m) (λk u z a b=>Wn.Al (n:=n) (m:=m) (k:=k) a b) _ _ _ h2 r
def W.Al{k:By}{w w':Wo}:W e k w->W e k w'->w=w'
 |⟨_,h⟩,⟨_,b⟩=>h.Al b
def W.mU{k:By}{w:Wo}:W e k w->w≠.error 12
 |⟨_,h⟩=>h.mU
theorem Is.Al{k:By}{w w':Wo}(h:Is e k w)(b:Is e k w'):w=w':=by
 rcases h with h|⟨rfl,h⟩<;>rcases b with b|⟨rfl,b⟩
 ·exact h.Al b
 ·grind
 ·grind
 rfl
theorem Is.w{k:By}{w:Wo}(h:Is e k w)(b:w≠.error 12):W e k w:=by
 rcases h with h|⟨rfl,_⟩
 ·exact h
 grind
theorem Is.no{k:By}{u:Wo}(h:Is e k (.error 12)):¬W e k u:=by
 rcases h with h|⟨_,h⟩
 ·exact(h.mU rfl).elim
 grind
def Rn.Jd:∀p w,Rn (W e) p w->∃n,Rn (Wn e n) p w
 |⟨.inl _⟩,_,h=>⟨0,h⟩
 |⟨.inr (k,c)⟩,w,⟨u,⟨n,h1⟩,h2⟩=>by
  obtain⟨m,b⟩:=Rn.Jd (c u) w h2;exact⟨max n m,u,h1.le (Sy _ _),b.mono (λ_ _ h=>h.le (Sz _ _))⟩
def W.fc{k:By}{t:T}{w:Wo}(h:e k=some (.inr t))(j:Rn (W e) (prog t) w):W e k w:=by
 obtain⟨n,b⟩:=Rn.Jd _ _ j;exact⟨n+1,.inr ⟨t,h,b⟩⟩
def xX{n:Nat}{k':By}:∀p w,Rn (Wn e n) p w->Gb e p k'->∃l,Wn e n k' l
 |⟨.inl _⟩,_,_,h=>h.elim
 |⟨.inr (k,c)⟩,w,⟨u,h1,h2⟩,h=>by
  rcases h with rfl|⟨m,b,j⟩
  ·exact⟨u,h1⟩
  obtain rfl:=W.Al ⟨n,h1⟩ b;exact xX (c u) w h2 j
def EE.down{n:Nat}{k k':By}{w:Wo}(h:EE e k k')(b:Wn e n k w):∃m j,m<n/\Wn e m k' j:=by
 obtain⟨t,h1,h2⟩:=h;cases n with
 |zero=>exact(lO.qB b h1).elim
 |succ n =>
  rcases b with b|⟨r,l,p⟩
  ·exact(lO.qB b h1).elim
  rw[h1]at l;cases l;obtain⟨j,h⟩:=xX _ _ p h2;exact⟨n,j,Nat.lt_succ_self n,h⟩
def C_(R:By->By->Prop):List By->Prop
 |[]=>True
 |[_]=>True
 |a::b::r=>R a b/\C_ R (b::r)
def Je{l:List By}:∀{a:By}{n:Nat}{w:Wo},C_ (EE e) (a::l)->Wn e n a w->∀x∈l,∃m j,m<n/\Wn e m x j:=by
 induction l with
 |nil=>intro a n w _ _ x hx;simp at hx
 |cons b r C =>
  intro a n w u z x hx;obtain⟨h1,h2⟩:=u;obtain⟨m,j,y,p⟩:=h1.down z;rcases aK.1 hx with rfl|hx
  ·exact⟨m,j,y,p⟩
  obtain⟨D,E,F,B⟩:=C h2 p x hx;exact⟨D,E,by omega,B⟩
def Da{k:By}{l:List By}(b:C_ (EE e) (k::l++[k])):∀u,¬W e k u:=by
 intro u ⟨n,p⟩
 induction n using Nat.strongRecOn generalizing u with
 |ind n y =>
  obtain⟨m,z,j,r⟩:=Je (l:=l++[k]) TB p k S5;exact y m j z r
def A4{R:By->By->Prop}:∀l m,C_ R (l++m)->C_ R m
 |[],m,h=>h
 |[a],[],_=>trivial
 |[a],b::m,h=>h.2
 |a::b::r,m,h=>A4 (b::r) m h.2
def vo{R:By->By->Prop}:∀l a b,C_ R (l++[a])->R a b->C_ R (l++[a]++[b])
 |[],a,b,_,h=>⟨h,trivial⟩
 |[x],a,b,h,j=>⟨h.1,j,trivial⟩
 |x::y::r,a,b,h,j=>⟨h.1,vo (y::r) a b h.2 j⟩
def qd:∀l k,k∈l->∃m r,l=m++k::r/\eQ l k=k::r
 |[],_,h=>by simp at h
 |x::l,k,h=>by
  by_cases hx:x=k
  ·subst hx;exact⟨[],l,rfl,by unfold eQ;rw[SA];simp⟩
  obtain⟨m,r,h1,h2⟩:=qd l k (by rcases aK.1 h with h|h;exact(hx h.symm).elim;exact h);refine⟨x::m,r,by rw[h1];rfl,?_⟩;unfold eQ at h2 ⊢;rw[SA,ag TN,h2]
def Ring(e:Src)(l:List By):Prop:=∃k r,l=k::r/\C_ (EE e) (k::r++[k])
def Jf{l:List By}{k:By}(h:C_ (EE e) (l++[k]))(j:k∈l):Ring e (eQ l k)/\∀u,¬W e k u:=by
 obtain⟨m,r,h1,h2⟩:=qd l k j;have b:=A4 m _ (by rw[h1]at h;simpa using h);exact⟨⟨k,r,h2,b⟩,Da b⟩
/-! What is kept was a run. -/
def qJ:Pg Wo->List (By×Wo)->List (By×Wo)->Wo->Prop
 |⟨.inl u⟩,b,j,w=>u=w/\w≠.error 12/\b=j
 |⟨.inr (k,c)⟩,b,j,w=>(∃u,cv b k=some u/\qJ (c u) b j w)\/(cv b k=none/\∃u,u≠.error 12/\qJ (c u) (b++[(k,u)]) j w)
def qJ.pre:∀{p:Pg Wo}{b j:List (By×Wo)}{w:Wo},qJ p b j w->∃r,j=b++r
 |⟨.inl _⟩,b,j,w,h=>⟨[],by simp[h.2.2]⟩
 |⟨.inr (k,c)⟩,b,j,w,h=>by
  rcases h with⟨u,_,h⟩|⟨_,u,_,h⟩
  ·exact qJ.pre h
  obtain⟨r,l⟩:=qJ.pre h;exact⟨(k,u)::r,by rw[l];simp⟩
def qJ.mU:∀{p:Pg Wo}{b j:List (By×Wo)}{w:Wo},qJ p b j w->w≠.error 12
 |⟨.inl _⟩,_,_,_,h=>h.2.1
 |⟨.inr (k,c)⟩,b,j,w,h=>by
  rcases h with⟨u,_,h⟩|⟨_,u,_,h⟩
  ·exact qJ.mU h
  exact qJ.mU h
def qJ.zp:∀{p:Pg Wo}{l m:List (By×Wo)}{w:Wo},qJ p l m w->(∀n∈l,n.2≠.error 12)->∀n∈m,n.2≠.error 12
 |⟨.inl _⟩,_,_,_,h,j=>by rw[<-h.2.2];exact j
 |⟨.inr (k,c)⟩,l,m,w,h,j=>by
  rcases h with⟨u,_,h⟩|⟨_,u,hu,h⟩
  ·exact qJ.zp h j
  refine qJ.zp h (λn b=>?_);rcases aL.1 b with b|b
  ·exact j n b
  rw[Q_.1 b];exact hu
def lP{α:Type}:∀{l:List (By×α)}{k:By}{a:α},cv l k=some a->(k,a)∈l
 |[],_,_,h=>by cases h
 |p::l,k,a,h=>by
  rw[ee]at h;by_cases b:p.1=k
  ·rw[ag b]at h;cases h;subst b;exact Rg
  rw[ae b]at h;exact aS _ (lP h)
def qJ.all:∀{p:Pg Wo}{m l:List (By×Wo)}{w:Wo},qJ p m l w->(∀n∈l,W e n.1 n.2)->Rn (W e) p w
 |⟨.inl _⟩,_,_,_,h,_=>⟨h.1,h.2.1⟩
 |⟨.inr (k,c)⟩,m,l,w,h,b=>by
  rcases h with⟨u,hu,h⟩|⟨_,u,_,h⟩
  ·obtain⟨r,j⟩:=h.pre;exact⟨u,b (k,u) (by rw[j];exact RB _ (lP hu)),qJ.all h b⟩
  obtain⟨r,j⟩:=h.pre;exact⟨u,b (k,u) (by rw[j];simp),qJ.all h b⟩
theorem qJ.next:∀{p:Pg Wo}{b pre post:List (By×Wo)}{k:By}{u w:Wo},qJ p b (pre++(k,u)::post) w->b.length<=pre.length->(∀n∈pre,W e n.1 n.2)->Gb e p k
 |⟨.inl _⟩,b,pre,post,k,u,w,h,m,_=>by
  have:=congrArg List.length h.2.2;simp at this;omega
 |⟨.inr (k',c)⟩,b,pre,post,k,u,w,h,m,l=>by
  rcases h with⟨j,hu,h⟩|⟨_,j,_,h⟩
  ·obtain⟨r,z⟩:=h.pre;have C:(k',j)∈pre:=by
    have:=lP hu;have h2:b=pre.take b.length:=by
     have y:=congrArg (List.take b.length) z;rw[TQ m,Sd]at y;exact y.symm
    rw[h2]at this;exact S9 this
   exact .inr ⟨j,l _ C,qJ.next h m l⟩
  obtain⟨r,z⟩:=h.pre;have h2:(pre++(k,u)::post)[b.length]?=some (k',j):=by grind
  rcases Ro _ _ with D|E
  ·rw[aP D]at h2;exact .inr ⟨j,l _ (aJ h2),qJ.next h Tc l⟩
  have B:b.length=pre.length:=R5;rw[B,aX (af _)]at h2;simp at h2;exact .inl h2.1.symm
end bY
namespace bY
def dd(h:List (By×cC)):List (By×cC):=h.map λp=>(p.1,{p.2 with kept:=none})
def dK(h:List (By×cC)):List By:=(h.filter λp=>p.2.di.isSome).map (·.1)
def eL(h:List (By×cC)):dK (dd h)=dK h:=by
 unfold dK dd;rw[List.filter_map,Rb];rfl
def nL(h:List (By×cC))(k):cv (dd h) k=(cv h k).map λb=>{b with kept:=none} :=jI (λp:By×cC=>(p.1,({p.2 with kept:=none}:cC))) (λ_ (b:cC)=>({b with kept:=none}:cC)) (λ_=>rfl) h k
theorem gS(h:List (By×cC))(k o):dd (da h k o)=dd h:=by
 unfold dd da;rw[Rb];refine RH (λp _=>?_)
 grind
def kj{α:Type}:∀{l:List (By×α)}{k:By}{a:α},cv l k=some a->(k,a)∈l
 |[],_,_,h=>by cases h
 |p::l,k,a,h=>by
  rw[ee]at h;by_cases b:p.1=k
  ·rw[ag b]at h;cases h;subst b;exact Rg
  rw[ae b]at h;exact aS _ (kj h)
def iq{h:List (By×cC)}{k:By}{th:cC}(b:cv h k=some th)(e:th.di.isSome=true):k∈dK h :=aE.2 ⟨(k,th),Sj.2 ⟨kj b,e⟩,rfl⟩
def Rs(s:LS):Nat:=((dK s.ct).filter λk=>(cv s.done k).isNone).length
def KB(h:List (By×cC)):Prop:=∀p∈h,∀b,p.2.kept=some b->b.cH.length<=401
structure jk(s s':LS)(c:Nat):Prop where
 dd:dd s'.ct=dd s.ct
 kb:KB s.ct->KB s'.ct
 cm:s'.cm=s.cm
 mono:∀k,(cv s.done k).isSome=true->(cv s'.done k).isSome=true
 dn:∀k∈s.cm,cv s'.done k=cv s.done k
 nf:s'.done.length+1000*Rs s'<=s.done.length+1000*Rs s+c
 du:s'.du.length+Rs s'<=s.du.length+Rs s
def jk.refl(s c):jk s s c:=⟨rfl,id,rfl,λ_ h=>h,λ_ _=>rfl,by omega,by omega⟩
def jk.trans{s l m:LS}{c d:Nat}(h:jk s l c)(b:jk l m d):jk s m (c+d) :=⟨b.dd.trans h.dd,λk=>b.kb (h.kb k),b.cm.trans h.cm,λk e=>b.mono k (h.mono k e),λk e=>(b.dn k (h.cm▸e)).trans (h.dn k e),by have:=h.nf;have:=b.nf;omega,by have:=h.du;have:=b.du;omega⟩
def jk.le{s b:LS}{c d:Nat}(h:jk s b c)(hd:c<=d):jk s b d:={h with nf:=by have:=h.nf;omega}
theorem jk.dK{s b:LS}{c:Nat}(h:jk s b c):dK b.ct=dK s.ct:=by rw[<-eL,h.dd,eL]
def nM{s s':LS}(h1:dd s'.ct=dd s.ct)(h2:s'.done=s.done):Rs s'=Rs s:=by
 unfold Rs;rw[<-eL s'.ct,h1,eL,h2]
theorem zE(s k w):Rs {s with done:=put s.done k w}<=Rs s:=by
 unfold Rs;have h2:((dK s.ct).filter λx=>(cv (put s.done k w) x).isNone)=((dK s.ct).filter λx=>(cv s.done x).isNone).filter λx=>!(x==k):=by
  rw[SV];apply List.filter_congr;intro x _;rw[eG]
  grind
 grind
theorem sC(s k w)(b:k∈dK s.ct)(e:cv s.done k=none):Rs {s with done:=put s.done k w}+1<=Rs s:=by
 unfold Rs;have h2:((dK s.ct).filter λx=>(cv (put s.done k w) x).isNone)=((dK s.ct).filter λx=>(cv s.done x).isNone).filter λx=>!(x==k):=by
  rw[SV];apply List.filter_congr;intro x _;rw[eG]
  grind
 show(List.filter (λx=>(cv _ x).isNone) _).length+1<=_;rw[h2];apply S_.2
 grind
theorem EP{α:Type}(l k)(a:α):(put l k a).length<=l.length+1:=by
 unfold put
 grind
theorem qD{h:List (By×cC)}{k:By}{o:Option gl}(l:KB h)(r:∀b,o=some b->b.cH.length<=401):KB (da h k o):=by
 intro p m b e;obtain⟨q,n,rfl⟩:=aE.1 m;by_cases h1:q.1=k
 ·grind
 rw[ae T4]at e;exact l q n b e
section
variable {j:By->LS->Wo×LS}
def ue(b:∀k s,KB s.ct->jk s (j k s).2 1)(key):∀l s,KB s.ct->jk s (eC j key l s).2 l.length
 |[],s,_=>jk.refl s 0
 |(k,w)::r,s,e=>by
  unfold eC;split
  ·exact((b k s e).trans (ue b key r _ ((b k s e).kb e))).le Tc
  exact(b k s e).le S5
theorem nN(b k w):(ei b k w).length<=b.length+1:=by
 unfold ei
 grind
def uf(e:∀k s,KB s.ct->jk s (j k s).2 1):∀p f s b,KB s.ct->Sp p f->jk s (p.dR.run (ep j) (s,b)).2.1 f/\(p.dR.run (ep j) (s,b)).2.2.length<=b.length+f
 |⟨.inl q⟩,f,s,b,_,h=>⟨jk.refl s f,by show b.length<=_;omega⟩
 |⟨.inr (k,c)⟩,f,s,b,l,h=>by
  obtain⟨h1,h2⟩:=uf e (c (j k s).1) (f-1) (j k s).2 (ei b k (j k s).1) ((e k s l).kb l) (h.2 _);have n:=nN b k (j k s).1;have m:=h.1;refine⟨((e k s l).trans h1).le R5,?_⟩;show((c (j k s).1).dR.run (ep j) ((j k s).2,ei b k (j k s).1)).2.2.length<=_;omega
structure Own(s s':LS):Prop where
 dd:dd s'.ct=dd s.ct
 kb:KB s.ct->KB s'.ct
 cm:s'.cm=s.cm
 mono:∀k,(cv s.done k).isSome=true->(cv s'.done k).isSome=true
 dn:∀k∈s.cm,cv s'.done k=cv s.done k
 nf:s'.done.length+1000*Rs s'<=s.done.length+1000*Rs s+801
 du:s'.du.length+Rs s'<=s.du.length+Rs s+1
theorem ug(J:∀k s,KB s.ct->jk s (j k s).2 1)(key t y s z)(K:KB s.ct)(l:jk z s 401):Own z (f_ j key t y s).2:=by
 unfold f_;obtain⟨h1,h2⟩:=uf J _ 400 {s with du:=s.du++[y]} [] K (mu _ _ _ _);have L:prog t=(tr (hM t) t none 400).dR:=rfl;rw[<-L]at h1 h2;generalize (prog t).run _ ({s with du:=s.du++[y]},[])=q at h1 h2;obtain⟨r,m,M⟩:=q;simp only at h1 h2;have E:Rs {s with du:=s.du++[y]}=Rs s:=nM rfl rfl
 -- whatever is kept
 have C:∀n:LS,bY.dd n.ct=bY.dd m.ct->n.done=m.done->n.cm=m.cm->n.du=m.du->(KB m.ct->KB n.ct)->Own z n:=by
  intro n B p F G I;have D:=nM B p;exact{
   dd:=B.trans (h1.dd.trans l.dd)
   kb:=λk=>I (h1.kb (l.kb k))
   cm:=F.trans (h1.cm.trans l.cm)
   mono:=λk u=>by rw[p];exact h1.mono k (l.mono k u)
   dn:=λk u=>by rw[p];exact(h1.dn k (by show k∈s.cm;rw[l.cm];exact u)).trans (l.dn k u)
   nf:=by
    rw[p,D];have a:=h1.nf;have b:=l.nf;rw[E]at a;have a:m.done.length+1000*Rs m<=s.done.length+1000*Rs s+400:=a;omega
   du:=by
    rw[G,D];have a:=h1.du;have b:=l.du;rw[E]at a;have a:=a;rw[aj]at a;simp only[aM,Ra]at a;omega}
 unfold ia;simp only;split
 ·split
  ·exact C _ (gS _ _ _) rfl rfl rfl (λh=>qD h (λ_ e=>by cases e))
  grind
 exact C _ (gS _ _ _) rfl rfl rfl (λh=>qD h (λN e=>by cases e;show M.length<=401;simp at h2;omega))
end
def vM{n:By->LS->Wo×LS}(E:∀key s,KB s.ct->(cv s.ct key=none->(n key s).2=s)/\(∀p,cv s.ct key=some p->(p.di=none/\(n key s).2=s)\/(p.di.isSome=true/\Own s (n key s).2)))(key s)(G:KB s.ct):jk s (eY n key s).2 1:=by
 unfold eY;cases hd:cv s.done key with
 |some w=>exact jk.refl s 1
 |none =>
  simp only;by_cases y:s.cm.contains key=true
  ·rw[ag y];simp only;unfold LS.meet;split
   ·exact⟨rfl,id,rfl,λ_ h=>h,λ_ _=>rfl,by show _<=_;have:Rs {s with cY:=eQ s.cm key}=Rs s:=nM rfl rfl;rw[this];simp,by have:Rs {s with cY:=eQ s.cm key}=Rs s:=nM rfl rfl;rw[this];simp⟩
   exact jk.refl s 1
  rw[ae y];have C:key∉s.cm:=by simpa using y
  simp only
  -- nothing M N key itself is noted
  have D:∀r,jk s {s with cm:=(s.cm++[key]).dropLast,done:=put s.done key r} 1:=by
   intro r;have I:Rs {s with cm:=(s.cm++[key]).dropLast,done:=put s.done key r}<=Rs s:=zE s key r;have u:=EP s.done key r;refine⟨rfl,id,by simp,λk m=>?_,λk m=>?_,by show(put s.done key r).length+_<=_;omega,by show s.du.length+_<=_;omega⟩
   ·show(cv _ k).isSome=true;rw[eG];split
    ·rfl
    exact m
   show cv _ k=_;rw[eG,ae (λ(e:key=k)=>C (e▸m))]
  obtain⟨h1,h2⟩:=E key {s with cm:=s.cm++[key]} G;cases u:cv s.ct key with
  |none =>
   rw[h1 u];exact D _
  |some p =>
   rcases h2 p u with⟨_,b⟩|⟨L,b⟩
   ·rw[b];exact D _
   generalize n key {s with cm:=s.cm++[key]}=q at b;obtain⟨r,l⟩:=q;simp only at b ⊢;have F:=(b.dn key (by show key∈s.cm++[key];simp)).trans hd;have J:key∈dK l.ct:=by
    rw[<-eL,b.dd,eL];exact iq u L
   have K:Rs {s with cm:=s.cm++[key]}=Rs s:=nM rfl rfl;have I:Rs {l with cm:=l.cm.dropLast,done:=put _ key r}+1<=Rs l:=sC l key r J F;have hlen:=EP l.done key r;have z:=b.nf;have B:=b.du;rw[K]at z B;have z:l.done.length+1000*Rs l<=s.done.length+1000*Rs s+801:=z;have B:l.du.length+Rs l<=s.du.length+Rs s+1:=B;refine⟨b.dd,b.kb,?_,λk m=>?_,λk m=>?_,by show(put _ key r).length+_<=_;omega,by show l.du.length+_<=_;omega⟩
   ·show l.cm.dropLast=_;rw[b.cm];simp
   ·show(cv _ k).isSome=true;rw[eG];split
    ·rfl
    exact b.mono k m
   show cv _ k=_;rw[eG,ae (λ(e:key=k)=>C (e▸m))];exact b.dn k (by show k∈s.cm++[key];exact RB _ m)
def jA:∀n b s,KB s.ct->jk s (cG n b s).2 1
 |0,b,s,z=>by
  refine vM (λb s m=>⟨λ_=>rfl,λl p=>?_⟩) b s z;cases E:l.di with
  |none=>exact .inl ⟨rfl,rfl⟩
  |some t=>exact .inr ⟨rfl,rfl,id,rfl,λ_ h=>h,λ_ _=>rfl,by show s.done.length+1000*Rs s<=_;omega,by show s.du.length+Rs s<=_;omega⟩
 |n+1,b,s,z=>by
  refine vM (λb s m=>⟨λp=>?_,λl p=>?_⟩) b s z
  ·unfold dE;rw[p]
  have F:(dE (cG n) b s)=match l.di with|.none=>(.ok l.value,s)|.some t=>fg (cG n) b t l.kept s:=by unfold dE;rw[p];try rfl
  rw[F];cases E:l.di with
  |none =>
   exact .inl ⟨rfl,rfl⟩
  |some t =>
   refine .inr ⟨rfl,?_⟩;show Own s (fg (cG n) b t l.kept s).2;have u:∀k s,KB s.ct->jk s (cG n k s).2 1:=λk s m=>jA n k s m;cases D:l.kept with
   |none=>exact ug u b t ⟨b,[],.error 0,.error 0⟩ s s m (jk.refl s 401)
   |some e =>
    have B:e.cH.length<=401:=m _ (kj p) e D;have hd:=ue u b e.cH s m;show Own s (fg (cG n) b t (some e) s).2;have C:fg (cG n) b t (some e) s=match eC (cG n) b e.cH s with|(.none,s)=>(e.dR,s)|(.some y,s)=>f_ (cG n) b t y s:=rfl
    rw[C];generalize eC (cG n) b e.cH s=q at hd;obtain⟨o,r⟩:=q;simp only at hd;cases o with
    |none=>exact⟨hd.dd,hd.kb,hd.cm,hd.mono,hd.dn,by have:=hd.nf;show r.done.length+1000*Rs r<=_;omega,by have:=hd.du;show r.du.length+Rs r<=_;omega⟩
    |some y=>exact ug u b t y r s (hd.kb m) (hd.le B)
end bY
end
namespace bY
def GC{n:Nat}{b:Bool}{t:T}(h:iy (n+1) b t=true):1<=t.cu/\t.cu<=16/\(t.cu=8\/t.parts.length=jH t.cu)/\(t.cu=15\/t.cu=16->iy n b (t.cM 0)=true/\iy n true (t.cM 1)=true)/\(¬(t.cu=15\/t.cu=16)->∀u∈t.parts,iy n b u=true):=by
 grind [iy]
end bY
