/- Out of Pv. -/
import Derived.Test.YtpekpdimdelncaaGreatDoorP01
set_option linter.unusedVariables false
set_option linter.defProp false
namespace Go.Proofs.YtpekpdimdelncaaGreatDoor
section
namespace bY
variable{c:UInt8}{n:Nat}{l b:a_}{i:Int}
def lP:a_->a_->Int->Bool->List (a_)->List (a_)
 |[],j,_,_,e=>e++[j]
 |c :: r,j,d,q,e =>
  if c=39 then lP r (j++[c]) d (!q) e
  else if q=true then lP r (j++[c]) d q e
  else if c=123 then lP r (j++[c]) (d+1) q e
  else if c=125 then lP r (j++[c]) (d-1) q e
  else if c=44/\d=0 then lP r [] d q (e++[j])
  else lP r (j++[c]) d q e
def fU(l:a_):List (a_):=if l=[] then[]else lP l [] 0 false []
def gD(l:a_):Option (a_):=if 2<=l.length/\l.head?=some 123/\l.getLast?=some 125 then some ((l.drop 1).dropLast)else none
def wU:∀a,(∀c∈a,c≠39/\c≠123/\c≠125/\c≠44)->∀r m d j,lP (a++r) m d false j=lP r (m++a) d false j
 |[],_,r,m,d,j=>by simp
 |c :: a,h,r,m,d,j=>by
  obtain⟨h1,h2,p,u⟩:=h c R2;rw[Qs,lP,ae h1,ae R2,ae h2,ae p,ae (λe=>u e.1),wU a (λx hx=>h x (aT _ hx))];simp
def zW:∀a,(∀c∈a,c≠39)->∀r j d e,lP (a++r) j d true e=lP r (j++a) d true e
 |[],_,r,j,d,e=>by simp
 |c :: a,h,r,j,d,e=>by
  rw[Qs,lP,ae (h c R2),ag rfl,zW a (λx hx=>h x (aT _ hx))];simp
def Ca(h:mu c=true):c≠39/\c≠123/\c≠125/\c≠44:=by
 refine⟨?_,?_,?_,?_⟩<;>(rintro rfl;revert h;decide)
def zX(m)(P:∀u:V,iM m u->∀(r p) (d) (j),0<=d->lP (wr m u++r) p d false j=lP r (p++wr m u) d false j):∀(l:List V),(∀u∈l,iM m u)->∀r p d j,0<d->lP (cJ (l.map (wr m))++r) p d false j=lP r (p++cJ (l.map (wr m))) d false j
 |[],_,r,p,d,j,hd=>by simp[cJ]
 |[u],h,r,p,d,j,hd=>P u (h u R2) r p d j RM
 |u :: v :: l,h,r,p,d,j,hd=>by
  have e:cJ ((u :: v :: l).map (wr m))=wr m u++44 :: cJ ((v :: l).map (wr m)):=rfl;rw[e,QM,P u (h u R2) _ _ _ _ RM,Qs,lP,ae RZ,ae R2,ae RZ,ae RZ,ae (λx=>by omega),zX m P (v :: l) (λx hx=>h x (aT _ hx)) _ _ _ _ hd];simp
def yr:∀n v,iM n v->∀r m d j,0<=d->lP (wr n v++r) m d false j=lP r (m++wr n v) d false j
 |n,⟨.inl i⟩,h,r,m,d,j,hd=>by
  have e:wr n ⟨.inl i⟩=Lib.itoa i:=S6;rw[e];exact wU _ (λc hc=>Ca (jR i c hc)) r m d j
 |n,⟨.inr (.inl b)⟩,h,r,m,d,j,hd=>by
  have e:wr n ⟨.inr (.inl b)⟩=39 :: (b++[39]):=S6;unfold iM at h;rw[e,Qs,lP,ag rfl,QM];show lP (b++([39]++r)) (m++[39]) d true j=_;rw[zW b (λc hc=>(h.2 c hc).2),List.singleton_append,lP,ag rfl];simp
 |0,⟨.inr (.inr l)⟩,h,r,m,d,j,hd=>by
  unfold iM at h;exact h.elim
 |n+1,⟨.inr (.inr l)⟩,h,r,m,d,j,hd=>by
  have e:wr (n+1) ⟨.inr (.inr l)⟩=123 :: (cJ (l.map (wr n))++[125]):=by rw[wr]
  unfold iM at h;rw[e,Qs,lP,ae RZ,ae R2,ag rfl,QM,zX n (yr n) l h.2 _ _ _ _ RM,List.singleton_append,lP,ae RZ,ae R2,ae RZ,ag rfl];simp
def wV(m):∀l v,(∀u∈v :: l,iM m u)->∀p j,lP (cJ ((v :: l).map (wr m))) p 0 false j=j++(p++wr m v) :: l.map (wr m)
 |[],v,h,p,j=>by
  have:=yr m v (h v R2) [] p 0 j RM;rw[QA]at this;show lP (wr m v) p 0 false j=_;rw[this,lP];simp
 |u :: l,v,h,p,j=>by
  have e:cJ ((v :: u :: l).map (wr m))=wr m v++44 :: cJ ((u :: l).map (wr m)):=rfl;rw[e,yr m v (h v R2) _ _ _ _ RM,lP,ae RZ,ae R2,ae RZ,ae RZ,ag ⟨rfl,rfl⟩,wV m l u (λx hx=>h x (aT _ hx))];simp
theorem GQ{v:V}(h:iM n v):wr n v≠[]:=by
 obtain⟨x⟩:=v;rcases x with i|b|l
 ·grind [wr,tf]
 ·grind [wr]
 cases n with
 |zero=>unfold iM at h;exact h.elim
 |succ n =>
  have e:wr (n+1) ⟨.inr (.inr l)⟩=123 :: (cJ (l.map (wr n))++[125]):=by rw[wr]
  rw[e];exact List.cons_ne_nil _ _
def mV{m:Nat}{l:List V}(h:∀u∈l,iM m u):fU (cJ (l.map (wr m)))=l.map (wr m):=by
 cases l with
 |nil=>rfl
 |cons v l =>
  have j:cJ ((v :: l).map (wr m))≠[]:=by
   cases l with
   |nil=>exact GQ (h v R2)
   |cons u l=>exact λe=>GQ (h v R2) (List.append_eq_nil_iff.1 e).1
  unfold fU;rw[ae j,wV m l v h];rfl
def lQ:∀e x,cJ (e++[x])=if e=[]then x else cJ e++44 :: x
 |[],x=>rfl
 |[a],x=>rfl
 |a :: b :: r,x=>by
  have:=lQ (b :: r) x;rw[ae R2]at this;rw[ae R2];show a++44 :: cJ (b :: r++[x])=(a++44 :: cJ (b :: r))++44 :: x;rw[this];simp
theorem tZ:∀r j d q e,cJ (lP r j d q e)=if e=[]then j++r else cJ e++44 :: (j++r)
 |[],j,d,q,e=>by rw[lP,lQ];simp
 |c :: r,j,d,q,e=>by
  have go:∀d q,cJ (lP r (j++[c]) d q e)=if e=[]then j++c :: r else cJ e++44 :: (j++c :: r):=λd q=>by
   rw[tZ r (j++[c]) d q e];simp
  rw[lP];split
  ·exact go _ _
  split
  ·exact go _ _
  split
  ·exact go _ _
  split
  ·exact go _ _
  split
  ·rename_i hc;obtain⟨rfl,_⟩:=hc;rw[tZ,ae R2,lQ];split<;>simp
  exact go _ _
theorem zY(h:l≠[]):cJ (fU l)=l:=by
 grind [fU,tZ]
/-! Numbers. -/
def sB:∀l n m,iJ l n=some m->∀c∈l,dA c=true
 |[],_,_,_,c,hc=>by cases hc
 |d :: l,n,m,h,c,hc=>by
  unfold iJ at h;split at h
  ·rename_i hd;split at h
   ·cases h
   rcases aP.1 hc with rfl|hc
   ·exact hd
   exact sB l _ m h c hc
  cases h
theorem lR(h:dJ l=some n):l=Lib.decDigits n/\n<=9223372036854775807:=by
 unfold dJ at h;split at h
 ·cases h
 rename_i hc;have hd:=sB l 0 n h;rw[p7 l 0 hd RM]at h;split at h
 ·rename_i hv;cases h;have j:l≠[]:=λe=>hc (.inl e);refine⟨(Dx l hd j ?_).symm,hv⟩;by_cases m:l.head?=some 48
  ·refine .inr ?_;have:¬1<l.length:=λe=>hc (.inr ⟨m,e⟩);have:l.length≠0:=λe=>j (QG.1 e);omega
  grind
 cases h
theorem t_(h:n<=9223372036854775807):dJ (Lib.decDigits n)=some n:=by
 unfold dJ;rw[ae,p7 _ 0 (my n) RM,DB,ag h];rintro(e|⟨e1,e2⟩)
 ·exact rG n e
 by_cases j:10<=n
 ·grind [zN]
 rw[Lib.decDigits,Qq RM]at e2
 grind
def iU(l:a_):Option Int :=if 1<l.length/\l.head?=some 45 then
  (if l=Lib.itoa (-9223372036854775808)then some (-9223372036854775808)else match dJ (l.drop 1) with|some n=>if 0<n then some (-(n:Int))else none|none=>none)
 else(dJ l).map λn=>(n:Int)
theorem itoa_neg(h:i<0):Lib.itoa i=45 :: Lib.decDigits i.natAbs:=by
 grind [Lib.itoa]
theorem oD(h:0<=i):Lib.itoa i=Lib.decDigits i.toNat:=by
 grind [Lib.itoa]
theorem EP(l):iU l=dT l:=by
 have u:∀i,iU l=some i->dT l=some i:=λi h=>by
  unfold iU at h;split at h
  ·rename_i hc;split at h
   ·grind [gY]
   split at h
   ·rename_i n j;split at h
    ·rename_i p;cases h;obtain⟨e1,e2⟩:=lR j;have hl:l=45 :: l.drop 1:=by
      cases l with
      |nil=>cases hc.2
      |cons c r =>
       have:=aB hc.2;rw[this];rfl
     have e:l=Lib.itoa (-(n:Int)):=by
      grind [itoa_neg]
     grind [gY]
    cases h
   cases h
  cases j:dJ l with
  |none=>rw[j]at h;cases h
  |some n =>
   rw[j]at h;cases h;obtain⟨e1,e2⟩:=lR j;have e:l=Lib.itoa (n:Int):=by rw[oD RM];exact e1
   rw[e];exact gY _ RM RM
 have z:∀i,dT l=some i->iU l=some i:=λi h=>by
  obtain⟨e,y⟩:=jd h;obtain⟨p,h1⟩:=iy l i y;subst e;by_cases B:i<0
  ·grind [iU,List.drop_one,List.tail_cons,t_,gY,itoa_neg,rG]
  have e:=oD (i:=i) RM;unfold iU;rw[ae]
  ·grind [t_]
  rintro⟨_,e2⟩;rw[e]at e2;have:=my i.toNat;cases hd:Lib.decDigits _ with
  |nil=>rw[hd]at e2;cases e2
  |cons c r =>
   rw[hd]at e2 this;have m:=this c R2;rw[aB e2]at m
   revert m
   decide
 cases h:iU l with
 |some i=>exact(u i h).symm
 |none =>
  cases h2:dT l with
  |none=>rfl
  |some i=>rw[z i h2]at h;cases h
/-! Words,lists,values. -/
def jS(l:a_):Option (a_):=if 2<=l.length/\l.length<=32/\l.head?=some 39/\l.getLast?=some 39/\(((l.drop 1).dropLast).all λc=>fH c&&!(c==39))=true then some ((l.drop 1).dropLast)else none
theorem DC{a b:UInt8}(h:2<=l.length)(h1:l.head?=some a)(h2:l.getLast?=some b):l=a :: ((l.drop 1).dropLast++[b]):=by
 cases l with
 |nil=>cases h1
 |cons c r =>
  have hc:=aB h1;have m:r≠[]:=λe=>by rw[e]at h;simp at h
  have hl:r.getLast?=some b:=by
   rw[List.getLast?_cons]at h2;cases j:r.getLast? with
   |none=>exact absurd (List.getLast?_eq_none_iff.1 j) m
   |some x=>rw[j]at h2;exact h2
  have e:r.dropLast++[b]=r:=by
   obtain⟨ys,rfl⟩:=List.getLast?_eq_some_iff.1 hl;rw[List.dropLast_concat]
  rw[hc,List.drop_one,List.tail_cons,e]
theorem ER(h:jS l=some b):l=39 :: (b++[39])/\b.length<=30/\∀c∈b,fH c=true/\c≠39:=by
 unfold jS at h;split at h
 ·rename_i hc;obtain⟨h1,h2,e,j,m⟩:=hc;cases h;refine⟨DC h1 e j,?_,λc hc=>?_⟩
  ·grind
  grind
 cases h
theorem rH(h1:b.length<=30)(h2:∀c∈b,fH c=true/\c≠39):jS (39 :: (b++[39]))=some b:=by
 grind [jS]
theorem sC{x:a_}(h:gD l=some x):l=123 :: (x++[125]):=by
 grind [gD,DC]
theorem oE(x):gD (123 :: (x++[125]))=some x:=by
 grind [gD]
def jT(f:a_->Option V):List (a_)->Option (List V)
 |[]=>some []
 |a :: r=>match f a with
  |none=>none
  |some v=>(jT f r).map (v :: ·)
def ua(f g):∀l:List V,(∀u∈l,f (g u)=some u)->jT f (l.map g)=some l
 |[],_=>rfl
 |u :: l,h=>by
  rw[Qg,jT,h u R2,ua f g l (λx hx=>h x (aT _ hx))];rfl
def ub(f g)(P:V->Prop)(hf:∀a v,f a=some v->P v/\a=g v):∀ps vs,jT f ps=some vs->(∀v∈vs,P v)/\ps=vs.map g
 |[],vs,h=>by cases h;exact⟨(λv hv=>by cases hv),rfl⟩
 |a :: ps,vs,h=>by
  rw[jT]at h;cases e:f a with
  |none=>rw[e]at h;cases h
  |some v =>
   rw[e]at h;simp only at h;cases j:jT f ps with
   |none=>rw[j]at h;cases h
   |some l =>
    rw[j]at h;cases h;obtain⟨h1,h2⟩:=ub f g P hf ps l j;obtain⟨m,p⟩:=hf a v e;refine⟨λu hu=>?_,by rw[Qg,<-h2,<-p]⟩;rcases aP.1 hu with rfl|hu
    ·exact m
    exact h1 u hu
def rv:Nat->a_->Option V
 |n,l=>match dT l with
  |some i=>some (vn i)
  |none=>match jS l with
   |some b=>some (vw b)
   |none=>match n with
    |0=>none
    |m+1=>match gD l with
     |none=>none
     |some x=>if 12<(fU x).length then none else(jT (rv m) (fU x)).map vl
theorem pP(n l):rv n l=match dT l with
  |some i=>some (vn i)
  |none=>match jS l with
   |some b=>some (vw b)
   |none=>match n with
    |0=>none
    |m+1=>match gD l with
     |none=>none
     |some x=>if 12<(fU x).length then none else(jT (rv m) (fU x)).map vl:=by
 rw[rv.eq_def]
def lr(h:l.head?=some c)(hc:mu c=false):dT l=none:=by
 cases j:dT l with
 |none=>rfl
 |some i =>
  have e:=(jd j).1;have h2:=jR i c (by rw[e];exact List.mem_of_head? h);rw[hc]at h2;cases h2
def yt:∀n l v,rv n l=some v->iM n v/\l=wr n v
 |n,l,v,h=>by
  rw[pP]at h;cases j:dT l with
  |some i =>
   rw[j]at h;cases h;obtain⟨e,u⟩:=jd j;have y:=iy l i u;exact⟨by unfold iM;exact y,by unfold wr;exact e.symm⟩
  |none =>
   rw[j]at h;simp only at h;cases r:jS l with
   |some b =>
    rw[r]at h;cases h;obtain⟨e,h1,h2⟩:=ER r;exact⟨by unfold iM;exact⟨h1,h2⟩,by unfold wr;exact e⟩
   |none =>
    rw[r]at h;simp only at h
    match n,h with
    |m+1,h =>
     simp only at h;cases hi:gD l with
     |none=>rw[hi]at h;cases h
     |some x =>
      rw[hi]at h;simp only at h;split at h
      ·cases h
      rename_i z;cases p:jT (rv m) (fU x) with
      |none=>rw[p]at h;cases h
      |some vs =>
       rw[p]at h;cases h;obtain⟨h1,h2⟩:=ub (rv m) (wr m) (iM m) (λa v=>yt m a v) _ _ p;have hlen:vs.length<=12:=by
        have:=congrArg List.length h2;rw[aG]at this;omega
       have hx:x=cJ (vs.map (wr m)):=by
        rw[<-h2];by_cases e:x=[]
        ·rw[e];rfl
        exact(zY e).symm
       refine⟨by unfold iM vl;exact⟨hlen,h1⟩,?_⟩;rw[sC hi,hx];unfold vl;rw[wr]
theorem DE:∀n v,iM n v->rv n (wr n v)=some v
 |n,⟨.inl i⟩,h=>by
  have e:wr n ⟨.inl i⟩=Lib.itoa i:=S6;unfold iM at h;rw[e,pP,gY i h.1 h.2];rfl
 |n,⟨.inr (.inl b)⟩,h=>by
  have e:wr n ⟨.inr (.inl b)⟩=39 :: (b++[39]):=S6;unfold iM at h;rw[e,pP,lr (c:=39) rfl RZ,rH h.1 h.2];rfl
 |0,⟨.inr (.inr l)⟩,h=>by
  unfold iM at h;exact h.elim
 |n+1,⟨.inr (.inr l)⟩,h=>by
  have e:wr (n+1) ⟨.inr (.inr l)⟩=123 :: (cJ (l.map (wr n))++[125]):=by rw[wr]
  unfold iM at h;have m:jS (123 :: (cJ (l.map (wr n))++[125]))=none:=by
   unfold jS;rw[ae];rintro⟨_,_,j,_⟩;cases j
  rw[e,pP,lr (c:=123) rfl RZ,m];simp only;rw[oE];simp only;rw[mV h.2,aG,ae RM,ua (rv n) (wr n) l (λu hu=>DE n u (h.2 u hu))];rfl
def M5(l):sA l=rv 3 l:=by
 cases h:rv 3 l with
 |some v =>
  obtain⟨h1,h2⟩:=yt 3 l v h;rw[h2];exact GP h1
 |none =>
  cases h2:sA l with
  |none=>rfl
  |some v =>
   obtain⟨e,j⟩:=qE h2;rw[j,DE 3 v e]at h;cases h
end bY
end
section
namespace bY
abbrev By:=a_
abbrev Wo:=Except Nat V
structure Pg(α:Type) where
 x:Sum α (By×(Wo->Pg α))
namespace Pg
variable {α β:Type}
def ret(a:α):Pg α:=⟨.inl a⟩
def ask(k:By)(c:Wo->Pg α):Pg α:=⟨.inr (k,c)⟩
def bind:Pg α->(α->Pg β)->Pg β
 |⟨.inl a⟩,f=>f a
 |⟨.inr (k,c)⟩,f=>ask k λw=>(c w).bind f
def run{σ:Type}(N:By->σ->Wo×σ):Pg α->σ->α×σ
 |⟨.inl a⟩,s=>(a,s)
 |⟨.inr (k,c)⟩,s=>(c (N k s).1).run N (N k s).2
def run_bind{σ:Type}(N):∀(p:Pg α) (f:α->Pg β) (s:σ),(p.bind f).run N s=(f (p.run N s).1).run N (p.run N s).2
 |⟨.inl _⟩,_,_=>rfl
 |⟨.inr (_,_)⟩,f,s=>by simp only[bind,run,ask];exact run_bind N _ f _
def ind{P:Pg α->Prop}(h1:∀a,P (ret a))(h2:∀k c,(∀w,P (c w))->P (ask k c)):∀p,P p
 |⟨.inl a⟩=>h1 a
 |⟨.inr (k,c)⟩=>h2 k c λw=>ind h1 h2 (c w)
end Pg
abbrev Pe(α:Type):=Pg (Except Nat α×Nat)
def eL{α β:Type}(p:Pe α)(k:α->Nat->Pe β):Pe β :=p.bind λq=>match q.1 with|.ok a=>k a q.2|.error e=>.ret (.error e,q.2)
def oo{α:Type}(E:α->Nat->Pe V):List α->List V->Nat->Pe V
 |[],b,f=>.ret (dX b,f)
 |a :: r,b,f=>eL (E a f) λv f=>oo E r (b++[v]) f
def ly(E:V->Nat->Pe V):List V->List V->Nat->Pe V
 |[],b,f=>.ret (dX b,f)
 |a :: r,b,f=>eL (E a f) λv f =>
  match fg v with
  |.ok i=>if i=0 then ly E r b f else ly E r (b++[a]) f
  |.error e=>.ret (.error e,f)
def kr(b:By)(f:Nat):Pe V:=.ask b λw=>.ret (w,f)
def pN(p:Pe V)(k:Nat->Pe V):Pe V :=p.bind λq=>match q.1 with
  |.ok v=>.ret (.ok v,q.2)
  |.error e=>if e=7\/e=8\/e=9\/e=10 then k q.2 else .ret (.error e,q.2)
def fh(E:T->Nat->Pe V)(t:T)(f:Nat):Pe V :=eL (E (t.cG 0) f) λv f =>
  if t.cq=1\/t.cq=13 then eL (E (t.cG 1) f) λu f=>.ret (make t.op v u,f)
  else if t.cq=5 then .ret (make 45 (vn 0) v,f)
  else if t.cq=7 then
   (match keyOf v with
   |.ok k=>kr k f
   |.error e=>.ret (.error e,f))
  else if t.cq=9 then
   (match fg v with
   |.ok i=>if i=0 then E (t.cG 2) f else E (t.cG 1) f
   |.error e=>.ret (.error e,f))
  else if t.cq=10 then .ret (size v,f)
  else if t.cq=11 then .ret (jM v,f)
  else if t.cq=12 then .ret (ia v,f)
  else .ret (.ok v,f)
def tr:Nat->T->Option V->Nat->Pe V
 |0,_,_,f=>.ret (.error 11,f)
 |n+1,t,it,f =>
  if t.cq=1 then fh (λu f=>tr n u it f) t f
  else if f=0 then .ret (.error 11,f)
  else if t.cq=2 then .ret ((match t.is with|some v=>.ok v|.none=>.error 11),f-1)
  else if t.cq=3 then kr t.name (f-1)
  else if t.cq=4 then .ret ((match it with|some v=>.ok v|.none=>.error 11),f-1)
  else if t.cq=14 then pN (tr n (t.cG 0) it (f-1)) λf=>tr n (t.cG 1) it f
  else if t.cq=15 then eL (tr n (t.cG 0) it (f-1)) λv f =>
   (match eK v with
   |.ok l=>oo (λu f=>tr n (t.cG 1) (some u) f) l [] f
   |.error e=>.ret (.error e,f))
  else if t.cq=16 then eL (tr n (t.cG 0) it (f-1)) λv f =>
   (match eK v with
   |.ok l=>ly (λu f=>tr n (t.cG 1) (some u) f) l [] f
   |.error e=>.ret (.error e,f))
  else if t.cq=8 then oo (λu f=>tr n u it f) t.parts [] (f-1)
  else fh (λu f=>tr n u it f) t (f-1)
section
variable {σ:Type} (N:By->σ->Wo×σ)
def flat{β:Type}(q:(Except Nat β×Nat)×σ):Except Nat β×(Nat×σ):=(q.1.1,(q.1.2,q.2))
def lf{α β:Type}(p k)(K:α->Nat×σ->Except Nat β×(Nat×σ))(b:∀a f s,K a (f,s)=flat ((k a f).run N s))(s):flat ((eL p k).run N s)=iX (flat (p.run N s)) K:=by
 unfold eL;rw[Pg.run_bind];obtain⟨⟨r,f⟩,s'⟩:=p.run N s;cases r with
 |ok a=>exact(b a f s').symm
 |error e=>rfl
def uj{α:Type}(E P)(e:∀a f s,E a (f,s)=flat ((P a f).run N s)):∀(l:List α) (b) (f) (s),mZ E l b (f,s)=flat ((oo P l b f).run N s)
 |[],b,f,s=>rfl
 |a :: r,b,f,s=>by
  rw[mZ,oo,lf N _ _ (λv s=>mZ E r (b++[v]) s) (λv f s=>uj E P e r _ f s),e]
def rL(E P)(j:∀a f s,E a (f,s)=flat ((P a f).run N s)):∀l b f s,jx E l b (f,s)=flat ((ly P l b f).run N s)
 |[],b,f,s=>rfl
 |a :: r,b,f,s=>by
  rw[jx,ly,j];refine(lf N _ _ _ (λv f s=>?_) s).symm;cases fg v with
  |ok i =>
   by_cases h:i=0
   ·simp only[h,aN];exact rL E P j r b f s
   simp only[h,Qn];exact rL E P j r _ f s
  |error e=>rfl
def uk(E P)(b:∀a f s,E a (f,s)=flat ((P a f).run N s))(t f s):fQ N E t (f,s)=flat ((fh P t f).run N s):=by
 unfold fQ fh;rw[lf N _ _ _ (λv f s=>?_),b];by_cases h1:t.cq=1\/t.cq=13
 ·simp only[ag h1];rw[lf N _ _ _ (λu f s=>?_),b];rfl
 simp only[ae h1];by_cases n:t.cq=5
 ·simp only[ag n];rfl
 simp only[ae n];by_cases p:t.cq=7
 ·simp only[ag p];cases keyOf v<;>rfl
 simp only[ae p];by_cases r:t.cq=9
 ·simp only[ag r];cases fg v with
  |error e=>rfl
  |ok i =>
   by_cases h:i=0
   ·simp only[h,aN];exact b _ _ _
   simp only[h,Qn];exact b _ _ _
 simp only[ae r];by_cases j:t.cq=10
 ·simp only[ag j];rfl
 simp only[ae j];by_cases l:t.cq=11
 ·simp only[ag l];rfl
 simp only[ae l];by_cases m:t.cq=12
 ·simp only[ag m];rfl
 simp only[ae m];rfl
def oH:∀n t it f s,ev N n t it (f,s)=flat ((tr n t it f).run N s)
 |0,_,_,_,_=>rfl
 |n+1,t,it,f,s=>by
  unfold ev tr;by_cases h1:t.cq=1
  ·simp only[ag h1];exact uk N _ _ (λu f s=>oH n u it f s) t f s
  simp only[ae h1];by_cases b:f=0
  ·simp only[ag b];rfl
  simp only[ae b];by_cases h2:t.cq=2
  ·simp only[ag h2];rfl
  simp only[ae h2];by_cases y:t.cq=3
  ·simp only[ag y];rfl
  simp only[ae y];by_cases z:t.cq=4
  ·simp only[ag z];rfl
  simp only[ae z];by_cases j:t.cq=14
  ·simp only[ag j];rw[oH n (t.cG 0) it (f-1) s];unfold pN;rw[Pg.run_bind];obtain⟨⟨r,f'⟩,s'⟩:=(tr n (t.cG 0) it (f-1)).run N s;cases r with
   |ok v=>rfl
   |error e =>
    by_cases C:e=7\/e=8\/e=9\/e=10
    ·simp only[flat,ag C];exact oH n _ it _ _
    simp only[flat,ae C];rfl
  simp only[ae j];by_cases m:t.cq=15
  ·simp only[ag m];rw[lf N _ _ _ (λv f s=>?_),oH n];cases eK v with
   |error e=>rfl
   |ok l=>exact uj N _ _ (λu f s=>oH n _ _ f s) l [] f s
  simp only[ae m];by_cases p:t.cq=16
  ·simp only[ag p];rw[lf N _ _ _ (λv f s=>?_),oH n];cases eK v with
   |error e=>rfl
   |ok l=>exact rL N _ _ (λu f s=>oH n _ _ f s) l [] f s
  simp only[ae p];by_cases B:t.cq=8
  ·simp only[ag B];exact uj N _ _ (λu f s=>oH n _ _ f s) _ _ _ _
  simp only[ae B];exact uk N _ _ (λu f s=>oH n u it f s) t _ s
end
/-! Who is told round stops,and is round;no one else is. -/
def Good{α:Type}:Pe α->Prop
 |⟨.inl q⟩=>q.1≠.error 12
 |⟨.inr (_,c)⟩=>(∃f,c (.error 12)=.ret (.error 12,f))/\∀w,w≠.error 12->Good (c w)
def jW{α β:Type}:∀p (k:α->Nat->Pe β),Good p->(∀v f,Good (k v f))->Good (eL p k)
 |⟨.inl (.ok a,f)⟩,k,_,b=>b a f
 |⟨.inl (.error e,f)⟩,k,h,_=>by
  show(Except.error e:Except Nat β)≠_;intro j;apply h;cases j;rfl
 |⟨.inr (q,c)⟩,k,h,b=>by
  obtain⟨⟨f,hf⟩,h2⟩:=h;refine⟨⟨f,?_⟩,λw l=>jW (c w) k (h2 w l) b⟩;show(c _).bind _=_;rw[hf];rfl
def z':∀p k,Good p->(∀f,Good (k f))->Good (pN p k)
 |⟨.inl (.ok a,_)⟩,_,_,_=>by
  show(Except.ok a:Except Nat V)≠_;intro h;cases h
 |⟨.inl (.error e,f)⟩,k,h,b=>by
  unfold pN;simp only[Pg.bind];by_cases j:e=7\/e=8\/e=9\/e=10
  ·rw[ag j];exact b f
  rw[ae j];exact h
 |⟨.inr (q,c)⟩,k,h,b=>by
  obtain⟨⟨f,hf⟩,h2⟩:=h;refine⟨⟨f,?_⟩,λw l=>z' (c w) k (h2 w l) b⟩;show(c _).bind _=_;rw[hf];rfl
theorem rM(l):dX l≠.error 12:=by
 grind [dX]
def um{α:Type}(P)(e:∀a f,Good (P a f)):∀(l:List α) (b) (f),Good (oo P l b f)
 |[],b,f=>rM b
 |a :: r,b,f=>jW _ _ (e a f) λv f=>um P e r _ f
theorem z_(v):fg v≠.error 12:=by
 grind [fg]
theorem wZ(v):eK v≠.error 12:=by
 grind [eK]
theorem G6(v):keyOf v≠.error 12:=by
 grind [keyOf]
def rN(P)(j:∀a f,Good (P a f)):∀l b f,Good (ly P l b f)
 |[],b,f=>rM b
 |a :: r,b,f=>jW _ _ (j a f) λv f=>by
  have n:=z_ v;cases h:fg v with
  |ok i =>
   show Good (if i=0 then _ else _);by_cases m:i=0
   ·rw[ag m];exact rN P j r _ f
   rw[ae m];exact rN P j r _ f
  |error e =>
   rw[h]at n;intro p;apply n;cases p;rfl
def w_(k f):Good (kr k f):=⟨⟨f,rfl⟩,λ_ b=>b⟩
theorem DH(x y g)(b:∀i j,g i j≠.error 12):mr x y g≠.error 12:=by
 grind [mr]
theorem DI(op x y):make op x y≠.error 12:=by
 unfold make;split
 ·grind [plus,rM]
 split
 ·grind [DH]
 grind [less,gd,place,DH]
theorem uo:∀l a,fx a l≠.error 12
 |[],a=>by intro h;cases h
 |v :: r,a=>by
  unfold fx;split
  ·exact uo r _
  intro h;cases h
theorem uq(P)(j:∀a f,Good (P a f))(t f):Good (fh P t f):=by
 unfold fh;refine jW _ _ (j _ _) λv f=>?_;split
 ·exact jW _ _ (j _ _) λu f=>DI _ _ _
 split
 ·exact DI 45 (vn 0) v
 split
 ·have b:=G6 v;split
  ·exact w_ _ _
  rename_i e h;rw[h]at b;intro l
  grind
 split
 ·have b:=z_ v;split
  ·grind
  rename_i e h;rw[h]at b;intro l
  grind
 split
 ·show size v≠_
  grind [size]
 split
 ·show jM v≠_
  grind [jM,uo]
 split
 ·show ia v≠_
  grind [ia]
 intro h;cases h
def kh:∀n t it f,Good (tr n t it f)
 |0,_,_,_=>by intro h;cases h
 |n+1,t,it,f=>by
  unfold tr;split
  ·exact uq _ (λu f=>kh n u it f) t f
  split
  ·intro h;cases h
  split
  ·show(match t.is with|some v=>Except.ok v|.none=>Except.error 11)≠_;split<;>intro h<;>cases h
  split
  ·exact w_ _ _
  split
  ·show(match it with|some v=>Except.ok v|.none=>Except.error 11)≠_;split<;>intro h<;>cases h
  split
  ·exact z' _ _ (kh n _ _ _) λf=>kh n _ _ _
  split
  ·refine jW _ _ (kh n _ _ _) λv f=>?_;have b:=wZ v;split
   ·exact um _ (λu f=>kh n _ _ _) _ _ _
   rename_i e h;rw[h]at b;intro j;apply b;cases j;rfl
  split
  ·refine jW _ _ (kh n _ _ _) λv f=>?_;have b:=wZ v;split
   ·exact rN _ (λu f=>kh n _ _ _) _ _ _
   rename_i e h;rw[h]at b;intro j;apply b;cases j;rfl
  split
  ·exact um _ (λu f=>kh n _ _ _) _ _ _
  exact uq _ (λu f=>kh n u it f) t _
def Pg.dQ:Pe V->Pg Wo
 |⟨.inl q⟩=>.ret q.1
 |⟨.inr (k,c)⟩=>.ask k λw=>(c w).dQ
def Pg.rO{σ:Type}(N):∀(p:Pe V) (s:σ),p.dQ.run N s=((p.run N s).1.1,(p.run N s).2)
 |⟨.inl _⟩,_=>rfl
 |⟨.inr (_,_)⟩,s=>by simp only[Pg.dQ,Pg.run,Pg.ask];exact Pg.rO N _ _
def Fin:Pg Wo->Prop
 |⟨.inl w⟩=>w≠.error 12
 |⟨.inr (_,c)⟩=>c (.error 12)=.ret (.error 12)/\∀w,w≠.error 12->Fin (c w)
def xc:∀p,Good p->Fin p.dQ
 |⟨.inl _⟩,h=>h
 |⟨.inr (_,c)⟩,⟨⟨f,hf⟩,h2⟩=>⟨by show(c _).dQ=_;rw[hf];rfl,λw b=>xc (c w) (h2 w b)⟩
end bY
end
section
namespace bY
variable{m i:Nat}{b:Bool}{t l:a_}{r:RT}{f:Nat->List T->RT}{x:Nat×List T}
theorem G7{n:Nat}{b:Bool}{t:T}(h1:1<=t.cq)(h2:t.cq<=16)(e:t.cq=8\/t.parts.length=jy t.cq)(j:t.parts.length<=200)
  (p:t.cq=1->t.op∈[43,45,42,47,60,61]) (y:t.cq=13->t.op∈[109,120,64]) (z:t.cq=2->t.is.isSome=true) (B:t.cq=4->b=true)
  (C:if t.cq=15\/t.cq=16 then ib n b (t.cG 0)=true/\ib n true (t.cG 1)=true else ∀u∈t.parts,ib n b u=true):ib (n+1) b t=true:=by
 rw[ib]
 grind
def yB:∀{n:Nat} {b:Bool} {t:T},ib n b t=true->ib (n+1) b t=true
 |0,_,_,h=>by simp[ib]at h
 |n+1,b,t,h=>by
  rw[ib]at h ⊢;simp only[QB]at h ⊢;refine⟨h.1,?_⟩;have h2:=h.2;split at h2
  ·rename_i e;rw[ag e];simp only[QB]at h2 ⊢;exact⟨yB h2.1,yB h2.2⟩
  rename_i e;rw[ae e];rw[P_]at h2 ⊢;exact λu hu=>yB (h2 u hu)
def jX{n:Nat}{t:T}(h:ib n b t=true)(e:n<=m):ib m b t=true:=by
 induction e with
 |refl=>exact h
 |step _ j=>exact yB j
def eM(h:cZ r f=.ok x):∃j ts,r=.ok (j,ts)/\f j ts=.ok x:=by
 rcases r with e|⟨j,ts⟩
 ·cases h
 exact⟨j,ts,rfl,h⟩
theorem qJ{k:Nat}{ts us:List T}(h:eQ l t i ts=.ok (k,us))(j:t≠[])(hi:i<=l.length):us=ts/\i+1<=k/\k<=l.length:=by
 have e:=lg l t i ts;rw[h]at e;have h1:=fI e.symm j hi
 grind [eQ]
def One(l:a_)(m:Nat)(b:Bool)(i j:Nat)(ts:List T):Prop:=i+1<=j/\j<=l.length/\∃t,ts=[t]/\ib m b t=true
def One.exp(p:∀j ts,r=.ok (j,ts)->One l m b i j ts)(h:cZ r (eQ l t)=.ok x)(u:t≠[]):One l m b i x.1 x.2:=by
 obtain⟨j,ts,h1,h2⟩:=eM h;obtain⟨a1,e,n⟩:=p j ts h1;obtain⟨k,us⟩:=x;obtain⟨rfl,b1,b2⟩:=qJ h2 u e;exact⟨by show i+1<=k;omega,b2,n⟩
def G8(l:a_)(m:Nat)(b:Bool)(k i j:Nat)(ts:List T):Prop :=i<=j/\j<=l.length/\(k=8\/ts.length=jy k)/\ts.length<=(j-i)+3/\(k=8->ts.length<=j-i) /\(if k=15\/k=16 then ∃t u,ts=[t,u]/\ib m b t=true/\ib m true u=true else ∀u∈ts,ib m b u=true)
theorem G9{l:a_}{m:Nat}{b:Bool}{k i j:Nat}{ts:List T}{R F W:Nat->RT}{I:Nat->List T->RT}(h:gq l k i R F W I=.ok (j,ts))(hi:i<=l.length)(U:2<=k)(V:k<=16)
  (p:∀a j ts,a<=l.length->R a=.ok (j,ts)->One l m b a j ts) (hF:∀a j ts,a<=l.length->F a=.ok (j,ts)->One l m b a j ts) (P:∀a j ts,a<=l.length->W a=.ok (j,ts)->One l m true a j ts)
  (O:∀a E j ts,a<=l.length->(∀u∈E,ib m b u=true)->I a E=.ok (j,ts)->a<=j/\j<=l.length/\ts.length<=E.length+(j-a)/\∀u∈ts,ib m b u=true):G8 l m b k i j ts:=by
 have one:∀k,k≠8->jy k=1->¬(k=15\/k=16)->One l m b i j ts->G8 l m b k i j ts:=λk N h1 X ⟨a1,n,t,L,D⟩=>by
  subst L;refine⟨by omega,n,.inr SY,by simp,λh=>absurd h N,?_⟩
  grind
 unfold gq at h;split at h
 ·rename_i e;subst e;exact one 5 RZ rfl RZ (hF i j ts hi h)
 split at h
 ·rename_i e;subst e;exact one 6 RZ rfl RZ (One.exp (λj ts=>p i j ts hi) h R2)
 split at h
 ·rename_i e;subst e;exact one 7 RZ rfl RZ (One.exp (λj ts=>p i j ts hi) h R2)
 split at h
 ·rename_i e;subst e;split at h
  ·rename_i hb;cases h;have h1:=fO (ma (l:=l) (i:=i) SV);have h2:=fb l i hi;exact⟨by omega,h2,.inl rfl,by simp,λ_=>by simp,by simp⟩
  obtain⟨a,us,h1,h2⟩:=eM h;obtain⟨a1,n,t,rfl,D⟩:=p i a us hi h1;obtain⟨b1,b2,M,S⟩:=O a _ j ts n S4 h2;simp at M;refine⟨by omega,b2,.inl rfl,by omega,λ_=>by omega,?_⟩
  grind
 split at h
 ·rename_i e;subst e;obtain⟨a,t1,h1,h2⟩:=eM h;obtain⟨a1,n,u1,e1,D⟩:=One.exp (λj ts=>p i j ts hi) h1 R2;obtain⟨c,t2,y,z⟩:=eM h2;obtain⟨c1,c2,u2,e2,J⟩:=One.exp (λj ts=>p a j ts n) y R2;obtain⟨d,t3,B,C⟩:=eM z;obtain⟨d1,d2,u3,K,d4⟩:=hF c d t3 c2 B;dsimp only at a1 n e1 c1 c2 e2 K;cases C;subst e1 e2 K;refine⟨by omega,d2,.inr rfl,by simp,λh=>absurd h RZ,?_⟩
  grind
 split at h
 ·rename_i e;obtain⟨a,t1,h1,h2⟩:=eM h;obtain⟨_,a1,n⟩:=qJ h1 R2 hi;obtain⟨c1,c2,G⟩:=One.exp (λj ts=>p a j ts n) h2 R2;dsimp only at c1 c2 G;refine one k RM ?_ RM ⟨by omega,c2,G⟩;rcases e with rfl|rfl|rfl<;>rfl
 split at h
 ·rename_i e;obtain⟨a,t1,h1,h2⟩:=eM h;obtain⟨_,a1,n⟩:=qJ h1 R2 hi;obtain⟨c,t2,y,z⟩:=eM h2;obtain⟨c1,c2,u1,e1,J⟩:=One.exp (λj ts=>p a j ts n) y R2;obtain⟨d,t3,B,C⟩:=eM z;obtain⟨d1,d2,u2,e2,d4⟩:=One.exp (λj ts=>p c j ts c2) B R2;dsimp only at c1 c2 e1 d1 d2 e2;cases C;subst e1 e2;refine⟨by omega,d2,.inr (by rcases e with rfl|rfl<;>rfl),by simp,λh=>by omega,?_⟩
  grind
 split at h
 ·rename_i e;obtain⟨a,t1,h1,h2⟩:=eM h;obtain⟨_,a1,n⟩:=qJ h1 R2 hi;obtain⟨c,t2,y,z⟩:=eM h2;obtain⟨c1,c2,u1,e1,J⟩:=One.exp (λj ts=>p a j ts n) y R2;obtain⟨d,t3,B,C⟩:=eM z;obtain⟨d1,d2,u2,e2,d4⟩:=One.exp (λj ts=>P c j ts c2) B R2;dsimp only at c1 c2 e1 d1 d2 e2;cases C;subst e1 e2;refine⟨by omega,d2,.inr (by rcases e with rfl|rfl<;>rfl),by simp,λh=>by omega,?_⟩
  grind
 cases h;have Q:jy k=0:=by
  have:k=2\/k=3\/k=4:=RM;rcases this with rfl|rfl|rfl<;>rfl
 refine⟨af _,hi,.inr (by simp[Q]),by simp,λh=>by omega,?_⟩
 grind
end bY
end
section
namespace bY
variable{l p:a_}{i:Nat}{ts:List T}
def PD:∀l c,0<=Lib.indexByte l c->c∈l
 |[],c,h=>by simp[Lib.indexByte]at h
 |b :: l,c,h=>by
  rw[Lib.indexByte]at h;by_cases hb:(b==c)=true
  ·have:b=c:=Sq;subst this;simp
  rw[ae hb]at h;split at h
  ·simp at h
  rename_i h1;have e:Lib.indexByte l c≠-1:=SR;have j:=Lib.indexByte_ge l c;exact aT _ (PD l c RM)
def M_(h:fY l i p=true):∃c,tx l i=[c]/\c∈p:=by
 unfold fY at h;split at h
 ·rename_i c hc;simp at h;exact⟨c,hc,PD _ _ h.2⟩
 cases h
theorem lU(t b):∀x,fu t b=x->(x=0\/(4<=x/\x<=16))/\(x=4->0<b):=by
 intro x hx;unfold fu at hx;split at hx
 ·grind
 grind
theorem lV(t):∀x,jL t=x->x=0\/(5<=x/\x<=8):=by
 grind [jL]
def xd(l i b):∀x,cq l i b=x->(x=0\/(2<=x/\x<=16))/\(x=4->0<b):=by
 intro x hx;unfold cq kindOf at hx;split at hx
 ·omega
 split at hx
 ·omega
 split at hx
 ·have:=lU _ _ _ hx;omega
 split at hx
 ·have:=lV _ _ hx;omega
 omega
def mS{i b:Nat}(h:cq l i b≠0):2<=cq l i b/\cq l i b<=16:=by
 have:=(xd l i b _ rfl).1;omega
def KG{i b:Nat}(h:cq l i b=4):0<b:=(xd l i b _ rfl).2 h
theorem G_{i b:Nat}(h:cq l i b=2):(m_ (l.drop i)).isSome=true:=by
 unfold cq kindOf at h;split at h
 ·grind [m_]
 exfalso;split at h
 ·omega
 split at h
 ·have:=lU _ _ _ h;omega
 split at h
 ·have:=lV _ _ h;omega
 omega
theorem Cg(t):byteOf t∈[109,120,64]:=by
 grind [byteOf]
def hT:Nat->Nat
 |0=>0
 |n+1=>hT n+n+2
theorem yC{m:Nat}{b:Bool}{t u:T}(h:fY l i p=true)(hs:∀c∈p,c.toNat∈[43,45,42,47,60,61])(e:ib m b t=true)(hu:ib m b u=true):ib (m+1) b (iT l i [t] [u])=true:=by
 obtain⟨c,h1,h2⟩:=M_ h;refine G7 SJ SJ (.inr rfl) SJ (λ_=>?_) SJ SJ SJ ?_
 ·grind [iT,List.headD_cons]
 grind [iT]
theorem KH{i b j m:Nat}(hl:l.length<=200)(z:cq l i b≠0)(h:G8 l m (decide (0<b)) (cq l i b) (fC l i) j ts):ib (m+1) (decide (0<b)) (ij l (cq l i b) i ts)=true:=by
 have B:=mS z;obtain⟨h1,h2,y,C,D,e⟩:=h;have hlen:ts.length<=200:=by
  grind [jy]
 refine G7 (by show 1<=cq l i b;omega) B.2 y hlen (λh=>?_) (λh=>?_) (λh=>G_ h) (λh=>?_) ?_
 ·have:cq l i b=1:=h;omega
 ·grind [ij,Cg]
 ·simpa using KG h
 show if cq l i b=15\/cq l i b=16 then _ else _
 split at e
 ·rename_i n;rw[ag n];obtain⟨t,u,rfl,a1,r⟩:=e;exact⟨a1,r⟩
 rename_i n;rw[ae n];exact e
def ur{n b e m i j:Nat}{r:List T}(h:PT l n b e m i r=.ok (j,ts))(hi:i<=l.length):i+(if b<=3 then 1 else 0)<=j/\j<=l.length:=by
 have u:=oJ l n b e m i r;rw[h]at u;exact jv l n b e m i j u.symm hi
def ML(l)(hl:l.length<=200):∀n,(∀F E y i D j ts,F<=3->i<=l.length->PT l n F E y i D=.ok (j,ts)->One l (hT n) (decide (0<y)) i j ts) /\(∀F E y i a m j ts,(F=4\/F=5)->i<=l.length->hT n<=m->ib m (decide (0<y)) a=true->PT l n F E y i [a]=.ok (j,ts)->∃t,ts=[t]/\ib (m+n) (decide (0<y)) t=true) /\(∀E y i D m j ts,i<=l.length->hT n<=m->(∀u∈D,ib m (decide (0<y)) u=true)->PT l n 6 E y i D=.ok (j,ts)->ts.length<=D.length+(j-i)/\∀u∈ts,ib m (decide (0<y)) u=true):=by
 have X:∀c∈([60,61]:a_),c.toNat∈[43,45,42,47,60,61]:=RZ;have Y:∀c∈([43,45]:a_),c.toNat∈[43,45,42,47,60,61]:=RZ;have Z:∀c∈([42,47]:a_),c.toNat∈[43,45,42,47,60,61]:=RZ;intro n
 induction n with
 |zero=>exact⟨λ_ _ _ _ _ _ _ _ _ h=>by simp[PT]at h,λ_ _ _ _ _ _ _ _ _ _ _ _ h=>by simp[PT]at h,λ_ _ _ _ _ _ _ _ _ _ h=>by simp[PT]at h⟩
 |succ n V =>
  obtain⟨C,J,P⟩:=V;have hh:hT (n+1)=hT n+n+2:=rfl;refine⟨?_,?_,?_⟩
  ·intro F E y i D j ts O hi h;have K:=ur h hi;rw[ag O]at K;refine⟨K.1,K.2,?_⟩;rw[PT]at h;split at h
   ·obtain⟨a,us,h1,h2⟩:=eM h;obtain⟨a1,z,t,rfl,B⟩:=C _ _ _ _ _ _ _ RM hi h1;split at h2
    ·rename_i G;obtain⟨c,vs,R,S⟩:=eM h2;obtain⟨b1,b2,u,rfl,Q⟩:=C _ _ _ _ _ _ _ RM (fb l a z) R;cases S;exact⟨_,rfl,jX (yC G X B Q) RM⟩
    cases h2;exact⟨t,rfl,jX B RM⟩
   split at h
   ·obtain⟨a,us,h1,h2⟩:=eM h;obtain⟨a1,z,t,rfl,B⟩:=C _ _ _ _ _ _ _ RM hi h1;obtain⟨u,e,hu⟩:=J _ _ _ _ _ _ _ _ (.inl rfl) z (af _) B h2;exact⟨u,e,jX hu RM⟩
   split at h
   ·obtain⟨a,us,h1,h2⟩:=eM h;obtain⟨a1,z,t,rfl,B⟩:=C _ _ _ _ _ _ _ RM hi h1;obtain⟨u,e,hu⟩:=J _ _ _ _ _ _ _ _ (.inr rfl) z (af _) B h2;exact⟨u,e,jX hu RM⟩
   split at h
   ·split at h
    ·cases h
    rename_i M;split at h
    ·cases h
    obtain⟨a,us,h1,h2⟩:=eM h;have N:=mS M;have U:=G9 (m:=hT n) (b:=decide _) h1 (fb l i hi) N.1 N.2 (λa j ts r h=>C _ _ _ _ _ _ _ RM r h) (λa j ts r h=>C _ _ _ _ _ _ _ RM r h)
     (λa j ts r h=>by have:=C _ _ _ _ _ _ _ RM r h;simpa using this)
     (λa D j ts r I h=>by
      have h1:=ur h r;have h2:=P _ _ _ _ _ _ _ r (af _) I h;exact⟨by omega,h1.2,h2.1,h2.2⟩)
    cases h2;exact⟨_,rfl,jX (KH hl M U) RM⟩
   exfalso;omega
  ·intro F E y i a m j ts O hi T r h;rw[PT]at h;rw[ae RM,ae RM,ae RM,ae RM]at h;split at h
   ·rename_i e;subst e;split at h
    ·rename_i G;obtain⟨c,us,h1,h2⟩:=eM h;obtain⟨a1,z,t,rfl,B⟩:=C _ _ _ _ _ _ _ RM (fb l i hi) h1;obtain⟨u,e,hu⟩:=J _ _ _ _ _ _ _ _ (.inl rfl) z RM (yC G Y r (jX B RM)) h2;exact⟨u,e,jX hu RM⟩
    cases h;exact⟨a,rfl,jX r RM⟩
   split at h
   ·rename_i e;subst e;split at h
    ·rename_i G;obtain⟨c,us,h1,h2⟩:=eM h;obtain⟨a1,z,t,rfl,B⟩:=C _ _ _ _ _ _ _ RM (fb l i hi) h1;obtain⟨u,e,hu⟩:=J _ _ _ _ _ _ _ _ (.inr rfl) z RM (yC G Z r (jX B RM)) h2;exact⟨u,e,jX hu RM⟩
    cases h;exact⟨a,rfl,jX r RM⟩
   exfalso;omega
  intro E y i D m j ts hi T I h;rw[PT]at h;rw[ae RM,ae RM,ae RM,ae RM,ae RM,ae RM]at h;split at h
  ·rename_i G;obtain⟨c,us,h1,h2⟩:=eM h;have a0:=fO (ma (l:=l) (i:=i) (by rw[G];simp));obtain⟨a1,z,t,rfl,B⟩:=C _ _ _ _ _ _ _ RM (fb l i hi) h1;have a5:=ur h2 z;have L:=P _ _ _ _ m _ _ z RM (by
    intro u hu;rcases aK.1 hu with hu|hu
    ·exact I u hu
    ·simp at hu;subst hu;exact jX B RM) h2
   refine⟨?_,L.2⟩;have:=L.1;simp at this;omega
  obtain⟨rfl,b1,b2⟩:=qJ h R2 hi;exact⟨by omega,I⟩
end bY
end
namespace bY
def Sp{α:Type}:Pe α->Nat->Prop
 |⟨.inl q⟩,f=>q.2<=f
 |⟨.inr (_,c)⟩,f=>1<=f/\∀w,Sp (c w) (f-1)
def Sp.le{α:Type}:∀(p:Pe α) {f g:Nat},Sp p f->f<=g->Sp p g
 |⟨.inl q⟩,f,g,h,b=>ah h b
 |⟨.inr (_,c)⟩,f,g,h,b=>⟨ah h.1 b,λw=>Sp.le (c w) (h.2 w) RM⟩
def kT{α β:Type}(d):∀p (k:α->Nat->Pe β) (f),Sp p f->(∀v f',Sp (k v f') (f'+d))->Sp (eL p k) (f+d)
 |⟨.inl (.ok a,f')⟩,k,f,h,b=>(b a f').le _ (by have:f'<=f:=h;omega)
 |⟨.inl (.error e,f')⟩,k,f,h,b=>by
  show f'<=f+d;have:f'<=f:=h;omega
 |⟨.inr (q,c)⟩,k,f,h,b=>by
  refine⟨by have:=h.1;omega,λw=>?_⟩;have:=kT d (c w) k (f-1) (h.2 w) b;have h1:=h.1;rw[show f+d-1=f-1+d by omega];exact this
def Hi:∀p k f,Sp p f->(∀f',Sp (k f') f')->Sp (pN p k) f
 |⟨.inl (.ok a,f')⟩,k,f,h,b=>h
 |⟨.inl (.error e,f')⟩,k,f,h,b=>by
  unfold pN;simp only[Pg.bind];by_cases j:e=7\/e=8\/e=9\/e=10
  ·rw[ag j];exact(b f').le _ h
  rw[ae j];exact h
 |⟨.inr (q,c)⟩,k,f,h,b=>⟨h.1,λw=>Hi (c w) k (f-1) (h.2 w) b⟩
def Cl{α:Type}(P)(e:∀a f,Sp (P a f) f):∀(l:List α) (b) (f),Sp (oo P l b f) f
 |[],b,f=>af f
 |a :: r,b,f=>kT 0 _ _ f (e a f) λv f=>Cl P e r _ f
def yH(P)(j:∀a f,Sp (P a f) f):∀l b f,Sp (ly P l b f) f
 |[],b,f=>af f
 |a :: r,b,f=>kT 0 _ _ f (j a f) λv f=>by
  cases h:fg v with
  |ok i =>
   show Sp (if i=0 then _ else _) _;by_cases m:i=0
   ·rw[ag m];exact yH P j r _ f
   rw[ae m];exact yH P j r _ f
  |error e=>exact af f
def DM(k f):Sp (kr k f) (f+1):=⟨by omega,λw=>by show f<=f+1-1;omega⟩
def Hj(P)(b:∀a f,Sp (P a f) f)(t f):Sp (fh P t f) (f+1):=by
 unfold fh;refine kT 1 _ _ f (b _ _) λv f=>?_;split
 ·exact(kT 0 _ (λu f=>.ret (make t.op v u,f)) f (b _ _) λu f=>af f).le _ RM
 split
 ·exact Qp f
 split
 ·split
  ·exact DM _ _
  exact Qp f
 split
 ·split
  ·split
   ·exact(b _ _).le _ RM
   exact(b _ _).le _ RM
  exact Qp f
 split
 ·exact Qp f
 split
 ·exact Qp f
 split
 ·exact Qp f
 exact Qp f
def KM(P)(b:∀a f,Sp (P a f) f)(t f)(h1:t.cq=1):Sp (fh P t f) f:=by
 unfold fh;refine kT 0 _ _ f (b _ _) λv f=>?_;rw[ag (.inl h1)];exact kT 0 _ (λu f=>.ret _) f (b _ _) λu f=>af f
def lW:∀n t it f,Sp (tr n t it f) f
 |0,_,_,f=>af f
 |n+1,t,it,f=>by
  unfold tr;by_cases h1:t.cq=1
  ·rw[ag h1];exact KM _ (λu f=>lW n u it f) t f h1
  rw[ae h1];by_cases b:f=0
  ·rw[ag b];exact af f
  rw[ae b];have e:f-1+1=f:=RM;split
  ·exact Q0 f 1
  split
  ·have:=DM t.name (f-1);rw[e]at this;exact this
  split
  ·exact Q0 f 1
  split
  ·exact(Hi _ _ _ (lW n _ _ _) λf=>lW n _ _ f).le _ (Q0 f 1)
  split
  ·refine(kT 0 _ _ (f-1) (lW n _ _ _) λv f=>?_).le _ (Q0 f 1);split
   ·exact Cl _ (λu f=>lW n _ _ f) _ _ _
   exact af f
  split
  ·refine(kT 0 _ _ (f-1) (lW n _ _ _) λv f=>?_).le _ (Q0 f 1);split
   ·exact yH _ (λu f=>lW n _ _ f) _ _ _
   exact af f
  split
  ·exact(Cl _ (λu f=>lW n _ _ f) _ _ _).le _ (Q0 f 1)
  have:=Hj _ (λu f=>lW n u it f) t (f-1);rw[e]at this;exact this
def Hl{α σ:Type}(N)(b:σ->Nat)(e:∀k s,b (N k s).2<=b s+1):∀(p:Pe α) (f) (s),Sp p f->b (p.run N s).2+(p.run N s).1.2<=b s+f
 |⟨.inl q⟩,f,s,h=>RB h _
 |⟨.inr (k,c)⟩,f,s,h=>by
  have h1:=Hl N b e (c (N k s).1) (f-1) (N k s).2 (h.2 _);have h2:=e k s;have j:=h.1;show b ((c (N k s).1).run N (N k s).2).2+((c (N k s).1).run N (N k s).2).1.2<=_;omega
def Nb{σ:Type}(N:By->σ->Wo×σ)(b:σ->Nat)(e:∀k s,b (N k s).2<=b s+1)(n t it st):b (ev N n t it st).2.2+(ev N n t it st).2.1<=b st.2+st.1:=by
 obtain⟨f,s⟩:=st;rw[oH];exact Hl N b e _ f s (lW n t it f)
end bY
