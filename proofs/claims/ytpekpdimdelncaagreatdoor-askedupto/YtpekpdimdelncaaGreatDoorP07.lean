/- Out of Ef. -/
import Derived.Test.YtpekpdimdelncaaGreatDoorP05
set_option linter.unusedVariables false
set_option linter.defProp false
namespace Go.Proofs.YtpekpdimdelncaaGreatDoor
section
namespace bY
variable{v x:V}{i:Int}{b k:By}{l:List V}{f:Nat->List T->RT}{t:T}{e:Nat×Nat}
def L3(v:V):Prop:=iM 3 v
def Cw:∀n v,iM n v->iM (n+1) v
 |n,⟨.inl i⟩,h=>by unfold iM at h ⊢;exact h
 |n,⟨.inr (.inl b)⟩,h=>by unfold iM at h ⊢;exact h
 |0,⟨.inr (.inr l)⟩,h=>by unfold iM at h;cases h
 |n+1,⟨.inr (.inr l)⟩,h=>by
  unfold iM at h ⊢;exact⟨h.1,λx hx=>Cw n x (h.2 x hx)⟩
def uH:∀n v,iM (n+1) v->mj n v=true->iM n v
 |n,⟨.inl i⟩,h,_=>by unfold iM at h ⊢;exact h
 |n,⟨.inr (.inl b)⟩,h,_=>by unfold iM at h ⊢;exact h
 |0,⟨.inr (.inr l)⟩,h,h'=>by unfold mj at h';cases h'
 |n+1,⟨.inr (.inr l)⟩,h,h'=>by
  unfold iM at h ⊢;unfold mj at h';exact⟨h.1,λx hx=>uH n x (h.2 x hx) (P_.1 h' x hx)⟩
theorem DS(h:L3 v):gK (.ok v):=λu hu=>by cases hu;exact h
def KT{w:Wo}(h:gK w):∀v,w=.ok v->L3 v:=h
def Cy(c):gK (.error c):=λu hu=>by cases hu
theorem uI(j:-9223372036854775808<=i)(h1:i<=9223372036854775807):L3 (vn i):=by unfold L3 iM;exact⟨j,h1⟩
theorem qR(i):L3 (vn (wrap i)):=uI (by unfold wrap;omega) (by unfold wrap;omega)
theorem Ie(b):L3 (bit b):=by
 grind [bit,uI]
theorem pB(h:L3 x)(hx:x.x=.inl i):-9223372036854775808<=i/\i<=9223372036854775807:=by
 grind [L3,iM]
theorem Ig(j:b.length<=30)(h1:∀c∈b,fH c=true/\c≠39):L3 (vw b):=by unfold L3 iM;exact⟨j,h1⟩
theorem kU(h:L3 x)(hx:x.x=.inr (.inl b)):b.length<=30/\∀c∈b,fH c=true/\c≠39:=by
 grind [L3,iM]
def O5(j:l.length<=12)(h:∀x∈l,iM 2 x):L3 (vl l):=by unfold L3 iM;exact⟨j,h⟩
theorem Ap(h:L3 x)(hx:x.x=.inr (.inr l)):∀u∈l,L3 u:=by
 unfold L3 iM at h;rw[hx]at h;exact λu hu=>Cw 2 u (h.2 u hu)
theorem uJ(h:L3 x)(hx:x.x=.inr (.inr l)):l.length<=12:=by
 grind [L3,iM]
def PP{α:Type}(A:α->Prop):Pe α->Prop
 |⟨.inl q⟩=>∀v,q.1=.ok v->A v
 |⟨.inr (k,c)⟩=>isKey k=true/\∀w,(∀v,w=.ok v->L3 v)->PP A (c w)
theorem jZ{α:Type}{A:α->Prop}{r:Except Nat α}{f:Nat}(h:∀v,r=.ok v->A v):PP A (.ret (r,f)):=h
def ng{α β:Type}{A:α->Prop}{B:β->Prop}:∀p k,PP A p->(∀v f,A v->PP B (k v f))->PP B (eL p k)
 |⟨.inl (.ok a,f)⟩,k,h,j=>j a f (h a rfl)
 |⟨.inl (.error e,f)⟩,k,h,j=>λv hv=>by cases hv
 |⟨.inr (q,c)⟩,k,h,j=>⟨h.1,λw m=>ng (c w) k (h.2 w m) j⟩
def Ih{A:V->Prop}:∀p k,PP A p->(∀f,PP A (k f))->PP A (pN p k)
 |⟨.inl (.ok a,f)⟩,k,h,j=>h
 |⟨.inl (.error e,f)⟩,k,h,j=>by
  unfold pN;simp only[Pg.bind];by_cases m:e=7\/e=8\/e=9\/e=10
  ·rw[ag m];exact j f
  rw[ae m];exact h
 |⟨.inr (q,c)⟩,k,h,j=>⟨h.1,λw n=>Ih (c w) k (h.2 w n) j⟩
theorem rT(hl:∀x∈l,L3 x)(h:dX l=.ok v):L3 v:=by
 unfold dX at h;split at h
 ·cases h
 rename_i j;cases h;have h2:l.all (mj 2)=true:=by
  grind
 exact O5 RM (λx hx=>uH 2 x (hl x hx) (P_.1 h2 x hx))
def gZ{α:Type}{P:α->Prop}{a b:List α}(h:∀u∈a,P u)(h':∀u∈b,P u):∀u∈a++b,P u:=λu hu=>by
 rcases aK.1 hu with hu|hu
 ·exact h u hu
 exact h' u hu
def iF{α:Type}{P:α->Prop}:∀u∈([]:List α),P u:=λu hu=>by cases hu
def kj{α:Type}{P:α->Prop}{a:α}(h:P a):∀u∈[a],P u:=λu hu=>by rw[P1.1 hu];exact h
def Cz{α:Type}(P):∀(l:List α) (m) (f),(∀x∈m,L3 x)->(∀a∈l,∀f,PP L3 (P a f))->PP L3 (oo P l m f)
 |[],m,f,j,_=>λv hv=>rT j hv
 |a :: r,m,f,j,n=>ng _ _ (n a Qa f) λv f hv=>Cz P r _ f (gZ j (kj hv)) (λa j=>n a (aT _ j))
def yQ(P):∀l m f,(∀x∈m,L3 x)->(∀x∈l,L3 x)->(∀a∈l,∀f,PP L3 (P a f))->PP L3 (ly P l m f)
 |[],m,f,j,_,_=>λv hv=>rT j hv
 |a :: r,m,f,j,hl,p=>ng _ _ (p a Qa f) λv f _=>by
  have h1:∀x∈r,L3 x:=λx hx=>hl x (aT _ hx);have h2:∀a∈r,∀f,PP L3 (P a f):=λa j=>p a (aT _ j);cases h:fg v with
  |ok i =>
   show PP L3 (if i=0 then _ else _);by_cases n:i=0
   ·rw[ag n];exact yQ P r _ f j h1 h2
   rw[ae n];exact yQ P r _ f (gZ j (kj (hl a Qa))) h1 h2
  |error e=>exact λv hv=>by cases hv
def DT(j:isKey k=true)(f):PP L3 (kr k f):=⟨j,λw m v hv=>m v hv⟩
theorem qS{y:V}{g:Int->Int->Except Nat V}(m:∀i j u,x.x=.inl i->y.x=.inl j->g i j=.ok u->L3 u)(h:mr x y g=.ok v):L3 v:=by
 grind [mr]
theorem DU{op:Nat}{y:V}(hx:L3 x)(hy:L3 y)(h:make op x y=.ok v):L3 v:=by
 unfold make at h;split at h
 ·unfold plus at h;split at h
  ·grind [qR]
  ·rename_i a b j hb;split at h
   ·cases h
   cases h;exact Ig (by rw[aj];omega) (gZ (kU hx j).2 (kU hy hb).2)
  ·rename_i a b j hb;exact rT (gZ (Ap hx j) (Ap hy hb)) h
  cases h
 split at h
 ·grind [qS,qR]
 split at h
 ·grind [qS,qR]
 split at h
 ·grind [qS,qR]
 split at h
 ·grind [less,Ie]
 split at h
 ·grind [Ie]
 split at h
 ·grind [qS,pB,uI]
 split at h
 ·grind [qS,pB,uI]
 unfold gd at h;split at h
 ·grind [List.length_take,kU,Ig,uI,Ap]
 cases h
theorem KU(hx:L3 x)(h:size x=.ok v):L3 v:=by
 grind [size,kU,uI,uJ]
def uK:∀l a v,L3 (vn a)->fx a l=.ok v->L3 v
 |[],a,v,j,h=>by cases h;exact j
 |u :: r,a,v,j,h=>by
  unfold fx at h;split at h
  ·exact uK r _ v (qR _) h
  cases h
def Ii(h:jM x=.ok v):L3 v:=by
 unfold jM at h;split at h
 ·exact uK _ _ _ (uI RM RM) h
 cases h
def Fe(i):∀c∈Lib.itoa i,fH c=true/\c≠39:=λc hc=>by
 have j:((List.range 256).all λn=>!(mu (UInt8.ofNat n))||(fH (UInt8.ofNat n)&&!(UInt8.ofNat n==39)))=true:=by decide +kernel
 have h:=P_.1 j c.toNat (List.mem_range.2 c.toNat_lt);rw[UInt8.ofNat_toNat,jR i c hc]at h;simpa using h
def tu:∀k u,u<10^(k+1)->(Lib.decDigits u).length<=k+1
 |0,u,h=>by
  rw[Lib.decDigits,Qq RM];simp
 |k+1,u,h=>by
  rw[Lib.decDigits];by_cases hu:u<10
  ·rw[Qq hu];simp
  rw[dif_neg hu,aj];have:=tu k (u / 10) (by rw[RA]at h;omega);simp;omega
theorem nh{x:Int}(j:-9223372036854775808<=x)(h1:x<=9223372036854775807):(Lib.itoa x).length<=30:=by
 unfold Lib.itoa;split
 ·have:=tu 19 x.natAbs (by show _<100000000000000000000;omega)
  grind
 have:=tu 19 x.toNat (by show _<100000000000000000000;omega);omega
theorem Ff(hx:L3 x)(h:ia x=.ok v):L3 v:=by
 unfold ia at h;split at h
 ·rename_i i hi;cases h;have h1:=pB hx hi;exact Ig (nh h1.1 h1.2) (Fe i)
 ·grind [kU,Ig]
 cases h
theorem rU(hv:L3 v)(h:eK v=.ok l):∀x∈l,L3 x:=by
 grind [eK,Ap]
theorem Fg(hv:L3 v)(h:keyOf v=.ok k):isKey k=true:=by
 obtain⟨x⟩:=v;unfold keyOf at h;unfold isKey;rcases x with i|b|l
 ·cases h;have j:=pB hv rfl;simp only[List.head?_cons,Qm,aW,gY i j.1 j.2];simp
 ·grind
 cases h
theorem Aq(P t f)(m:∀i f,PP L3 (P (t.cG i) f)):PP L3 (fh P t f):=by
 unfold fh;refine ng _ _ (m 0 f) λv f hv=>?_;split
 ·exact ng _ _ (m 1 f) λu f hu=>jZ λr j=>DU hv hu j
 split
 ·exact jZ λr j=>DU (uI RM RM) hv j
 split
 ·split
  ·rename_i n;exact DT (Fg hv n) _
  grind [jZ]
 split
 ·grind [jZ]
 split
 ·exact jZ λr j=>KU hv j
 split
 ·exact jZ λr j=>Ii j
 split
 ·exact jZ λr j=>Ff hv j
 grind [jZ]
def lit:Nat->T->Prop
 |0,_=>True
 |n+1,t=>((∀v,t.is=some v->L3 v)/\(t.cq=3->isKey t.name=true))/\∀u∈t.parts,lit n u
def Ar{n:Nat}(h:lit (n+1) t)(i):lit n (t.cG i):=by
 unfold lit at h;unfold T.cG;cases j:t.parts[i]? with
 |none =>
  simp only[Option.getD_none];cases n<;>simp[lit,T.none]
 |some u=>exact h.2 u (aL j)
def Au:∀n t it f,lit n t->(∀v,it=some v->L3 v)->PP L3 (tr n t it f)
 |0,t,it,f,_,_=>λv hv=>by cases hv
 |n+1,t,it,f,h,hit=>by
  have m:∀i f,PP L3 (tr n (t.cG i) it f):=λi f=>Au n _ it f (Ar h i) hit;have y:∀i u f,L3 u->PP L3 (tr n (t.cG i) (some u) f):=λi u f hu=>Au n _ _ f (Ar h i) (λv hv=>by cases hv;exact hu);unfold tr;split
  ·exact Aq _ t f m
  split
  ·exact jZ λr j=>by cases j
  split
  ·refine jZ λr j=>?_;unfold lit at h;cases hi:t.is with
   |none=>rw[hi]at j;cases j
   |some v =>
    rw[hi]at j;cases j;exact h.1.1 _ hi
  split
  ·rename_i z;unfold lit at h;exact DT (h.1.2 z) _
  split
  ·refine jZ λr j=>?_;cases it with
   |none=>cases j
   |some v=>cases j;exact hit _ rfl
  split
  ·exact Ih _ _ (m 0 _) (λf=>m 1 f)
  split
  ·refine ng _ _ (m 0 _) λv f hv=>?_;cases hl:eK v with
   |ok l=>exact Cz _ l [] f iF (λa p f=>y 1 a f (rU hv hl a p))
   |error e=>exact jZ λr j=>by cases j
  split
  ·refine ng _ _ (m 0 _) λv f hv=>?_;cases hl:eK v with
   |ok l=>exact yQ _ l [] f iF (rU hv hl) (λa p f=>y 1 a f (rU hv hl a p))
   |error e=>exact jZ λr j=>by cases j
  split
  ·refine Cz _ _ _ _ iF (λa p f=>Au n a it f ?_ hit);unfold lit at h;exact h.2 a p
  exact Aq _ t _ m
def xv:∀p,PP L3 p->KQ p.dQ
 |⟨.inl (.ok v,f)⟩,h=>DS (h v rfl)
 |⟨.inl (.error c,f)⟩,h=>Cy c
 |⟨.inr (k,c)⟩,h=>⟨h.1,λw j=>xv (c w) (h.2 w (KT j))⟩
def uL(h:lit (hM t) t):KQ (prog t):=xv _ (Au _ t none 400 h (λ_ hv=>by cases hv))
/-! The trees that a reader makes. -/
def LA(t:T):Prop:=∀n,lit n t
def yR(h1:(∀v,t.is=some v->L3 v)/\(t.cq=3->isKey t.name=true))(h2:∀u∈t.parts,LA u):LA t:=λn=>by
 cases n with
 |zero=>exact trivial
 |succ n=>exact⟨h1,λu hu=>h2 u hu n⟩
def uM{l:By}(h:(tok l).1=3):∃n,dM l=some n/\(tok l).2=n+2:=by
 cases l with
 |nil=>cases h
 |cons c r =>
  rw[fZ _ c r rfl]at h ⊢;split at h
  ·split at h<;>cases h
  rename_i hd;rw[ae hd];split at h
  ·split at h
   ·cases h
   split at h<;>cases h
  rename_i hl;rw[ae hl];split at h
  ·rename_i hc;rw[ag hc];cases j:dM _ with
   |none=>rw[j]at h;cases h
   |some n=>exact⟨n,rfl,rfl⟩
  split at h<;>cases h
def Fh(l:By):∀v,m_ l=some v->L3 v:=by
 intro v h;unfold m_ at h;split at h
 ·cases h;cases j:dT _ with
  |none=>exact uI (by show _<=(0:Int);omega) (by show(0:Int)<=_;omega)
  |some i =>
   have:=iy _ _ (jd j).2;exact uI this.1 this.2
 ·rename_i m;cases h;obtain⟨n,j,h2⟩:=uM m;cases l with
  |nil=>cases j
  |cons c r =>
   simp only[dM]at j;split at j
   ·obtain⟨u,y,z,p⟩:=mU 31 r n j;rw[h2];have:n+2-2=n:=RM;rw[this];simp only[Qm,aW];exact Ig S7 p
   cases j
 cases h
def jP(p):∀(l:By),dC p (l.take (dC p l))=dC p l
 |[]=>rfl
 |c :: r=>by
  by_cases h:p c=true
  ·have e:dC p (c :: r)=dC p r+1:=by simp[dC,h]
   rw[e,P5];have e2:dC p (c :: r.take (dC p r))=dC p (r.take (dC p r))+1:=by simp[dC,h]
   rw[e2,jP p r]
  have e:dC p (c :: r)=0:=by simp[dC,h]
  rw[e];rfl
theorem KV{l:By}(h:(tok l).1=4):dL (l.take (tok l).2)=true:=by
 cases l with
 |nil=>cases h
 |cons c r =>
  have j:=fZ _ c r rfl;by_cases h1:dA c=true
  ·rw[j,ag h1]at h;split at h<;>cases h
  rw[ae h1]at j;by_cases h2:eo c=true
  ·rw[ag h2]at j;by_cases m:gU ((c :: r).take (dC eF (c :: r)))=true
   ·rw[j,ag m]at h;cases h
   rw[ae m]at j;by_cases p:8<dC eF (c :: r)
   ·rw[j,ag p]at h;cases h
   rw[ae p]at j;rw[j];show dL _=true;have D:=ko eF c r Ts;obtain⟨n,u⟩:∃n,dC eF (c :: r)=n+1:=⟨dC eF (c :: r)-1,by omega⟩;have z:=jP eF (c :: r);have y:=mN eF (c :: r);rw[u,P5]at z m;rw[u]at p y;rw[u,P5];have B:=fZ _ c (r.take n) rfl;have hlen:(c :: r.take n).length=n+1:=by
    simp only[aM,P7]at y ⊢;omega
   have C:(c :: r.take n).take (n+1)=c :: r.take n:=Qb RM;rw[ae h1,ag h2,z,C,ae m,ae p]at B;unfold dL;rw[B,hlen];simp
  rw[ae h2]at j;rw[j]at h;by_cases m:c=39
  ·rw[ag m]at h;unfold fa at h;split at h<;>cases h
  rw[ae m]at h;split at h<;>cases h
theorem Fi{l:By}{i j:Nat}(h:cq l i j=3):isKey (tx l i)=true:=by
 have m:(tok (l.drop i)).1=4:=by
  unfold cq kindOf at h;split at h
  ·omega
  split at h
  ·assumption
  split at h
  ·have:=(lU _ _ _ h).1;omega
  split at h
  ·have:=lV _ _ h;omega
  omega
 grind [isKey,tx,KV]
def KW(l:By)(i m ts)(h:∀u∈ts,LA u):LA (ij l (cq l i m) i ts):=yR ⟨Fh _,λj=>by
 have j:cq l i m=3:=j;show isKey (if cq l i m=3 then tx l i else[])=true;rw[ag j];exact Fi j⟩ h
def yS(l:By)(i ts us)(h:∀u∈ts,LA u)(h':∀u∈us,LA u):LA (iT l i ts us):=yR ⟨(λ_ h=>by cases h),(λh=>by cases h)⟩ (λu hu=>by
 rcases aK.1 hu with hu|hu
 ·exact h u hu
 ·exact h' u hu)
def Gu(r:RT):Prop:=∀j ts,r=.ok (j,ts)->∀u∈ts,LA u
theorem lE{j:Nat}{ts:List T}(h:∀u∈ts,LA u):Gu (.ok (j,ts)):=λ_ _ e=>by cases e;exact h
theorem qT:Gu (.error e):=λ_ _ h=>by cases h
theorem dS{r:RT}(h:Gu r)(hf:∀j ts,(∀u∈ts,LA u)->Gu (f j ts)):Gu (cZ r f):=by
 rcases r with e|⟨j,ts⟩
 ·exact qT
 exact hf j ts (h j ts rfl)
theorem iP(l t:By)(i ts)(h:∀u∈ts,LA u):Gu (eQ l t i ts):=by
 grind [eQ,lE,qT]
theorem Fj(l:By)(k i R F W I)(m:∀j,Gu (R j))(hF:∀j,Gu (F j))(p:∀j,Gu (W j))(r:∀j ts,(∀u∈ts,LA u)->Gu (I j ts)):Gu (gq l k i R F W I):=by
 unfold gq;split
 ·grind
 split
 ·exact dS (m i) (iP l _)
 split
 ·exact dS (m i) (iP l _)
 split
 ·grind [lE,dS]
 split
 ·exact dS (dS (m i) (iP l _)) λj ts h1=>dS (dS (m j) (iP l _)) λj us h2=>dS (hF j) λj vs n=>lE (gZ h1 (gZ h2 n))
 split
 ·exact dS (iP l _ _ _ iF) λj _ _=>dS (m j) (iP l _)
 split
 ·exact dS (iP l _ _ _ iF) λj _ _=>dS (dS (m j) (iP l _)) λj ts h1=>dS (dS (m j) (iP l _)) λj us h2=>lE (gZ h1 h2)
 split
 ·exact dS (iP l _ _ _ iF) λj _ _=>dS (dS (m j) (iP l _)) λj ts h1=>dS (dS (p j) (iP l _)) λj us h2=>lE (gZ h1 h2)
 grind [lE]
def Nj(l:By):∀n B y z i r,(∀u∈r,LA u)->Gu (PT l n B y z i r):=by
 intro n
 induction n with
 |zero=>intros;exact qT
 |succ n m =>
  intro B y z i r p;unfold PT;split
  ·refine dS (m _ _ _ _ _ iF) λj ts h1=>?_;split
   ·exact dS (m _ _ _ _ _ iF) λk us h2=>lE (kj (yS l j ts us h1 h2))
   exact lE h1
  split
  ·exact dS (m _ _ _ _ _ iF) λj ts h1=>m _ _ _ _ _ h1
  split
  ·exact dS (m _ _ _ _ _ iF) λj ts h1=>m _ _ _ _ _ h1
  split
  ·split
   ·exact qT
   split
   ·exact qT
   exact dS (Fj l _ _ _ _ _ _ (λj=>m _ _ _ _ _ iF) (λj=>m _ _ _ _ _ iF) (λj=>m _ _ _ _ _ iF) (λj ts h=>m _ _ _ _ _ h)) λj ts h1=>lE (kj (KW l _ _ ts h1))
  split
  ·split
   ·exact dS (m _ _ _ _ _ iF) λj us h1=>m _ _ _ _ _ (kj (yS l i r us p h1))
   exact lE p
  split
  ·split
   ·exact dS (m _ _ _ _ _ iF) λj us h1=>m _ _ _ _ _ (kj (yS l i r us p h1))
   exact lE p
  split
  ·exact dS (m _ _ _ _ _ iF) λj us h1=>m _ _ _ _ _ (gZ p h1)
  exact iP l _ _ _ p
def DV:LA T.none:=yR ⟨(λ_ h=>by cases h),(λh=>by cases h)⟩ (λu hu=>by cases hu)
def xw(l:By):LA (gG l):=by
 unfold gG;cases h:PT l _ 0 0 0 _ [] with
 |error e=>exact DV
 |ok q =>
  obtain⟨j,ts⟩:=q;have:=Nj l _ _ _ _ _ [] iF j ts h;cases ts with
  |nil=>exact DV
  |cons t r=>exact this t Qa
def CA(l:By):KQ (prog (gG l)):=uL (xw l _)
end bY
end
section
namespace bY
variable{b:By}{l:List V}{u:V}
def fy(l:a_):Option (List (a_)):=(gD l).map fU
theorem wE(n i):wr n (vn i)=Lib.itoa i:=Sb
theorem rV(n)(b:By):wr n (vw b)=39 :: (b++[39]):=Sb
theorem CC(n l):wr (n+1) (vl l)=123 :: (cJ (l.map (wr n))++[125]):=rfl
def MN:∀n v,mj n v=true->wr (n+1) v=wr n v
 |n,⟨.inl i⟩,_=>(wE (n+1) i).trans (wE n i).symm
 |n,⟨.inr (.inl b)⟩,_=>(rV (n+1) b).trans (rV n b).symm
 |0,⟨.inr (.inr l)⟩,h=>by unfold mj at h;cases h
 |n+1,⟨.inr (.inr l)⟩,h=>by
  unfold mj at h;have h:l.all (mj n)=true:=h;show wr (n+1+1) (vl l)=wr (n+1) (vl l);rw[CC,CC,Qu (λu hu=>MN n u (P_.1 h u hu))]
theorem MO{i:Int}(h:L3 (vn i)):dT (wr 3 (vn i))=some i:=by
 obtain⟨h1,h2⟩:=pB h rfl
 grind [wE,gY]
def MP(b:By):dT (wr 3 (vw b))=none:=by rw[rV];exact lr (c:=39) rfl RZ
def MQ(l):dT (wr 3 (vl l))=none:=by rw[CC];exact lr (c:=123) rfl RZ
def xy(i):∃c r,Lib.itoa i=c :: r/\mu c=true:=by
 cases h:Lib.itoa i with
 |nil =>
  exfalso;unfold Lib.itoa at h;split at h
  ·cases h
  exact rG _ h
 |cons c r=>exact⟨c,r,rfl,jR i c SX⟩
def O6(i):jS (wr 3 (vn i))=none:=by
 rw[wE];obtain⟨c,r,e,hc⟩:=xy i;unfold jS;rw[ae];rintro⟨_,_,h,_⟩;rw[e]at h;cases aB h
 revert hc
 decide
theorem O7(h:L3 (vw b)):jS (wr 3 (vw b))=some b:=by
 obtain⟨h1,h2⟩:=kU h rfl
 grind [rV,rH]
theorem O8(l):jS (wr 3 (vl l))=none:=by
 grind [jS,CC]
def O9(i):fy (wr 3 (vn i))=none:=by
 rw[wE];obtain⟨c,r,e,hc⟩:=xy i;unfold fy gD;rw[ae]
 ·rfl
 rintro⟨_,h,_⟩;rw[e]at h;cases aB h
 revert hc
 decide
theorem O_(b:By):fy (wr 3 (vw b))=none:=by
 grind [fy,gD,rV]
def Ij(h:L3 (vl l)):∀u∈l,iM 2 u:=by unfold L3 iM at h;exact h.2
def yT(h:mj 2 u=true):wr 3 u=wr 2 u:=MN 2 u h
def CD(h:∀u∈l,mj 2 u=true):l.map (wr 3)=l.map (wr 2):=Qu (λu hu=>yT (h u hu))
def Ot(h:L3 (vl l)):fy (wr 3 (vl l))=some (l.map (wr 3)):=by
 rw[CC];unfold fy;rw[oE,CD (λu hu=>pw 2 u (Ij h u hu))];show some _=_;rw[mV (Ij h)]
def Fl(t:By):Except Nat By:=if(rv 3 t).isSome=true then .ok t else .error 10
def hU(l:List By):By:=123 :: (cJ l++[125])
def txt(r:Wo):Except Nat By:=match r with|.ok v=>.ok (wr 3 v)|.error e=>.error e
theorem Ik{n:Nat}{v:V}(hv:iM n v)(hu:iM n u)(h:wr n v=wr n u):v=u:=by
 grind [DE]
def PQ(h:L3 u):(rv 2 (wr 3 u)).isSome=mj 2 u:=by
 cases hl:mj 2 u with
 |true =>
  rw[yT hl,DE 2 u (uH 2 u h hl)];rfl
 |false =>
  cases j:rv 2 _ with
  |none=>rfl
  |some v =>
   exfalso;obtain⟨h1,h2⟩:=yt 2 _ v j;have e:=pw 2 v h1;rw[<-yT e]at h2;have:=Ik h (Cw 2 v h1) h2;rw[this,e]at hl;cases hl
theorem rW(f):∀ps:List (a_),(jT f ps).isSome=ps.all λp=>(f p).isSome
 |[]=>rfl
 |a :: r=>by
  rw[jT,Qy,<-rW f r];cases f a with
  |none=>rfl
  |some v=>cases jT f r<;>rfl
theorem uN(h:∀u∈l,L3 u):Fl (hU (l.map (wr 3)))=txt (dX l):=by
 have z:dT (hU (l.map (wr 3)))=none:=lr (c:=123) rfl RZ;have B:jS (hU (l.map (wr 3)))=none:=by
  unfold jS;rw[ae];rintro⟨_,_,h,_⟩;cases h
 have hi:gD (hU (l.map (wr 3)))=some _:=oE _;have y:∀l:List V,(∀u∈l,L3 u)->(l.map (wr 3)).all (λp=>(rv 2 p).isSome)=l.all _:=λl=>by
  induction l with
  |nil=>intro _;rfl
  |cons a r n=>intro h;rw[Qg,Qy,Qy,n (λu hu=>h u (aT _ hu)),PQ (h a R2)]
 have m:(rv 3 (hU (l.map (wr 3)))).isSome=(decide (l.length<=12)&&l.all (mj 2)):=by
  have e:rv 3 (hU (l.map (wr 3)))=if 12<(fU (cJ (l.map (wr 3)))).length then none else(jT (rv 2) (fU (cJ (l.map (wr 3))))).map vl:=by
   grind [pP]
  rw[e,mV h,aG]
  grind [Option.isSome_map,rW]
 unfold Fl dX;rw[m];by_cases j:12<l.length
 ·rw[aF RM,Qz,ae R2,ag (.inl j)];rfl
 rw[aS RM,Qk];cases hl:l.all _ with
 |true =>
  rw[ag rfl,ae (λh=>by rcases h with h|h;exact j h;cases h)];show Except.ok _=Except.ok _;rw[CC,CD (λu hu=>P_.1 hl u hu)];rfl
 |false =>
  rw[ae R2,ag (.inr rfl)];rfl
theorem Im{a:By}(n:L3 (vw a))(hb:L3 (vw b)):Fl (39 :: (a++b++[39]))=txt (plus (vw a) (vw b)):=by
 obtain⟨h1,h2⟩:=kU n rfl;obtain⟨r,m⟩:=kU hb rfl;have e:plus (vw a) (vw b)=if 30<a.length+b.length then .error 10 else .ok _:=rfl;rw[e];unfold Fl;by_cases j:30<a.length+b.length
 ·rw[ag j,ae]
  ·rfl
  have p:jS (39 :: (a++b++[39]))=none:=by
   grind [jS]
  have hi:gD (39 :: (a++b++[39]))=none:=by
   grind [gD]
  rw[pP,lr (c:=39) rfl RZ,p]
  grind
 rw[ae j,ag]
 ·show Except.ok _=Except.ok _;rw[rV]
 rw[pP,lr (c:=39) rfl RZ,rH (by rw[aj];omega) (gZ h2 m)];rfl
def Av{v:V}(hv:L3 v)(hu:L3 u):same 3 v u=decide (wr 3 v=wr 3 u):=by
 cases h:same 3 v u with
 |true =>
  rw[yN 3 v u h,aS rfl]
 |false =>
  rw[aF];intro e;rw[Ik hv hu e,rS,pw 3 u hu]at h;cases h
def Aw{k:Nat}(h:k<b.length):((wr 3 (vw b)).drop (1+k)).take 1=(b.drop k).take 1:=by
 rw[rV,Nat.add_comm,Qm,Su RM,Sx (by rw[aO];omega)]
def V.cases{P:V->Prop}(e:∀i,P (vn i))(j:∀b,P (vw b))(hl:∀l,P (vl l)):∀v,P v
 |⟨.inl i⟩=>e i
 |⟨.inr (.inl b)⟩=>j b
 |⟨.inr (.inr l)⟩=>hl l
end bY
end
namespace bY
def Un(s:LS):Nat:=((dE s.cm).filter λk=>!s.b_.contains k).length
def AA(s k)(b:k∈dE s.cm)(e:s.b_.contains k=false):Un { s with b_:=s.b_++[k] }+1<=Un s:=by
 unfold Un;have h2:((dE s.cm).filter λx=>!(s.b_++[k]).contains x)=((dE s.cm).filter λx=>!s.b_.contains x).filter λx=>!(x==k):=by
  rw[RD]
  grind
 show(List.filter (λx=>!(s.b_++[k]).contains x) (dE s.cm)).length+1<=_;rw[h2];apply RU.2
 grind
def MU(s):Un s<=s.cm.length:=by
 grind [Un,dE]
def uV(s):Rs s<=s.cm.length:=by
 grind [Rs,dE]
def jg.un{s s':LS}{c:Nat}(h:jg s s' c):Un s'=Un s:=by
 unfold Un;rw[h.dE,h.b_]
def qZ(n b s)(e:KB s.cm){th:cu}(hl:cr s.cm b=some th){t:T}(z:th.dc=some t):Own s (dq (cC n) b s).2:=by
 have u:dq (cC n) b s=eZ (cC n) b t th.kept s:=by grind [dq]
 rw[u];have l:∀k s,KB s.cm->jg s (cC n k s).2 1:=λk s e=>gM n k s e;cases r:th.kept with
 |none=>exact tC l b t ⟨b,[],.error 0,.error 0⟩ s s e (jg.refl s 401)
 |some kp =>
  have m:kp.cO.length<=401:=e _ (j8 hl) kp r;have hd:=tA l b kp.cO s e;have p:eZ (cC n) b t (some kp) s=match en (cC n) b kp.cO s with|(.none,s)=>(kp.dQ,s)|(.some y,s)=>fR (cC n) b t y s:=rfl
  rw[p];generalize en (cC n) b kp.cO s=q at hd;obtain⟨o,j⟩:=q;simp only at hd;cases o with
  |none=>exact⟨hd.cX,hd.kb,hd.b_,hd.mono,hd.dn,by have:=hd.mM;show j.done.length+1000*Rs j<=_;omega,by have:=hd.du;show j.du.length+Rs j<=_;omega⟩
  |some y=>exact tC l b t y j s (hd.kb e) (hd.le m)
def xE(b q):cX (gT b q).2.cm=cX q.2.1.cm/\(gT b q).2.done=q.2.1.done:=by
 unfold gT;by_cases h:gC q.1=true
 ·simp only[h,aN];split
  ·exact⟨gy _ _ _,rfl⟩
  grind
 simp only[h];exact⟨gy _ _ _,rfl⟩
end bY
section
namespace bY
def AE(l k):(eI l k).length<=l.length:=by
 unfold eI
 induction l with
 |nil=>simp
 |cons a l j =>
  rw[QU];split
  ·simp;omega
  exact af _
section
variable {e:By->LS->Wo×LS} {b:List By} {K:Nat}
def IQ(hs:∀k s,Hs s (e k s).2)(j:∀k s,s.b_=b->s.cE.length<=K->(e k s).2.cE.length<=K)(m):∀l s,s.b_=b->s.cE.length<=K->(en e m l s).2.cE.length<=K
 |[],s,_,h=>h
 |(k,w) :: r,s,hb,h=>by
  unfold en;split
  ·exact IQ hs j m r _ ((hs k s).b_.trans hb) (j k s hb h)
  exact j k s hb h
def Lf(hs:∀k s,Hs s (e k s).2)(j:∀k s,s.b_=b->s.cE.length<=K->(e k s).2.cE.length<=K)(p:Pg Wo):∀s ns,s.b_=b->s.cE.length<=K->(p.run (d_ e) (s,ns)).2.1.cE.length<=K :=Pg.ind (P:=λp=>∀(s:LS) (ns:List (By×Wo)),s.b_=b->s.cE.length<=K->(p.run (d_ e) (s,ns)).2.1.cE.length<=K) (λa s ns _ h=>h) (λk f l s ns hb h=>l _ _ _ ((hs k s).b_.trans hb) (j k s hb h)) p
def IU(j q):(gT j q).2.cE=q.2.1.cE:=by
 unfold gT;by_cases h:gC q.1=true
 ·simp only[h,aN];split<;>rfl
 simp only[h];rfl
def Lg(hs:∀k s,Hs s (e k s).2)(l:∀k s,s.b_=b->s.cE.length<=K->(e k s).2.cE.length<=K)(j s)(hb:s.b_=b)(h:s.cE.length<=K):(dq e j s).2.cE.length<=K:=by
 have m:∀t y (s:LS),s.b_=b->s.cE.length<=K->(fR e j t y s).2.cE.length<=K:=λt y s hb h=>by
  unfold fR;rw[IU];exact Lf hs l (prog t) { s with du:=s.du++[y] } [] hb h
 cases hl:cr s.cm j with
 |none =>
  simp only[dq,hl];exact h
 |some th =>
  cases n:th.dc with
  |none =>
   simp only[dq,hl,n];exact h
  |some t =>
   simp only[dq,hl,n];cases th.kept with
   |none=>exact m t _ s hb h
   |some k =>
    have h1:=IQ hs l j k.cO s hb h;have h2:=(zb hs j k.cO s).b_;unfold eZ;cases hd:en e j k.cO s with
    |mk o p =>
     rw[hd]at h1 h2;simp only[hd];cases o with
     |none=>exact h1
     |some y=>exact m t y p (h2.trans hb) h1
end
def xG{l:By->LS->Wo×LS}{b:List By}{K:Nat}(j s)(m:s.cE.length<=K->(l j { s with b_:=s.b_++[j] }).2.cE.length<=K)(hb:s.b_.length<=K)(h:s.cE.length<=K):(eR l j s).2.cE.length<=K:=by
 unfold eR;cases cr s.done j with
 |some w=>exact h
 |none =>
  by_cases hc:s.b_.contains j=true
  ·rw[ag hc];show(s.meet j).cE.length<=K;unfold LS.meet;split
   ·exact ah (AE _ _) hb
   exact h
  rw[ae hc];exact m h
def uX{K:Nat}:∀n j s,s.b_.length+n<=K->s.cE.length<=K->(cC n j s).2.cE.length<=K
 |0,j,s,hb,h=>xG (b:=s.b_) j s (λh=>h) RM h
 |n+1,j,s,hb,h=>xG (b:=s.b_) j s (λh=>Lg (b:=s.b_++[j]) (oT n) (λk s' l h'=>uX n k s' (by rw[l];simp;omega) h') j _ rfl h) RM h
end bY
end
section
namespace bY
variable {e:Src}
theorem wK(h:List (By×cu))(k o):fS (di h k o)=fS h:=by
 funext k'
 unfold fS;rw[iN];by_cases b:k=k'
 ·rw[ag b];cases cr h k'<;>rfl
 grind
theorem IV{h:List (By×cu)}{k:By}{th:cu}(hl:cr h k=some th):fS h k=some (match th.dc with|.none=>.inl th.value|.some t=>.inr t):=by
 grind [fS]
structure uY(e:Src)(s:LS)(key:By)(r:Wo)(s4:LS)(new:List qc):Prop where
 inv:Inv e s4
 b_:s4.b_=s.b_++[key]
 done:∀k w,cr s.done k=some w->cr s4.done k=some w
 cE:s.cE≠[]->s4.cE=s.cE
 du:s4.du=s.du++new
 Ib:∀y∈new,Ia e y
 old:∀y∈new,cr s.done y.key=none/\y.key∉s.b_/\¬lL e s.cm y.key/\(y.key=key\/∃w,cr s4.done y.key=some w)
 nodup:(new.map (·.key)).Nodup
 Ao:∀k,(∀y∈new,y.key≠k)->cr s4.cm k=cr s.cm k
 quiet:new=[]->s4.cm=s.cm/\s4.jr=s.jr
 is:Is e key r
 MW:r=.error 12->s4.cE≠[]
 wj:r≠.error 12->lL e s4.cm key/\∀y∈new,lL e s4.cm y.key
 q:lL e s.cm key->new=[]
 was:∀y∈new,Wd s.cm y
 jr:yO e s.cm s.jr s4.cm s4.jr
theorem uY.finish{s j:LS}{l:By}{r:Wo}{new:List qc}(hd:cr s.done l=none)(h:uY e s l r j new):BP e l s (r,{ j with b_:=j.b_.dropLast,done:=put j.done l r }):=by
 have p:j.b_.dropLast=s.b_:=by rw[h.b_];simp
 refine⟨new,⟨⟨h.inv.src,λk w b=>?_,λk w b m=>?_,h.inv.iu,h.inv.only,h.inv.fine,h.inv.cE,λk b=>?_⟩,p,λk w b=>?_,h.cE,h.du,h.Ib,λy hy=>?_,h.nodup,h.Ao,h.quiet,h.was,h.jr⟩,h.is,h.MW,h.wj,h.q,.inr ?_⟩
 ·rw[ep]at b;split at b
  ·rename_i h1;cases b;subst h1;exact h.is
  exact h.inv.done k w b
 ·rw[ep]at b;split at b
  ·rename_i h1;cases b;subst h1;exact(h.wj m).1
  exact h.inv.wj k w b m
 ·rw[ep]at b;split at b
  ·rename_i h1;cases b;exact h.MW rfl
  exact h.inv.rr k b
 ·rw[ep];split
  ·grind
  exact h.done k w b
 ·obtain⟨h1,h2,n,u⟩:=h.old y hy;refine⟨h1,h2,n,?_⟩;rw[ep];split
  ·grind
  grind
 grind [ep]
def CN{s b:LS}{key:By}{r:Wo}{new:List qc}(h:On e { s with b_:=s.b_++[key] } b new)(p:Is e key r)(j:r=.error 12->b.cE≠[])(hu:r≠.error 12->lL e b.cm key/\∀y∈new,lL e b.cm y.key)(u:lL e s.cm key->new=[]):uY e s key r b new where
 inv:=h.inv
 b_:=h.b_
 done:=h.done
 cE:=h.cE
 du:=h.du
 Ib:=h.Ib
 old y hy:=by
  obtain⟨h1,h2,l,m⟩:=h.old y hy;exact⟨h1,λn=>h2 (Qr _ n),l,.inr m⟩
 nodup:=h.nodup
 Ao:=h.Ao
 quiet:=h.quiet
 is:=p
 MW:=j
 wj:=hu
 q:=u
 was:=h.was
 jr:=h.jr
def Inv.OD{s:LS}(h:Inv e s)(r):Inv e { s with du:=r }:=⟨h.src,h.done,h.wj,h.iu,h.only,h.fine,h.cE,h.rr⟩
def Inv.Lh{s:LS}(h:Inv e s)(r):Inv e { s with b_:=r }:=⟨h.src,h.done,h.wj,h.iu,h.only,h.fine,h.cE,h.rr⟩
def Inv.di{s:LS}{l:By}{o:Option fM}{j:List By}(h:Inv e s)(r:¬lL e s.cm l)(u:∀kp,o=some kp->∀t,e l=some (.inr t)->qu (prog t) [] kp.cO kp.dQ)(y:∃t,e l=some (.inr t))(hf:∀kp,o=some kp->∀q∈kp.cO,gK q.2):Inv e { s with cm:=di s.cm l o,jr:=j } where
 src:=(wK _ _ _).trans h.src
 done:=h.done
 wj k w m p:=by
  refine qQ (λk hu=>?_) (h.wj k w m p);show cS _ k=_;rw[fj,ae (λ(n:l=k)=>r (n▸hu))]
 iu k t kp m b:=by
  have b:=b;rw[fj]at b;split at b
  ·rename_i h1;subst h1;cases hl:cr s.cm l with
   |none=>rw[hl]at b;cases b
   |some th=>rw[hl]at b;exact u kp b t m
  exact h.iu k t kp m b
 only k kp b:=by
  have b:=b;rw[fj]at b;split at b
  ·rename_i h1;subst h1;exact y
  exact h.only k kp b
 fine k kp b:=by
  have b:=b;rw[fj]at b;split at b
  ·rename_i h1;subst h1;cases hl:cr s.cm l with
   |none=>rw[hl]at b;cases b
   |some th=>rw[hl]at b;exact hf kp b
  exact h.fine k kp b
 cE:=h.cE
 rr:=h.rr
theorem IW(he:EF e){M:By->LS->Wo×LS}{s n:LS}{key:By}{t:T}{y:qc}{K:List qc}(hB:yP e M (s.b_++[key]))(hl:Cu (DQ e) (s.b_++[key]))(F:e key=some (.inr t))(hd:cr s.done key=none)(a2:key∉s.b_)
  (h1:On e { s with b_:=s.b_++[key] } n K) (hy:y.key=key) (bd:Ia e y) (bc:Wd s.cm y) (U:∀h,cS h key=cS s.cm key->¬lL e h key) (a6:∀u,W e key u->∀z∈K,lL e n.cm z.key) :
  ∃new,uY e s key (fR M key t y n).1 (fR M key t y n).2 new:=by
 unfold fR;have am:∀z∈K,z.key≠key:=λz hz l=>(h1.old z hz).2.1 (by rw[l];simp);obtain⟨L,j,Q⟩:=Ni he hB hl _ { n with du:=n.du++[y] } [] (h1.inv.OD _) h1.b_ (KS.start F) (Hz t) (λ_ h=>by simp at h);generalize (prog t).run _ ({ n with du:=n.du++[y] },[])=q at j Q ⊢;obtain⟨r,m,ns⟩:=q;simp only at j Q;have ad:∀z∈L,z.key≠key:=λz hz l=>(j.old z hz).2.1 (by show z.key∈n.b_;rw[h1.b_,l];simp);have bf:=(j.Ao key ad).trans (h1.Ao key am);have a0:cS m.cm key=cS s.cm key:=by grind [cS]
 have V:=U _ a0;have ak:∀(o:Option fM) (k:By),k≠key->cr (di m.cm key o) k=cr m.cm k:=λo k l=>by rw[iN,ae (λe=>l e.symm)]
 have build:∀(p:LS),(∀k,k≠key->cr p.cm k=cr m.cm k)->p.done=m.done->p.b_=m.b_->p.cE=m.cE->p.du=m.du->Inv e p->Is e key r->(r=.error 12->p.cE≠[])->(r≠.error 12->lL e p.cm key/\(∀z∈L,lL e m.cm z.key))->yO e m.cm m.jr p.cm p.jr->uY e s key r p (K++[y]++L):=by
  intro p ai R av a9 a8 ay Z C hu aC;have ap:∀k,lL e m.cm k->lL e p.cm k:=λk l=>qQ (λk hu=>by
   unfold cS;rw[ai k (λ(P:k=key)=>V (P▸hu))]) l
  exact{
   inv:=ay
   b_:=by rw[av];exact j.b_.trans h1.b_
   done:=λk w l=>by rw[R];exact j.done k w (h1.done k w l)
   cE:=λG=>by
    rw[a9];have:=h1.cE G;exact(j.cE (by show n.cE≠[];rw[this];exact G)).trans this
   du:=by
    rw[a8,j.du];show n.du++[y]++L=_;rw[h1.du];simp
   Ib:=λz hz=>by
    rcases aK.1 hz with hz|hz
    ·rcases aK.1 hz with hz|hz
     ·exact h1.Ib z hz
     rw[P1.1 hz];exact bd
    exact j.Ib z hz
   old:=λz hz=>by
    rcases aK.1 hz with hz|hz
    ·rcases aK.1 hz with hz|hz
     ·obtain⟨B,E,N,w,O⟩:=h1.old z hz;exact⟨B,λh=>E (Qr _ h),N,.inr ⟨w,by rw[R];exact j.done _ _ O⟩⟩
     rw[P1.1 hz,hy];exact⟨hd,a2,U _ rfl,.inl rfl⟩
    obtain⟨B,E,N,O⟩:=j.old z hz;refine⟨?_,λh=>E (by show z.key∈n.b_;rw[h1.b_];exact Qr _ h),λhu=>N (h1.wj hu),.inr (by rw[R];exact O)⟩;cases ax:cr s.done z.key with
    |none=>rfl
    |some w=>rw[show cr _ z.key=some w from h1.done _ _ ax]at B;cases B
   nodup:=by
    rw[aV,aV,Q3,Q3];refine⟨⟨h1.nodup,by simp,?_⟩,j.nodup,?_⟩
    ·intro a D b hb I;obtain⟨z,hz,rfl⟩:=aH.1 D;simp at hb;exact am z hz (I.trans (hb.trans hy))
    intro a D b hb I;obtain⟨x,hx,rfl⟩:=aH.1 hb;rcases aK.1 D with D|D
    ·obtain⟨z,hz,rfl⟩:=aH.1 D;obtain⟨_,_,_,w,X⟩:=h1.old z hz;have:=(j.old x hx).1;rw[show cr _ x.key=some w by rw[<-I];exact X]at this;cases this
    simp at D;exact ad x hx (I.symm.trans (D.trans hy))
   Ao:=λk l=>by
    have a3:k≠key:=λh=>l y R2 (hy.trans h.symm);rw[ai k a3];exact(j.Ao k (λz hz=>l z (by simp[hz]))).trans (h1.Ao k (λz hz=>l z (by simp[hz])))
   quiet:=λh=>by simp at h
   is:=Z
   MW:=C
   wj:=λC=>by
    obtain⟨B,E⟩:=hu C;refine⟨B,λz hz=>?_⟩;rcases aK.1 hz with hz|hz
    ·rcases aK.1 hz with hz|hz
     ·exact ap _ (j.wj (a6 r (Z.w C) z hz))
     rw[P1.1 hz,hy];exact B
    exact ap _ (E z hz)
   q:=λhu=>(U _ rfl hu).elim
   was:=λz hz=>by
    rcases aK.1 hz with hz|hz
    ·rcases aK.1 hz with hz|hz
     ·exact h1.was z hz
     rw[P1.1 hz];exact bc
    rcases j.was z hz with P|⟨kp,B,E⟩
    ·exact .inl P
    refine .inr ⟨kp,?_,E⟩;rw[<-B];show cS s.cm z.key=cS n.cm z.key;unfold cS;rw[h1.Ao z.key (λx hx e=>by
     obtain⟨_,_,_,w,X⟩:=h1.old x hx;have:=(j.old z hz).1;rw[show cr _ z.key=some w by rw[<-e];exact X]at this;cases this)]
   jr:=(yO.trans (h1:=n.cm) (j1:=n.jr) h1.jr j.jr).trans aC }
 rcases Q with⟨rfl,ab,aa⟩|⟨G,Y,hH,S,a7⟩
 ·have C:gC (.error 12:Wo)=true:=rfl;simp only[gT,C,aN];by_cases l:(cS m.cm key).isSome=true
  ·rw[ag l];obtain⟨kp,a4⟩:=Q_.1 l;refine⟨_,build _ (λk l=>ak none k l) rfl rfl rfl rfl ?_ (.inr ⟨rfl,aa⟩) (λ_=>ab) (λh=>(h rfl).elim) (yO.refl.qK a4)⟩;exact j.inv.di V (λ_ h=>by cases h) ⟨t,F⟩ (λ_ h=>by cases h)
  rw[ae l];refine⟨_,build m (λ_ _=>rfl) rfl rfl rfl rfl j.inv (.inr ⟨rfl,aa⟩) (λ_=>ab) (λh=>(h rfl).elim) .refl⟩
 have C:gC r=false:=by
  cases r with
  |ok v=>rfl
  |error c=>exact aw.2 (λh=>G (by rw[h]))
 simp only[gT,C];refine⟨_,build _ (λk l=>ak _ k l) rfl rfl rfl rfl ?_ (.inl Y) (λh=>(G h).elim) (λ_=>⟨?_,a7⟩) (yO.refl.keep F hH (λq J=>(S q J).1) Y)⟩
 ·refine j.inv.di V (λkp h t' bg=>?_) ⟨t,F⟩ (λkp h=>?_)
  ·grind
  grind
 have ao:∃th,cr m.cm key=some th:=by
  cases a5:cr m.cm key with
  |some th=>exact⟨th,rfl⟩
  |none =>
   have:=congrFun j.inv.src key;unfold fS at this;rw[show cr m.cm key=none from a5,F]at this;cases this
 obtain⟨th,ao⟩:=ao;refine Am F (kp:=⟨r,ns⟩) ?_ (λq J=>⟨(S q J).1,?_⟩)
 ·show cS (di m.cm key _) key=_
  grind [fj]
 refine qQ (λk hu=>?_) (S q J).2.1;show cS (di m.cm key _) k=_
 grind [fj]
theorem AG(G:EF e){K:List By}(S:∀k t,e k=some (.inr t)->k∈K):∀n b s,Inv e s->Cu (DQ e) (s.b_++[b])->Fuel K s.b_ n->BP e b s (cC n b s)
 |0,_,_,_,_,h=>by unfold Fuel at h;omega
 |n+1,b,s,hi,hl,hf=>by
  show BP e b s (eR (dq (cC n)) b s);unfold eR;cases hd:cr s.done b with
  |some w =>
   simp only;exact⟨[],On.refl hi,hi.done b w hd,λh=>hi.rr b (h▸hd),λh=>⟨hi.wj b w hd h,λ_ h=>by simp at h⟩,λ_=>rfl,.inr hd⟩
  |none =>
   simp only;by_cases hb:s.b_.contains b=true
   ·rw[ag hb];have aa:b∈s.b_:=Sq;obtain⟨h1,h2⟩:=H8 hl aa;have ao:(s.meet b).cE≠[]:=by
     unfold LS.meet;split
     ·obtain⟨k,r,m,_⟩:=h1;show eI _ b≠[];rw[m];simp
     assumption
    refine⟨[],?_,.inr ⟨rfl,h2⟩,λ_=>ao,λh=>(h rfl).elim,λ_=>rfl,.inl aa⟩;unfold LS.meet;split
    ·rename_i m;exact{ inv:=⟨hi.src,hi.done,hi.wj,hi.iu,hi.only,hi.fine,λ_=>h1,λk hk=>(hi.rr k hk m).elim⟩,b_:=rfl,done:=λ_ _ h=>h,cE:=λh=>(h m).elim,du:=by simp,Ib:=λ_ h=>by simp at h,old:=λ_ h=>by simp at h,nodup:=by simp,Ao:=λ_ _=>rfl,quiet:=λ_=>⟨rfl,rfl⟩,was:=λ_ h=>by simp at h,jr:=.refl }
    exact On.refl hi
   rw[ae hb];have M:b∉s.b_:=by grind
   suffices h:∃new,uY e s b (dq _ b { s with b_:=s.b_++[b] }).1 (dq _ b { s with b_:=s.b_++[b] }).2 new by
    obtain⟨new,h⟩:=h;exact h.finish hd
   have p:Inv e { s with b_:=s.b_++[b] }:=hi.Lh _;unfold dq;cases N:cr s.cm b with
   |none =>
    have X:e b=none:=by rw[<-hi.src];unfold fS;rw[N];rfl
    have O:∀t,e b≠some (.inr t):=λt h=>by rw[X]at h;cases h
    exact⟨[],CN (On.refl p) (.inl ⟨0,.inl ⟨X,rfl⟩⟩) (λh=>by cases h) (λ_=>⟨Al O,λ_ h=>by simp at h⟩) (λ_=>rfl)⟩
   |some th =>
    have j:=IV N;rw[hi.src]at j;cases D:th.dc with
    |none =>
     rw[D]at j;have O:∀t,e b≠some (.inr t):=λt h=>by rw[j]at h;cases h
     simp only[D];exact⟨[],CN (On.refl p) (.inl ⟨0,.inr ⟨th.value,j,rfl⟩⟩) (λh=>by cases h) (λ_=>⟨Al O,λ_ h=>by simp at h⟩) (λ_=>rfl)⟩
    |some t =>
     rw[D]at j;simp only[D];have E:yP e _ _:=λk s' ai V am=>AG G S n k s' ai (V▸am) (V▸Fc hf (S b t j) M);have l:cS s.cm b=th.kept:=by unfold cS;rw[N];rfl
     cases Z:th.kept with
     |none =>
      rw[Z]at l;have P:∀h,cS h b=cS s.cm b->¬lL e h b:=by
       intro h J hu;obtain⟨kp,h1,_⟩:=hu.eY j;rw[J,l]at h1;cases h1
      exact IW G E hl j hd M (On.refl p) rfl (.inl ⟨rfl,rfl,rfl⟩) (.inl rfl) P (λ_ _ _ h=>by simp at h)
     |some kp =>
      rw[Z]at l;have L:=hi.iu b t kp j l;have I:=hi.fine b kp l;obtain⟨new,iu,B,Q,F⟩:=Ic E hl j L I _ [] { s with b_:=s.b_++[b] } rfl p rfl (λ_ h=>by simp at h);have ad:eZ _ b t (some kp) { s with b_:=s.b_++[b] }=match en _ b _ { s with b_:=s.b_++[b] } with|(.none,s)=>(kp.dQ,s)|(.some y,s)=>fR (cC n) b t y s:=rfl
      rw[ad];have R:lL e s.cm b->(en _ b _ { s with b_:=s.b_++[b] }).1=none/\new=[]:=λhu=>by
       obtain⟨ap,h1,h2⟩:=hu.eY j;rw[l]at h1;cases h1;exact Q h2
      generalize en _ b _ { s with b_:=s.b_++[b] }=q at iu B R F ⊢;obtain⟨o,s2⟩:=q;simp only at iu B R F;rcases F with⟨rfl,U⟩|⟨y,rfl,ab,Y,C,u⟩
      ·have T:=W.eY j (L.all (λq Q=>(U q Q).1));have ak:cS s2.cm b=some kp:=by
        have:cr s2.cm b=cr s.cm b:=iu.Ao b (λz hz h=>(iu.old z hz).2.1 SX);unfold cS at l ⊢;rw[this,l]
       exact⟨new,CN iu (.inl T) (λh=>(L.mC h).elim) (λ_=>⟨Am j ak U,B _ T⟩) (λhu=>(R hu).2)⟩
      have P:∀h,cS h b=cS s.cm b->¬lL e h b:=by
       intro h J hu;obtain⟨ap,h1,h2⟩:=hu.eY j;rw[J,l]at h1;cases h1;have m:=(h2 _ u).1;have h4:=Y.zF (.inl m);rw[h4]at C;rw[(I _ u).same]at C;cases C
      exact IW G E hl j hd M iu ab (.inr ⟨Y,C,I _ u⟩) (.inr ⟨kp,by rw[ab];exact l,u⟩) P B
end bY
end
namespace bY
def FK{n:Nat}{b:Bool}{t:T}(h:ib (n+1) b t=true):1<=t.cq/\t.cq<=16/\(t.cq=8\/t.parts.length=jy t.cq)/\(t.cq=15\/t.cq=16->ib n b (t.cG 0)=true/\ib n true (t.cG 1)=true)/\(¬(t.cq=15\/t.cq=16)->∀u∈t.parts,ib n b u=true):=by
 grind [ib]
end bY
