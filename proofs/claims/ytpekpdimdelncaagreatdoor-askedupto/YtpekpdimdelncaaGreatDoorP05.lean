/- Out of Lar. -/
import Derived.Test.YtpekpdimdelncaaGreatDoorP04
set_option linter.unusedVariables false
set_option linter.defProp false
namespace Go.Proofs.YtpekpdimdelncaaGreatDoor
section
namespace bY
def iY:Wo->Wo->Bool
 |.ok v,.ok u=>same 3 v u
 |.error c,.error d=>c==d
 |_,_=>false
def gC:Wo->Bool
 |.ok _=>false
 |.error c=>c==12
structure fM where
 dQ:Wo
 cO:List (By×Wo)
structure cu where
 value:V
 dc:Option T
 came:By
 kept:Option fM
structure qc where
 key:By
 need:By
 was:Wo
 now:Wo
structure LS where
 cm:List (By×cu)
 done:List (By×Wo)
 b_:List By
 cE:List By
 du:List qc
 jr:List By
def LS.new:LS:=⟨[],[],[],[],[],[]⟩
section
variable {α:Type}
def cr(l:List (By×α))(k:By):Option α:=(l.find? λp=>p.1==k).map (·.2)
def del(l:List (By×α))(k:By):List (By×α):=l.filter λp=>!(p.1==k)
def put(l:List (By×α))(k:By)(a:α):List (By×α) :=if(cr l k).isSome then l.map λp=>if p.1==k then(k,a)else p else l++[(k,a)]
end
/-! The journal. -/
def rP(s:Nat)(c:UInt8):Nat:=(Nat.xor s c.toNat*16777619)%4294967296
def jN(l:By):Nat:=l.foldl rP 2166136261
def jY(n:Nat):UInt8:=if n<10 then UInt8.ofNat (48+n)else UInt8.ofNat (87+n)
def wv(n:Nat):By:=(List.range 8).map λi=>jY (n / 16^(7-i)%16)
def line(t:By):By:=t++32 :: (wv (jN t)++[10])
def kR(c:Nat):By :=if c=7 then[110,111,110,101]else if c=8 then[110,111,117,103,104,116]else if c=9 then[107,105,110,100]else if c=10 then[108,97,114,103,101]else if c=11 then[115,112,101,110,116] else[]
def gu:Wo->By
 |.ok v=>wr 3 v
 |.error c=>kR c
def dU(b:By)(t:cu):By :=match t.dc with
 |.none=>[112,117,116,32]++b++32 :: wr 3 t.value
 |.some _=>[115,101,116,32]++b++32 :: t.came
def gH(n:By×Wo):By:=32 :: (n.1++61 :: gu n.2)
def dh(b:By)(k:fM):By:=[107,101,101,112,32]++b++32 :: gu k.dQ++k.cO.flatMap gH
def LS.write(s:LS)(t:By):LS:={ s with jr:=s.jr++[t] }
/-! What is brought up to date. -/
def dW(ns:List (By×Wo))(k:By)(w:Wo):List (By×Wo):=if(cr ns k).isSome then ns else ns++[(k,w)]
def di(l:List (By×cu))(k:By)(o:Option fM):List (By×cu):=l.map λp=>if p.1==k then(p.1,{ p.2 with kept:=o })else p
def LS.keep(s:LS)(b:By)(k:fM):LS:={ s with cm:=di s.cm b (some k) }.write (dh b k)
def LS.qK(s:LS)(b:By):LS:={ s with cm:=di s.cm b none }.write ([108,111,115,101,32]++b)
def cS(h:List (By×cu))(b:By):Option fM:=(cr h b).bind (·.kept)
def hM(t:T):Nat:=hT (1605+0*t.cq)
def prog(t:T):Pg Wo:=(tr (hM t) t .none 400).dQ
section
variable (j:By->LS->Wo×LS)
def en(b:By):List (By×Wo)->LS->Option qc×LS
 |[],s=>(.none,s)
 |(k,w) :: r,s=>if iY (j k s).1 w=true then en b r (j k s).2 else(some ⟨b,k,w,(j k s).1⟩,(j k s).2)
def d_(k:By)(s:LS×List (By×Wo)):Wo×(LS×List (By×Wo)):=((j k s.1).1,((j k s.1).2,dW s.2 k (j k s.1).1))
def gT(b:By)(q:Wo×(LS×List (By×Wo))):Wo×LS :=(q.1,if gC q.1=true then(if(cS q.2.1.cm b).isSome then q.2.1.qK b else q.2.1)else q.2.1.keep b ⟨q.1,q.2.2⟩)
def fR(b:By)(t:T)(y:qc)(s:LS):Wo×LS:=gT b ((prog t).run (d_ j) ({ s with du:=s.du++[y] },[]))
def eZ(b:By)(t:T):Option fM->LS->Wo×LS
 |.none,s=>fR j b t ⟨b,[],.error 0,.error 0⟩ s
 |.some k,s=>match en j b k.cO s with
  |(.none,s)=>(k.dQ,s)
  |(.some y,s)=>fR j b t y s
def dq(b:By)(s:LS):Wo×LS :=match cr s.cm b with
 |.none=>(.error 7,s)
 |.some th=>match th.dc with
  |.none=>(.ok th.value,s)
  |.some t=>eZ j b t th.kept s
end
def eI(l:List By)(k:By):List By:=l.dropWhile λx=>!(x==k)
def LS.meet(s:LS)(b:By):LS:=if s.cE=[] then{ s with cE:=eI s.b_ b } else s
def eR(e:By->LS->Wo×LS)(b:By)(s:LS):Wo×LS :=match cr s.done b with
 |.some w=>(w,s)
 |.none =>
  if s.b_.contains b=true then(.error 12,s.meet b)
  else
   ((e b { s with b_:=s.b_++[b] }).1,{ (e b { s with b_:=s.b_++[b] }).2 with b_:=(e b { s with b_:=s.b_++[b] }).2.b_.dropLast,done:=put (e b { s with b_:=s.b_++[b] }).2.done b (e b { s with b_:=s.b_++[b] }).1 })
def cC:Nat->By->LS->Wo×LS
 |0=>eR λ_ s=>(.error 11,s)
 |n+1=>eR (dq (cC n))
def LS.ask(s:LS)(b:By):Wo×LS:=cC 42 b { s with done:=[],cE:=[],du:=[] }
def LS.iq(s:LS)(b:By)(t:cu):Nat×LS :=if(cr s.cm b).isNone=true/\40<=s.cm.length then(5,s) else(0,{ s with cm:=put s.cm b t }.write (dU b t))
def LS.drop(s:LS)(b:By):LS:={ s with cm:=del s.cm b }.write ([100,114,111,112,32]++b)
/-! Lists of keys. -/
section
variable {α:Type}
def look_nil(k):cr ([]:List (By×α)) k=none:=rfl
theorem dV(p)(l:List (By×α))(k):cr (p :: l) k=if p.1=k then some p.2 else cr l k:=by
 grind [cr]
def sE(l m:List (By×α))(k):cr (l++m) k=(cr l k).or (cr m k):=by
 induction l with
 |nil=>simp[look_nil]
 |cons p l b =>
  rw[Qs,dV,dV,b];split
  ·simp
  rfl
def jm{l:List (By×α)}{k:By}:cr l k=none↔∀p∈l,p.1≠k:=by
 induction l with
 |nil=>simp[look_nil]
 |cons p l b =>
  rw[dV];by_cases h:p.1=k
  ·simp[h]
  simp[h,b]
def jz{β:Type}(f)(g:By->α->β)(hf:∀p,f p=(p.1,g p.1 p.2))(l k):cr (l.map f) k=(cr l k).map (g k):=by
 induction l with
 |nil=>rfl
 |cons p l b =>
  rw[Qg,dV,dV,b,hf];by_cases h:p.1=k
  ·simp[h]
  simp[h]
theorem ep(l k)(a:α)(k'):cr (put l k a) k'=if k=k' then some a else cr l k':=by
 unfold put;by_cases hs:(cr l k).isSome=true
 ·rw[ag hs,jz _ (λq b=>if q=k then a else b) (λp=>?_)]
  ·by_cases h:k=k'
   ·subst h;obtain⟨b,hb⟩:=Q_.1 hs
    grind
   rw[ae h];have h':¬k'=k:=λe=>h e.symm
   simp_all
  grind
 rw[ae hs,sE,dV,look_nil];have m:cr l k=none:=by
  simp_all
 grind
theorem oK(l:List (By×α))(k k'):cr (del l k) k'=if k=k' then none else cr l k':=by
 unfold del
 induction l with
 |nil=>simp[look_nil]
 |cons p l m =>
  rw[QY];by_cases h:p.1=k
  ·rw[ae (by simp[h]),m,dV];by_cases h2:k=k'
   ·simp[h2]
   have b:¬p.1=k':=λe=>h2 (h.symm.trans e);simp[h2,b]
  rw[ag (by simp[h]),dV,dV,m];by_cases h2:k=k'
  ·have b:¬p.1=k':=λe=>h (e.trans h2.symm);simp[h2,b]
  simp[h2]
end
theorem iN(l k o k'):cr (di l k o) k'=if k=k' then(cr l k').map λth=>{ th with kept:=o } else cr l k':=by
 unfold di;rw[jz _ (λq th=>if q=k then{ th with kept:=o } else th) (λp=>?_)]
 ·by_cases h:k=k'
  ·grind
  have h':¬k'=k:=λe=>h e.symm
  simp_all
 grind
theorem fj(l k o k'):cS (di l k o) k'=if k=k' then(cr l k').bind λ_=>o else cS l k':=by
 unfold cS;rw[iN];by_cases h:k=k'
 ·subst h;simp only[aN];cases cr l k<;>rfl
 grind
end bY
end
section
namespace bY
abbrev Src:=By->Option (Sum V T)
def fS(h:List (By×cu)):Src:=λk=>(cr h k).map λth=>match th.dc with|.none=>.inl th.value|.some t=>.inr t
def Hz(t):Fin (prog t):=xc _ (kh _ _ _ _)
def Rn(O:By->Wo->Prop):Pg Wo->Wo->Prop
 |⟨.inl u⟩,w=>u=w/\w≠.error 12
 |⟨.inr (k,c)⟩,w=>∃u,O k u/\Rn O (c u) w
section
variable (e:Src)
def lC(k:By)(w:Wo):Prop:=(e k=none/\w=.error 7)\/∃v,e k=some (.inl v)/\w=.ok v
def Wn:Nat->By->Wo->Prop
 |0,k,w=>lC e k w
 |n+1,k,w=>lC e k w\/∃t,e k=some (.inr t)/\Rn (Wn n) (prog t) w
def W(k:By)(w:Wo):Prop:=∃n,Wn e n k w
def Is(k:By)(w:Wo):Prop:=W e k w\/(w=.error 12/\∀u,¬W e k u)
def Fb:Pg Wo->By->Prop
 |⟨.inl _⟩,_=>False
 |⟨.inr (k,c)⟩,k'=>k=k'\/∃u,W e k u/\Fb (c u) k'
def DQ(k k':By):Prop:=∃t,e k=some (.inr t)/\Fb e (prog t) k'
end
def Rn.mono{O O':By->Wo->Prop}(h:∀k u,O k u->O' k u):∀p w,Rn O p w->Rn O' p w
 |⟨.inl _⟩,_,b=>b
 |⟨.inr (k,c)⟩,w,⟨u,h1,h2⟩=>⟨u,h k u h1,Rn.mono h (c u) w h2⟩
def Rn.mC{O:By->Wo->Prop}:∀p w,Rn O p w->w≠.error 12
 |⟨.inl _⟩,_,b=>b.2
 |⟨.inr (_,c)⟩,w,⟨u,_,h2⟩=>Rn.mC (c u) w h2
def Rn.zF{O O':By->Wo->Prop}(h:∀k u u',O k u->O' k u'->u=u'):∀p w w',Rn O p w->Rn O' p w'->w=w'
 |⟨.inl _⟩,_,_,l,m=>l.1.symm.trans m.1
 |⟨.inr (k,c)⟩,w,w',⟨u,h1,h2⟩,⟨u',b,j⟩=>by
  obtain rfl:=h k u u' h1 b;exact Rn.zF h (c u) w w' h2 j
variable {e:Src}
theorem lC.mC{k:By}{w:Wo}(h:lC e k w):w≠.error 12:=by
 rcases h with⟨_,rfl⟩|⟨v,_,rfl⟩
 ·grind
 grind
theorem lC.zF{k:By}{w w':Wo}(h:lC e k w)(h':lC e k w'):w=w':=by
 rcases h with⟨h,rfl⟩|⟨v,h,rfl⟩<;>rcases h' with⟨h',rfl⟩|⟨v',h',rfl⟩
 ·rfl
 ·grind
 ·grind
 grind
theorem lC.qg{k:By}{w:Wo}{t:T}(h:lC e k w)(h':e k=some (.inr t)):False:=by
 rcases h with⟨h,_⟩|⟨v,h,_⟩
 ·grind
 grind
def Wn.mC{n:Nat}{k:By}{w:Wo}(h:Wn e n k w):w≠.error 12:=by
 cases n with
 |zero=>exact lC.mC h
 |succ n =>
  rcases h with h|⟨t,_,h⟩
  ·exact h.mC
  exact Rn.mC _ _ h
def Wn.up:∀{n:Nat} {k:By} {w:Wo},Wn e n k w->Wn e (n+1) k w
 |0,_,_,h=>.inl h
 |n+1,k,w,h=>by
  rcases h with h|⟨t,h1,h2⟩
  ·exact .inl h
  exact .inr ⟨t,h1,h2.mono (λ_ _ h=>Wn.up h)⟩
def Wn.le{n m:Nat}{k:By}{w:Wo}(h:Wn e n k w)(b:n<=m):Wn e m k w:=by
 induction b with
 |refl=>exact h
 |step _ j=>exact j.up
def Wn.zF:∀{n:Nat} {m:Nat} {k:By} {w w':Wo},Wn e n k w->Wn e m k w'->w=w'
 |0,m,k,w,w',h,h'=>by
  cases m with
  |zero=>exact lC.zF h h'
  |succ m =>
   rcases h' with h'|⟨t,h1,_⟩
   ·exact lC.zF h h'
   exact(lC.qg h h1).elim
 |n+1,m,k,w,w',h,h'=>by
  rcases h with h|⟨t,h1,h2⟩
  ·cases m with
   |zero=>exact lC.zF h h'
   |succ m =>
    rcases h' with h'|⟨t,h1,_⟩
    ·exact lC.zF h h'
    exact(lC.qg h h1).elim
  cases m with
  |zero=>exact(lC.qg h' h1).elim
  |succ m =>
   rcases h' with h'|⟨t',j,l⟩
   ·exact(lC.qg h' h1).elim
   rw[h1]at j;cases j;exact Rn.zF (O:=Wn e n) (O':=Wn e m) (λk u u' a b=>Wn.zF (n:=n) (m:=m) (k:=k) a b) _ _ _ h2 l
def W.zF{k:By}{w w':Wo}:W e k w->W e k w'->w=w'
 |⟨_,h⟩,⟨_,h'⟩=>h.zF h'
def W.mC{k:By}{w:Wo}:W e k w->w≠.error 12
 |⟨_,h⟩=>h.mC
theorem Is.zF{k:By}{w w':Wo}(h:Is e k w)(h':Is e k w'):w=w':=by
 rcases h with h|⟨rfl,h⟩<;>rcases h' with h'|⟨rfl,h'⟩
 ·exact h.zF h'
 ·grind
 ·grind
 rfl
theorem Is.w{k:By}{w:Wo}(h:Is e k w)(b:w≠.error 12):W e k w:=by
 rcases h with h|⟨rfl,_⟩
 ·exact h
 grind
theorem Is.no{k:By}{u:Wo}(h:Is e k (.error 12)):¬W e k u:=by
 rcases h with h|⟨_,h⟩
 ·exact(h.mC rfl).elim
 grind
def Rn.HJ:∀p w,Rn (W e) p w->∃n,Rn (Wn e n) p w
 |⟨.inl _⟩,_,h=>⟨0,h⟩
 |⟨.inr (k,c)⟩,w,⟨u,⟨n,h1⟩,h2⟩=>by
  obtain⟨m,b⟩:=Rn.HJ (c u) w h2;exact⟨max n m,u,h1.le (Ri _ _),b.mono (λ_ _ h=>h.le (Rk _ _))⟩
def W.eY{k:By}{t:T}{w:Wo}(h:e k=some (.inr t))(j:Rn (W e) (prog t) w):W e k w:=by
 obtain⟨n,b⟩:=Rn.HJ _ _ j;exact⟨n+1,.inr ⟨t,h,b⟩⟩
def xr{n:Nat}{k':By}:∀p w,Rn (Wn e n) p w->Fb e p k'->∃w',Wn e n k' w'
 |⟨.inl _⟩,_,_,h=>h.elim
 |⟨.inr (k,c)⟩,w,⟨u,h1,h2⟩,h=>by
  rcases h with rfl|⟨u',b,j⟩
  ·exact⟨u,h1⟩
  obtain rfl:=W.zF ⟨n,h1⟩ b;exact xr (c u) w h2 j
def DQ.down{n:Nat}{k k':By}{w:Wo}(h:DQ e k k')(b:Wn e n k w):∃m w',m<n/\Wn e m k' w':=by
 obtain⟨t,h1,h2⟩:=h;cases n with
 |zero=>exact(lC.qg b h1).elim
 |succ n =>
  rcases b with b|⟨t',j,l⟩
  ·exact(lC.qg b h1).elim
  rw[h1]at j;cases j;obtain⟨w',h⟩:=xr _ _ l h2;exact⟨n,w',Nat.lt_succ_self n,h⟩
def Cu(R:By->By->Prop):List By->Prop
 |[]=>True
 |[_]=>True
 |a :: b :: r=>R a b/\Cu R (b :: r)
def H7{l:List By}:∀{a:By} {n:Nat} {w:Wo},Cu (DQ e) (a :: l)->Wn e n a w->∀x∈l,∃m w',m<n/\Wn e m x w':=by
 induction l with
 |nil=>intro a n w _ _ x hx;simp at hx
 |cons b r z =>
  intro a n w hl u x hx;obtain⟨h1,h2⟩:=hl;obtain⟨m,w',p,j⟩:=h1.down u;rcases aP.1 hx with rfl|hx
  ·exact⟨m,w',p,j⟩
  obtain⟨B,w2,C,y⟩:=z h2 j x hx;exact⟨B,w2,by omega,y⟩
def Cv{k:By}{l:List By}(hl:Cu (DQ e) (k :: l++[k])):∀u,¬W e k u:=by
 intro u ⟨n,j⟩
 induction n using Nat.strongRecOn generalizing u with
 |ind n r =>
  obtain⟨m,w',b,p⟩:=H7 (l:=l++[k]) (by simpa using hl) j k R2;exact r m b w' p
def Ak{R:By->By->Prop}:∀l m,Cu R (l++m)->Cu R m
 |[],m,h=>h
 |[a],[],_=>trivial
 |[a],b :: m,h=>h.2
 |a :: b :: r,m,h=>Ak (b :: r) m h.2
def uG{R:By->By->Prop}:∀l a b,Cu R (l++[a])->R a b->Cu R (l++[a]++[b])
 |[],a,b,_,h=>⟨h,trivial⟩
 |[x],a,b,h,h'=>⟨h.1,h',trivial⟩
 |x :: y :: r,a,b,h,h'=>⟨h.1,uG (y :: r) a b h.2 h'⟩
def pT:∀l k,k∈l->∃m r,l=m++k :: r/\eI l k=k :: r
 |[],_,h=>by simp at h
 |x :: l,k,h=>by
  by_cases hx:x=k
  ·subst hx;exact⟨[],l,rfl,by unfold eI;rw[QU];simp⟩
  obtain⟨m,r,h1,h2⟩:=pT l k (by rcases aP.1 h with h|h;exact(hx h.symm).elim;exact h);refine⟨x :: m,r,by rw[h1];rfl,?_⟩;unfold eI at h2 ⊢;rw[QU,ag SW,h2]
def Ring(e:Src)(l:List By):Prop:=∃k r,l=k :: r/\Cu (DQ e) (k :: r++[k])
def H8{l:List By}{k:By}(h:Cu (DQ e) (l++[k]))(j:k∈l):Ring e (eI l k)/\∀u,¬W e k u:=by
 obtain⟨m,r,h1,h2⟩:=pT l k j;have b:=Ak m _ (by rw[h1]at h;simpa using h);exact⟨⟨k,r,h2,b⟩,Cv b⟩
/-! What is kept was a run. -/
def qu:Pg Wo->List (By×Wo)->List (By×Wo)->Wo->Prop
 |⟨.inl u⟩,b,ns,w=>u=w/\w≠.error 12/\b=ns
 |⟨.inr (k,c)⟩,b,ns,w=>(∃u,cr b k=some u/\qu (c u) b ns w)\/(cr b k=none/\∃u,u≠.error 12/\qu (c u) (b++[(k,u)]) ns w)
def qu.pre:∀{p:Pg Wo} {b ns:List (By×Wo)} {w:Wo},qu p b ns w->∃r,ns=b++r
 |⟨.inl _⟩,b,ns,w,h=>⟨[],by simp[h.2.2]⟩
 |⟨.inr (k,c)⟩,b,ns,w,h=>by
  rcases h with⟨u,_,h⟩|⟨_,u,_,h⟩
  ·exact qu.pre h
  obtain⟨r,j⟩:=qu.pre h;exact⟨(k,u) :: r,by rw[j];simp⟩
def qu.mC:∀{p:Pg Wo} {b ns:List (By×Wo)} {w:Wo},qu p b ns w->w≠.error 12
 |⟨.inl _⟩,_,_,_,h=>h.2.1
 |⟨.inr (k,c)⟩,b,ns,w,h=>by
  rcases h with⟨u,_,h⟩|⟨_,u,_,h⟩
  ·exact qu.mC h
  exact qu.mC h
def qu.yM:∀{p:Pg Wo} {l ns:List (By×Wo)} {w:Wo},qu p l ns w->(∀n∈l,n.2≠.error 12)->∀n∈ns,n.2≠.error 12
 |⟨.inl _⟩,_,_,_,h,j=>by rw[<-h.2.2];exact j
 |⟨.inr (k,c)⟩,l,ns,w,h,j=>by
  rcases h with⟨u,_,h⟩|⟨_,u,hu,h⟩
  ·exact qu.yM h j
  refine qu.yM h (λn b=>?_);rcases aK.1 b with b|b
  ·exact j n b
  rw[P1.1 b];exact hu
def lD{α:Type}:∀{l:List (By×α)} {k:By} {a:α},cr l k=some a->(k,a)∈l
 |[],_,_,h=>by cases h
 |p :: l,k,a,h=>by
  rw[dV]at h;by_cases b:p.1=k
  ·rw[ag b]at h;cases h;subst b;exact Qa
  rw[ae b]at h;exact aT _ (lD h)
def qu.all:∀{p:Pg Wo} {l ns:List (By×Wo)} {w:Wo},qu p l ns w->(∀n∈ns,W e n.1 n.2)->Rn (W e) p w
 |⟨.inl _⟩,_,_,_,h,_=>⟨h.1,h.2.1⟩
 |⟨.inr (k,c)⟩,l,ns,w,h,b=>by
  rcases h with⟨u,hu,h⟩|⟨_,u,_,h⟩
  ·obtain⟨r,j⟩:=h.pre;exact⟨u,b (k,u) (by rw[j];exact Qr _ (lD hu)),qu.all h b⟩
  obtain⟨r,j⟩:=h.pre;exact⟨u,b (k,u) (by rw[j];simp),qu.all h b⟩
theorem qu.next:∀{p:Pg Wo} {b pre post:List (By×Wo)} {k:By} {u w:Wo},qu p b (pre++(k,u) :: post) w->b.length<=pre.length->(∀n∈pre,W e n.1 n.2)->Fb e p k
 |⟨.inl _⟩,b,pre,post,k,u,w,h,hl,_=>by
  have:=congrArg List.length h.2.2;simp at this;omega
 |⟨.inr (k',c)⟩,b,pre,post,k,u,w,h,hl,j=>by
  rcases h with⟨u',hu,h⟩|⟨_,u',_,h⟩
  ·obtain⟨r,m⟩:=h.pre;have z:(k',u')∈pre:=by
    have:=lD hu;have h2:b=pre.take b.length:=by
     have l:=congrArg (List.take b.length) m;rw[Sx hl,QT]at l;exact l.symm
    rw[h2]at this;exact RS this
   exact .inr ⟨u',j _ z,qu.next h hl j⟩
  obtain⟨r,m⟩:=h.pre;have h2:(pre++(k,u) :: post)[b.length]?=some (k',u'):=by grind
  rcases Qh _ _ with B|C
  ·rw[aU B]at h2;exact .inr ⟨u',j _ (aL h2),qu.next h R5 j⟩
  have y:b.length=pre.length:=RM;rw[y,aY (af _)]at h2;simp at h2;exact .inl h2.1.symm
end bY
end
section
namespace bY
def gK(w:Wo):Prop:=∀v,w=.ok v->iM 3 v
def isKey(k:By):Bool:=dL k||(k.head?==some 107&&(dT (k.drop 1)).isSome)
def qP{α:Type}(p):∀(l:List α),((l.zip l).all p)=l.all λx=>p (x,x)
 |[]=>rfl
 |a :: l=>by simp only[List.zip_cons_cons,Qy,qP p l]
def rS:∀n v,same n v v=mj n v
 |n,⟨.inl i⟩=>by unfold same mj;simp
 |n,⟨.inr (.inl b)⟩=>by unfold same mj;simp
 |0,⟨.inr (.inr l)⟩=>by unfold same mj;rfl
 |n+1,⟨.inr (.inr l)⟩=>by
  unfold same mj;simp only[beq_self_eq_true,Qk];rw[qP]
  congr 1
  funext x
  exact rS n x
def gK.same{w:Wo}(h:gK w):iY w w=true:=by
 cases w with
 |ok v=>show bY.same 3 v v=true;rw[rS];exact pw 3 v (h v rfl)
 |error c=>simp[iY]
def KQ:Pg Wo->Prop
 |⟨.inl w⟩=>gK w
 |⟨.inr (k,c)⟩=>isKey k=true/\∀w,gK w->KQ (c w)
structure EF(e:Src):Prop where
 val:∀k v,e k=some (.inl v)->gK (.ok v)
 eY:∀k t,e k=some (.inr t)->KQ (prog t)
theorem yN:∀n v u,same n v u=true->v=u
 |n,⟨.inl i⟩,⟨.inl j⟩,h=>by unfold same at h;simp at h;rw[h]
 |n,⟨.inl i⟩,⟨.inr (.inl b)⟩,h=>by unfold same at h;simp at h
 |n,⟨.inl i⟩,⟨.inr (.inr b)⟩,h=>by unfold same at h;simp at h
 |n,⟨.inr (.inl i)⟩,⟨.inl j⟩,h=>by unfold same at h;simp at h
 |n,⟨.inr (.inl i)⟩,⟨.inr (.inl j)⟩,h=>by unfold same at h;simp at h;rw[h]
 |n,⟨.inr (.inl i)⟩,⟨.inr (.inr j)⟩,h=>by unfold same at h;simp at h
 |n,⟨.inr (.inr i)⟩,⟨.inl j⟩,h=>by unfold same at h;simp at h
 |n,⟨.inr (.inr i)⟩,⟨.inr (.inl j)⟩,h=>by unfold same at h;simp at h
 |0,⟨.inr (.inr i)⟩,⟨.inr (.inr j)⟩,h=>by unfold same at h;simp at h
 |n+1,⟨.inr (.inr l)⟩,⟨.inr (.inr m)⟩,h=>by
  unfold same at h;simp only[QB,P',P_]at h;obtain⟨h1,h2⟩:=h;have:l=m:=by
   apply Rf ;intro i;rcases Qh i l.length with hi|hi
   ·have p:i<m.length:=RM;rw[aq hi,aq p];have r:=h2 (l[i],m[i]) (by
     apply aL (i:=i);rw[List.getElem?_zip_eq_some];exact⟨aq hi,aq p⟩)
    rw[yN n l[i] m[i] r]
   grind
  grind
theorem H9{a b:Wo}(h:iY a b=true):a=b:=by
 cases a<;>cases b<;>simp[iY]at h
 ·rw[h]
 grind [yN]
def Rn.fine{O:By->Wo->Prop}(h:∀k u,O k u->gK u):∀p w,Rn O p w->KQ p->gK w
 |⟨.inl _⟩,_,b,hc=>b.1▸hc
 |⟨.inr (k,c)⟩,w,⟨u,h1,h2⟩,hc=>Rn.fine h (c u) w h2 (hc.2 u (h k u h1))
variable {e:Src}
def Wn.fine(b:EF e):∀{n:Nat} {k:By} {w:Wo},Wn e n k w->gK w:=by
 have hb:∀{k w},lC e k w->gK w:=by
  intro k w h;rcases h with⟨_,rfl⟩|⟨v,h,rfl⟩
  ·exact λv hv=>by cases hv
  exact b.val k v h
 intro n
 induction n with
 |zero=>intro k w h;exact hb h
 |succ n j =>
  intro k w h;rcases h with h|⟨t,h1,h2⟩
  ·exact hb h
  exact Rn.fine (λk u h=>j h) _ _ h2 (b.eY k t h1)
def W.fine(b:EF e){k:By}{w:Wo}:W e k w->gK w
 |⟨_,h⟩=>h.fine b
/-! Up to date. -/
def sX(e:Src)(h:List (By×cu)):Nat->By->Prop
 |0,k=>∀t,e k≠some (.inr t)
 |n+1,k=>(∀t,e k≠some (.inr t))\/∃t kp,e k=some (.inr t)/\cS h k=some kp/\∀q∈kp.cO,W e q.1 q.2/\sX e h n q.1
def lL(e:Src)(h:List (By×cu))(k:By):Prop:=∃n,sX e h n k
def sX.up{h:List (By×cu)}:∀{n:Nat} {k:By},sX e h n k->sX e h (n+1) k
 |0,_,hu=>.inl hu
 |n+1,k,hu=>by
  rcases hu with hu|⟨t,kp,h1,h2,b⟩
  ·exact .inl hu
  exact .inr ⟨t,kp,h1,h2,λq j=>⟨(b q j).1,sX.up (b q j).2⟩⟩
def sX.le{h:List (By×cu)}{n m:Nat}{k:By}(hu:sX e h n k)(b:n<=m):sX e h m k:=by
 induction b with
 |refl=>exact hu
 |step _ j=>exact j.up
def Al{h:List (By×cu)}{k:By}(b:∀t,e k≠some (.inr t)):lL e h k:=⟨0,b⟩
def DR{h:List (By×cu)}:∀(l:List (By×Wo)),(∀q∈l,lL e h q.1)->∃n,∀q∈l,sX e h n q.1
 |[],_=>⟨0,λq b=>by simp at b⟩
 |q :: l,hl=>by
  obtain⟨n,p⟩:=hl q Qa;obtain⟨m,j⟩:=DR l (λq b=>hl q (aT _ b));refine⟨max n m,λr b=>?_⟩;rcases aP.1 b with rfl|b
  ·exact p.le (Ri _ _)
  exact(j r b).le (Rk _ _)
def Am{h:List (By×cu)}{k:By}{t:T}{kp:fM}(h1:e k=some (.inr t))(h2:cS h k=some kp)(j:∀q∈kp.cO,W e q.1 q.2/\lL e h q.1):lL e h k:=by
 obtain⟨n,l⟩:=DR _ (λq b=>(j q b).2);exact⟨n+1,.inr ⟨t,kp,h1,h2,λq b=>⟨(j q b).1,l q b⟩⟩⟩
def lL.eY{h:List (By×cu)}{k:By}{t:T}(hu:lL e h k)(h1:e k=some (.inr t)):∃kp,cS h k=some kp/\∀q∈kp.cO,W e q.1 q.2/\lL e h q.1:=by
 obtain⟨n,b⟩:=hu;cases n with
 |zero=>exact(b t h1).elim
 |succ n =>
  rcases b with b|⟨t',kp,m,h2,j⟩
  ·exact(b t h1).elim
  exact⟨kp,h2,λq l=>⟨(j q l).1,n,(j q l).2⟩⟩
def qQ{h h':List (By×cu)}(hs:∀k,lL e h k->cS h' k=cS h k){k:By}(hu:lL e h k):lL e h' k:=by
 obtain⟨n,m⟩:=hu;have:∀n k,sX e h n k->sX e h' n k:=by
  intro n
  induction n with
  |zero=>intro k b;exact b
  |succ n p =>
   intro k b;have hu:lL e h k:=⟨n+1,b⟩;rcases b with b|⟨t,kp,h1,h2,j⟩
   ·exact .inl b
   exact .inr ⟨t,kp,h1,(hs k hu).trans h2,λq l=>⟨(j q l).1,p _ (j q l).2⟩⟩
 exact⟨n,this n k m⟩
/-! A H_ in an Ask. -/
structure Inv(e:Src)(s:LS):Prop where
 src:fS s.cm=e
 done:∀k w,cr s.done k=some w->Is e k w
 wj:∀k w,cr s.done k=some w->w≠.error 12->lL e s.cm k
 iu:∀k t kp,e k=some (.inr t)->cS s.cm k=some kp->qu (prog t) [] kp.cO kp.dQ
 only:∀k kp,cS s.cm k=some kp->∃t,e k=some (.inr t)
 fine:∀k kp,cS s.cm k=some kp->∀q∈kp.cO,gK q.2
 cE:s.cE≠[]->Ring e s.cE
 rr:∀k,cr s.done k=some (.error 12)->s.cE≠[]
def Ia(e:Src)(y:qc):Prop:=(y.need=[]/\y.was=.error 0/\y.now=.error 0)\/(Is e y.need y.now/\iY y.now y.was=false/\gK y.was)
def yO(e:Src)(h:List (By×cu))(l:List By)(h':List (By×cu))(m:List By):Prop :=∀P:List (By×cu)->List By->Prop,P h l ->(∀{h1:List (By×cu)} {j:List By} {b:By} {t:T} {kp:fM},P h1 j->e b=some (.inr t)->qu (prog t) [] kp.cO kp.dQ->(∀q∈kp.cO,W e q.1 q.2)->W e b kp.dQ->P (di h1 b (some kp)) (j++[dh b kp])) ->(∀{h1:List (By×cu)} {j:List By} {b:By} {kp:fM},P h1 j->cS h1 b=some kp->P (di h1 b none) (j++[[108,111,115,101,32]++b]))->P h' m
def yO.refl{h:List (By×cu)}{j:List By}:yO e h j h j:=λP a b c=>a
def yO.keep{h h1:List (By×cu)}{l m:List By}{j:By}{t:T}{kp:fM}(hl:yO e h l h1 m)(n:e j=some (.inr t))(p:qu (prog t) [] kp.cO kp.dQ)(r:∀q∈kp.cO,W e q.1 q.2)(u:W e j kp.dQ):yO e h l (di h1 j (some kp)) (m++[dh j kp]) :=λP a b c=>b (hl P a b c) n p r u
def yO.qK{h h1:List (By×cu)}{l m:List By}{j:By}{kp:fM}(hl:yO e h l h1 m)(n:cS h1 j=some kp):yO e h l (di h1 j none) (m++[[108,111,115,101,32]++j]) :=λP a b c=>c (hl P a b c) n
def yO.trans{h h1 h2:List (By×cu)}{j j1 l:List By}(a:yO e h j h1 j1)(b:yO e h1 j1 h2 l):yO e h j h2 l :=b (λh2 l=>yO e h j h2 l) a (λn m p r u=>n.keep m p r u) (λn m=>n.qK m)
def Wd(h:List (By×cu))(y:qc):Prop:=y.need=[]\/∃kp,cS h y.key=some kp/\(y.need,y.was)∈kp.cO
structure On(e:Src)(s s':LS)(new:List qc):Prop where
 inv:Inv e s'
 b_:s'.b_=s.b_
 done:∀k w,cr s.done k=some w->cr s'.done k=some w
 cE:s.cE≠[]->s'.cE=s.cE
 du:s'.du=s.du++new
 Ib:∀y∈new,Ia e y
 old:∀y∈new,cr s.done y.key=none/\y.key∉s.b_/\¬lL e s.cm y.key/\∃w,cr s'.done y.key=some w
 nodup:(new.map (·.key)).Nodup
 Ao:∀k,(∀y∈new,y.key≠k)->cr s'.cm k=cr s.cm k
 quiet:new=[]->s'.cm=s.cm/\s'.jr=s.jr
 was:∀y∈new,Wd s.cm y
 jr:yO e s.cm s.jr s'.cm s'.jr
def On.refl{s:LS}(h:Inv e s):On e s s [] :=⟨h,rfl,λ_ _ h=>h,λ_=>rfl,by simp,λ_ h=>by simp at h,λ_ h=>by simp at h,by simp,λ_ _=>rfl,λ_=>⟨rfl,rfl⟩,λ_ h=>by simp at h,.refl⟩
def On.kept{s s':LS}{new:List qc}(h:On e s s' new){k:By}(j:lL e s.cm k):cS s'.cm k=cS s.cm k:=by
 unfold cS;rw[h.Ao k (λy hy b=>(h.old y hy).2.2.1 (b▸j))]
def On.wj{s s':LS}{new:List qc}(h:On e s s' new){k:By}(b:lL e s.cm k):lL e s'.cm k :=qQ (λ_ hu=>h.kept hu) b
def On.trans{s B C:LS}{r u:List qc}(h:On e s B r)(h':On e B C u):On e s C (r++u) where
 inv:=h'.inv
 b_:=h'.b_.trans h.b_
 done k w j:=h'.done k w (h.done k w j)
 cE n:=(h'.cE (by rw[h.cE n];exact n)).trans (h.cE n)
 du:=by rw[h'.du,h.du,QM]
 Ib y hy:=(aK.1 hy).elim (h.Ib y) (h'.Ib y)
 old y hy:=by
  rcases aK.1 hy with hy|hy
  ·obtain⟨h1,h2,l,w,m⟩:=h.old y hy;exact⟨h1,h2,l,w,h'.done _ _ m⟩
  obtain⟨h1,h2,l,m⟩:=h'.old y hy;refine⟨?_,h.b_▸h2,λhu=>l (h.wj hu),m⟩;cases hd:cr s.done y.key with
  |none=>rfl
  |some w=>rw[h.done _ _ hd]at h1;cases h1
 nodup:=by
  rw[aV,Q3];refine⟨h.nodup,h'.nodup,?_⟩;intro a E b hb F;obtain⟨y,hy,rfl⟩:=aH.1 E;obtain⟨z,hz,rfl⟩:=aH.1 hb;obtain⟨_,_,_,w,p⟩:=h.old y hy;have:=(h'.old z hz).1;rw[<-F,p]at this;cases this
 Ao k j:=(h'.Ao k (λy hy=>j y (List.mem_append_right _ hy))).trans (h.Ao k (λy hy=>j y (Qr _ hy)))
 quiet G:=by
  obtain⟨h1,h2⟩:=List.append_eq_nil_iff.1 G;obtain⟨a,b⟩:=h.quiet h1;obtain⟨c,d⟩:=h'.quiet h2;exact⟨c.trans a,d.trans b⟩
 was y hy:=by
  rcases aK.1 hy with hy|hy
  ·exact h.was y hy
  rcases h'.was y hy with D|⟨kp,h1,h2⟩
  ·exact .inl D
  refine .inr ⟨kp,?_,h2⟩;rw[<-h1];unfold cS;rw[h.Ao y.key (λz hz e=>by
   obtain⟨_,_,_,w,p⟩:=h.old z hz;have:=(h'.old y hy).1;rw[<-e,p]at this;cases this)]
 jr:=h.jr.trans h'.jr
def BP(e:Src)(key:By)(s:LS)(q:Wo×LS):Prop :=∃new,On e s q.2 new/\Is e key q.1/\(q.1=.error 12->q.2.cE≠[])/\(q.1≠.error 12->lL e q.2.cm key/\∀y∈new,lL e q.2.cm y.key)/\(lL e s.cm key->new=[])/\(key∈s.b_\/cr q.2.done key=some q.1)
def Fuel(K:List By)(b:List By)(n:Nat):Prop:=(K.filter λk=>!b.contains k).length<n
theorem Fc{K b:List By}{n:Nat}{j:By}(h:Fuel K b (n+1))(l:j∈K)(hb:j∉b):Fuel K (b++[j]) n:=by
 unfold Fuel at *;have:(K.filter λk=>!(b++[j]).contains k).length<(K.filter λk=>!b.contains k).length:=by
  have h2:(K.filter λk=>!(b++[j]).contains k)=(K.filter λk=>!b.contains k).filter λk=>!(k==j):=by
   rw[RD]
   grind
  rw[h2];apply RU.2
  grind
 omega
section
structure KS(e:Src)(key:By)(p:Pg Wo):Prop where
 down:∀n w,Wn e (n+1) key w->Rn (Wn e n) p w
 up:∀w,Rn (W e) p w->W e key w
 asks:∀k',Fb e p k'->DQ e key k'
theorem KS.start{j:By}{t:T}(h:e j=some (.inr t)):KS e j (prog t) where
 down n w b:=by
  rcases b with b|⟨t',h1,h2⟩
  ·grind [lC.qg]
  grind
 up w b:=W.eY h b
 asks k' l:=⟨t,h,l⟩
def KS.step{j k:By}{c:Wo->Pg Wo}{u:Wo}(h:KS e j ⟨.inr (k,c)⟩)(hu:W e k u):KS e j (c u) where
 down n w b:=by
  obtain⟨u',h1,h2⟩:=h.down n w b;obtain rfl:=W.zF ⟨n,h1⟩ hu;exact h2
 up w b:=h.up w ⟨u,hu,b⟩
 asks k' l:=h.asks k' (.inr ⟨u,hu,l⟩)
def KS.no{b k:By}{c:Wo->Pg Wo}(h:KS e b ⟨.inr (k,c)⟩)(j:∀u,¬W e k u):∀w,¬W e b w:=by
 rintro w⟨n,l⟩;obtain⟨u,h1,_⟩:=h.down n w l.up;exact j u ⟨n,h1⟩
def yP(e:Src)(j:By->LS->Wo×LS)(b:List By):Prop:=∀k s,Inv e s->s.b_=b->Cu (DQ e) (b++[k])->BP e k s (j k s)
def Ni(R:EF e){l:By->LS->Wo×LS}{b:List By}{key:By}(P:yP e l (b++[key]))(hl:Cu (DQ e) (b++[key])):∀p s j,Inv e s->s.b_=b++[key]->KS e key p->Fin p->(∀q∈j,W e q.1 q.2/\lL e s.cm q.1/\gK q.2) ->∃new,On e s (p.run (d_ l) (s,j)).2.1 new /\(((p.run (d_ l) (s,j)).1=.error 12/\(p.run (d_ l) (s,j)).2.1.cE≠[]/\∀u,¬W e key u) \/((p.run (d_ l) (s,j)).1≠.error 12/\W e key (p.run (d_ l) (s,j)).1/\qu p j (p.run (d_ l) (s,j)).2.2 (p.run (d_ l) (s,j)).1/\(∀q∈(p.run (d_ l) (s,j)).2.2,W e q.1 q.2/\lL e (p.run (d_ l) (s,j)).2.1.cm q.1/\gK q.2)/\∀y∈new,lL e (p.run (d_ l) (s,j)).2.1.cm y.key)):=by
 intro p
 induction p using Pg.ind with
 |h1 w =>
  intro s j hi hb E hf B;have n:=hf;exact⟨[],On.refl hi,.inr ⟨n,E.up w ⟨rfl,n⟩,⟨rfl,n,rfl⟩,B,λ_ h=>by simp at h⟩⟩
 |h2 k c V =>
  intro s j hi hb E hf B;have S:(Pg.ask k c).run _ (s,j)=(c (l k s).1).run (d_ l) ((l k s).2,dW j k (l k s).1):=rfl;rw[S];have r:=uG b key k hl (E.asks k (.inl rfl));obtain⟨new,z,F,n,I,m,hd⟩:=P k s hi hb r;generalize l k s=q at z F n I hd ⊢;obtain⟨u,K⟩:=q;simp only at z F n I hd ⊢;by_cases hu:u=.error 12
  ·subst hu;have hc:=hf.1;rw[hc];exact⟨new,z,.inl ⟨rfl,n rfl,E.no (λu C=>F.no C)⟩⟩
  have C:=F.w hu;obtain⟨T,U⟩:=I hu;have Q:∀q∈dW j k u,W e q.1 q.2/\lL e K.cm q.1/\gK q.2:=by
   intro q m;have h1:q∈j\/q=(k,u):=by
    unfold dW at m;split at m
    ·exact .inl m
    rcases aK.1 m with m|m
    ·exact .inl m
    exact .inr (P1.1 m)
   rcases h1 with h1|rfl
   ·exact⟨(B q h1).1,z.wj (B q h1).2.1,(B q h1).2.2⟩
   exact⟨C,T,C.fine R⟩
  obtain⟨X,J,G⟩:=V u K _ z.inv (z.b_.trans hb) (E.step C) (hf.2 u hu) Q;refine⟨new++X,z.trans J,?_⟩;rcases G with G|⟨L,M,D,N,O⟩
  ·exact .inl G
  refine .inr ⟨L,M,?_,N,λy hy=>?_⟩
  ·unfold dW at D ⊢;cases r:cr j k with
   |some u0 =>
    rw[r]at D;have:u0=u:=(B _ (lD r)).1.zF C;subst this;exact .inl ⟨u0,r,by simpa using D⟩
   |none =>
    rw[r]at D;exact .inr ⟨r,u,hu,by simpa using D⟩
  rcases aK.1 hy with hy|hy
  ·exact J.wj (U y hy)
  exact O y hy
theorem Ic{j:By->LS->Wo×LS}{b:List By}{key:By}{t:T}{kp:fM}(J:yP e j (b++[key]))(hl:Cu (DQ e) (b++[key]))(G:e key=some (.inr t))(E:qu (prog t) [] kp.cO kp.dQ)(L:∀q∈kp.cO,gK q.2):∀rest pre s,kp.cO=pre++rest->Inv e s->s.b_=b++[key]->(∀q∈pre,W e q.1 q.2/\lL e s.cm q.1) ->∃new,On e s (en j key rest s).2 new/\((∀u,W e key u->∀y∈new,lL e (en j key rest s).2.cm y.key))/\((∀q∈rest,W e q.1 q.2/\lL e s.cm q.1)->(en j key rest s).1=none/\new=[]) /\(((en j key rest s).1=none/\∀q∈kp.cO,W e q.1 q.2/\lL e (en j key rest s).2.cm q.1) \/∃y,(en j key rest s).1=some y/\y.key=key/\Is e y.need y.now/\iY y.now y.was=false/\(y.need,y.was)∈kp.cO)
 |[],pre,s,z,hi,hb,C=>by
  rw[QA]at z;exact⟨[],On.refl hi,λ_ _ _ h=>by simp at h,λ_=>⟨rfl,rfl⟩,.inl ⟨rfl,z▸C⟩⟩
 |(k,w) :: rest,pre,s,z,hi,hb,C=>by
  have K:Fb e (prog t) k:=qu.next (z▸E) (au _) (λq l=>(C q l).1);have S:Cu (DQ e) (b++[key]++[k]):=uG b key k hl ⟨t,G,K⟩;obtain⟨new,p,r,I,D,l,hd⟩:=J k s hi hb S;have Q:en j key ((k,w) :: rest) s=if iY (j k s).1 w=true then en j key rest (j k s).2 else(some ⟨key,k,w,(j k s).1⟩,(j k s).2):=rfl;rw[Q];generalize j k s=q at p r I D hd ⊢;obtain⟨u,N⟩:=q;simp only at p r I D hd ⊢;have F:(k,w)∈kp.cO:=by rw[z];simp
  have R:∀v,W e key v->u≠.error 12:=by
   rintro v⟨n,hv⟩ rfl;obtain⟨m,w',_,Y⟩:=DQ.down ⟨t,G,K⟩ hv;exact r.no ⟨m,Y⟩
  by_cases hs:iY u w=true
  ·rw[ag hs];obtain rfl:=H9 hs;have hu:=E.yM (λ_ h=>by simp at h) _ F;obtain⟨V,X⟩:=D hu;have U:∀q∈pre++[(k,u)],W e q.1 q.2/\lL e N.cm q.1:=by
    intro q l;rcases aK.1 l with l|l
    ·exact⟨(C q l).1,p.wj (C q l).2⟩
    rw[P1.1 l];exact⟨r.w hu,V⟩
   obtain⟨Z,M,g1,O,P⟩:=Ic J hl G E L rest _ N (by rw[z];simp) p.inv (p.b_.trans hb) U;refine⟨new++Z,p.trans M,λv hv y hy=>?_,λB=>?_,P⟩
   ·rcases aK.1 hy with hy|hy
    ·exact M.wj (X y hy)
    grind
   have hk:=l (B (k,u) Qa).2;obtain⟨h5,h6⟩:=O (λq l=>⟨(B q (aT _ l)).1,p.wj (B q (aT _ l)).2⟩)
   grind
  rw[ae hs];refine⟨new,p,λv hv y hy=>(D (R v hv)).2 y hy,λB=>?_,.inr ⟨_,rfl,rfl,r,by simpa using hs,F⟩⟩;exfalso;obtain⟨h1,h2⟩:=B (k,w) Qa;have:u=w:=r.zF (.inl h1);subst this;exact hs (L _ F).same
end
end bY
end
section
namespace bY
def cX(h:List (By×cu)):List (By×cu):=h.map λp=>(p.1,{ p.2 with kept:=none })
def dE(h:List (By×cu)):List By:=(h.filter λp=>p.2.dc.isSome).map (·.1)
def eE(h:List (By×cu)):dE (cX h)=dE h:=by
 unfold dE cX;rw[List.filter_map,P8];rfl
def ni(h:List (By×cu))(k):cr (cX h) k=(cr h k).map λth=>{ th with kept:=none } :=jz (λp:By×cu=>(p.1,({ p.2 with kept:=none }:cu))) (λ_ (th:cu)=>({ th with kept:=none }:cu)) (λ_=>rfl) h k
theorem gy(h:List (By×cu))(k o):cX (di h k o)=cX h:=by
 unfold cX di;rw[P8];refine Qu (λp _=>?_)
 grind
def j8{α:Type}:∀{l:List (By×α)} {k:By} {a:α},cr l k=some a->(k,a)∈l
 |[],_,_,h=>by cases h
 |p :: l,k,a,h=>by
  rw[dV]at h;by_cases b:p.1=k
  ·rw[ag b]at h;cases h;subst b;exact Qa
  rw[ae b]at h;exact aT _ (j8 h)
def h_{h:List (By×cu)}{k:By}{th:cu}(hl:cr h k=some th)(b:th.dc.isSome=true):k∈dE h :=aH.2 ⟨(k,th),Q5.2 ⟨j8 hl,b⟩,rfl⟩
def Rs(s:LS):Nat:=((dE s.cm).filter λk=>(cr s.done k).isNone).length
def KB(h:List (By×cu)):Prop:=∀p∈h,∀kp,p.2.kept=some kp->kp.cO.length<=401
structure jg(s s':LS)(c:Nat):Prop where
 cX:cX s'.cm=cX s.cm
 kb:KB s.cm->KB s'.cm
 b_:s'.b_=s.b_
 mono:∀k,(cr s.done k).isSome=true->(cr s'.done k).isSome=true
 dn:∀k∈s.b_,cr s'.done k=cr s.done k
 mM:s'.done.length+1000*Rs s'<=s.done.length+1000*Rs s+c
 du:s'.du.length+Rs s'<=s.du.length+Rs s
def jg.refl(s c):jg s s c:=⟨rfl,id,rfl,λ_ h=>h,λ_ _=>rfl,by omega,by omega⟩
def jg.trans{s e l:LS}{c d:Nat}(h:jg s e c)(h':jg e l d):jg s l (c+d) :=⟨h'.cX.trans h.cX,λk=>h'.kb (h.kb k),h'.b_.trans h.b_,λk b=>h'.mono k (h.mono k b),λk b=>(h'.dn k (h.b_▸b)).trans (h.dn k b),by have:=h.mM;have:=h'.mM;omega,by have:=h.du;have:=h'.du;omega⟩
def jg.le{s b:LS}{c d:Nat}(h:jg s b c)(hd:c<=d):jg s b d:={ h with mM:=by have:=h.mM;omega }
theorem jg.dE{s b:LS}{c:Nat}(h:jg s b c):dE b.cm=dE s.cm:=by rw[<-eE,h.cX,eE]
def nj{s s':LS}(h1:cX s'.cm=cX s.cm)(h2:s'.done=s.done):Rs s'=Rs s:=by
 unfold Rs;rw[<-eE s'.cm,h1,eE,h2]
theorem y_(s k w):Rs { s with done:=put s.done k w }<=Rs s:=by
 unfold Rs;have h2:((dE s.cm).filter λx=>(cr (put s.done k w) x).isNone)=((dE s.cm).filter λx=>(cr s.done x).isNone).filter λx=>!(x==k):=by
  rw[RD];apply List.filter_congr;intro x _;rw[ep]
  grind
 grind
theorem rY(s k w)(b:k∈dE s.cm)(e:cr s.done k=none):Rs { s with done:=put s.done k w }+1<=Rs s:=by
 unfold Rs;have h2:((dE s.cm).filter λx=>(cr (put s.done k w) x).isNone)=((dE s.cm).filter λx=>(cr s.done x).isNone).filter λx=>!(x==k):=by
  rw[RD];apply List.filter_congr;intro x _;rw[ep]
  grind
 show(List.filter (λx=>(cr _ x).isNone) _).length+1<=_;rw[h2];apply RU.2
 grind
theorem DZ{α:Type}(l k)(a:α):(put l k a).length<=l.length+1:=by
 unfold put
 grind
theorem uR{h:List (By×cu)}{k:By}{o:Option fM}(e:KB h)(n:∀kp,o=some kp->kp.cO.length<=401):KB (di h k o):=by
 intro p l kp b;obtain⟨q,m,rfl⟩:=aH.1 l;by_cases h1:q.1=k
 ·grind
 rw[ae SY]at b;exact e q m kp b
section
variable {j:By->LS->Wo×LS}
def tA(b:∀k s,KB s.cm->jg s (j k s).2 1)(m):∀l s,KB s.cm->jg s (en j m l s).2 l.length
 |[],s,_=>jg.refl s 0
 |(k,w) :: r,s,e=>by
  unfold en;split
  ·exact((b k s e).trans (tA b m r _ ((b k s e).kb e))).le R5
  exact(b k s e).le R2
theorem nr(ns k w):(dW ns k w).length<=ns.length+1:=by
 unfold dW
 grind
def tB(b:∀k s,KB s.cm->jg s (j k s).2 1):∀p f s ns,KB s.cm->Sp p f->jg s (p.dQ.run (d_ j) (s,ns)).2.1 f/\(p.dQ.run (d_ j) (s,ns)).2.2.length<=ns.length+f
 |⟨.inl q⟩,f,s,ns,_,h=>⟨jg.refl s f,by show ns.length<=_;omega⟩
 |⟨.inr (k,c)⟩,f,s,ns,e,h=>by
  obtain⟨h1,h2⟩:=tB b (c (j k s).1) (f-1) (j k s).2 (dW ns k (j k s).1) ((b k s e).kb e) (h.2 _);have hl:=nr ns k (j k s).1;have l:=h.1;refine⟨((b k s e).trans h1).le RM,?_⟩;show((c (j k s).1).dQ.run (d_ j) ((j k s).2,dW ns k (j k s).1)).2.2.length<=_;omega
structure Own(s s':LS):Prop where
 cX:cX s'.cm=cX s.cm
 kb:KB s.cm->KB s'.cm
 b_:s'.b_=s.b_
 mono:∀k,(cr s.done k).isSome=true->(cr s'.done k).isSome=true
 dn:∀k∈s.b_,cr s'.done k=cr s.done k
 mM:s'.done.length+1000*Rs s'<=s.done.length+1000*Rs s+801
 du:s'.du.length+Rs s'<=s.du.length+Rs s+1
theorem tC(F:∀k s,KB s.cm->jg s (j k s).2 1)(J t y s u)(G:KB s.cm)(l:jg u s 401):Own u (fR j J t y s).2:=by
 unfold fR;obtain⟨h1,h2⟩:=tB F _ 400 { s with du:=s.du++[y] } [] G (lW _ _ _ _);have I:prog t=(tr (hM t) t none 400).dQ:=rfl;rw[<-I]at h1 h2;generalize (prog t).run _ ({ s with du:=s.du++[y] },[])=q at h1 h2;obtain⟨r,m,ns⟩:=q;simp only at h1 h2;have B:Rs { s with du:=s.du++[y] }=Rs s:=nj rfl rfl
 -- whatever is kept
 have fin:∀n:LS,bY.cX n.cm=bY.cX m.cm->n.done=m.done->n.b_=m.b_->n.du=m.du->(KB m.cm->KB n.cm)->Own u n:=by
  intro n e1 e2 C D E;have z:=nj e1 e2;exact{
   cX:=e1.trans (h1.cX.trans l.cX)
   kb:=λk=>E (h1.kb (l.kb k))
   b_:=C.trans (h1.b_.trans l.b_)
   mono:=λk p=>by rw[e2];exact h1.mono k (l.mono k p)
   dn:=λk p=>by rw[e2];exact(h1.dn k (by show k∈s.b_;rw[l.b_];exact p)).trans (l.dn k p)
   mM:=by
    rw[e2,z];have a:=h1.mM;have b:=l.mM;rw[B]at a;have a:m.done.length+1000*Rs m<=s.done.length+1000*Rs s+400:=a;omega
   du:=by
    rw[D,z];have a:=h1.du;have b:=l.du;rw[B]at a;have a:=a;rw[aj]at a;simp only[aM,P6]at a;omega }
 unfold gT;simp only;split
 ·split
  ·exact fin _ (gy _ _ _) rfl rfl rfl (λh=>uR h (λ_ e=>by cases e))
  grind
 exact fin _ (gy _ _ _) rfl rfl rfl (λh=>uR h (λkp e=>by cases e;show ns.length<=401;simp at h2;omega))
end
def uS{p:By->LS->Wo×LS}(C:∀b s,KB s.cm->(cr s.cm b=none->(p b s).2=s)/\(∀th,cr s.cm b=some th->(th.dc=none/\(p b s).2=s)\/(th.dc.isSome=true/\Own s (p b s).2)))(b s)(E:KB s.cm):jg s (eR p b s).2 1:=by
 unfold eR;cases hd:cr s.done b with
 |some w=>exact jg.refl s 1
 |none =>
  simp only;by_cases hb:s.b_.contains b=true
  ·rw[ag hb];simp only;unfold LS.meet;split
   ·exact⟨rfl,id,rfl,λ_ h=>h,λ_ _=>rfl,by show _<=_;have:Rs { s with cE:=eI s.b_ b }=Rs s:=nj rfl rfl;rw[this];simp,by have:Rs { s with cE:=eI s.b_ b }=Rs s:=nj rfl rfl;rw[this];simp⟩
   exact jg.refl s 1
  rw[ae hb];have z:b∉s.b_:=Sq;simp only
  -- nothing but the b itself is noted
  have B:∀r,jg s { s with b_:=(s.b_++[b]).dropLast,done:=put s.done b r } 1:=by
   intro r;have F:Rs { s with b_:=(s.b_++[b]).dropLast,done:=put s.done b r }<=Rs s:=y_ s b r;have hl:=DZ s.done b r;refine⟨rfl,id,by simp,λk n=>?_,λk n=>?_,by show(put s.done b r).length+_<=_;omega,by show s.du.length+_<=_;omega⟩
   ·show(cr _ k).isSome=true;rw[ep];split
    ·rfl
    exact n
   show cr _ k=_;rw[ep,ae (λ(e:b=k)=>z (e▸n))]
  obtain⟨h1,h2⟩:=C b { s with b_:=s.b_++[b] } E;cases hl:cr s.cm b with
  |none =>
   rw[h1 hl];exact B _
  |some th =>
   rcases h2 th hl with⟨_,l⟩|⟨J,l⟩
   ·rw[l];exact B _
   generalize p b { s with b_:=s.b_++[b] }=q at l;obtain⟨r,m⟩:=q;simp only at l ⊢;have D:=(l.dn b (by show b∈s.b_++[b];simp)).trans hd;have G:b∈dE m.cm:=by
    rw[<-eE,l.cX,eE];exact h_ hl J
   have I:Rs { s with b_:=s.b_++[b] }=Rs s:=nj rfl rfl;have F:Rs { m with b_:=m.b_.dropLast,done:=put _ b r }+1<=Rs m:=rY m b r G D;have hlen:=DZ m.done b r;have u:=l.mM;have y:=l.du;rw[I]at u y;have u:m.done.length+1000*Rs m<=s.done.length+1000*Rs s+801:=u;have y:m.du.length+Rs m<=s.du.length+Rs s+1:=y;refine⟨l.cX,l.kb,?_,λk n=>?_,λk n=>?_,by show(put _ b r).length+_<=_;omega,by show m.du.length+_<=_;omega⟩
   ·show m.b_.dropLast=_;rw[l.b_];simp
   ·show(cr _ k).isSome=true;rw[ep];split
    ·rfl
    exact l.mono k n
   show cr _ k=_;rw[ep,ae (λ(e:b=k)=>z (e▸n))];exact l.dn k (by show k∈s.b_++[b];exact Qr _ n)
def gM:∀n b s,KB s.cm->jg s (cC n b s).2 1
 |0,b,s,p=>by
  refine uS (λb s e=>⟨λ_=>rfl,λth hl=>?_⟩) b s p;cases B:th.dc with
  |none=>exact .inl ⟨rfl,rfl⟩
  |some t=>exact .inr ⟨rfl,rfl,id,rfl,λ_ h=>h,λ_ _=>rfl,by show s.done.length+1000*Rs s<=_;omega,by show s.du.length+Rs s<=_;omega⟩
 |n+1,b,s,p=>by
  refine uS (λb s e=>⟨λhl=>?_,λth hl=>?_⟩) b s p
  ·unfold dq;rw[hl]
  have C:(dq (cC n) b s)=match th.dc with|.none=>(.ok th.value,s)|.some t=>eZ (cC n) b t th.kept s:=by unfold dq;rw[hl];try rfl
  rw[C];cases B:th.dc with
  |none =>
   exact .inl ⟨rfl,rfl⟩
  |some t =>
   refine .inr ⟨rfl,?_⟩;show Own s (eZ (cC n) b t th.kept s).2;have m:∀k s,KB s.cm->jg s (cC n k s).2 1:=λk s e=>gM n k s e;cases z:th.kept with
   |none=>exact tC m b t ⟨b,[],.error 0,.error 0⟩ s s e (jg.refl s 401)
   |some kp =>
    have r:kp.cO.length<=401:=e _ (j8 hl) kp z;have hd:=tA m b kp.cO s e;show Own s (eZ (cC n) b t (some kp) s).2;have u:eZ (cC n) b t (some kp) s=match en (cC n) b kp.cO s with|(.none,s)=>(kp.dQ,s)|(.some y,s)=>fR (cC n) b t y s:=rfl
    rw[u];generalize en (cC n) b kp.cO s=q at hd;obtain⟨o,l⟩:=q;simp only at hd;cases o with
    |none=>exact⟨hd.cX,hd.kb,hd.b_,hd.mono,hd.dn,by have:=hd.mM;show l.done.length+1000*Rs l<=_;omega,by have:=hd.du;show l.du.length+Rs l<=_;omega⟩
    |some y=>exact tC m b t y l s (hd.kb e) (hd.le r)
end bY
end
section
namespace bY
structure Hs(s s':LS):Prop where
 b_:s'.b_=s.b_
 cm:∀k∈s.b_,cr s'.cm k=cr s.cm k
def Hs.refl(s):Hs s s:=⟨rfl,λ_ _=>rfl⟩
def Hs.trans{a b c:LS}(h:Hs a b)(h':Hs b c):Hs a c:=⟨h'.b_.trans h.b_,λk hk=>(h'.cm k (h.b_▸hk)).trans (h.cm k hk)⟩
structure Hk(key:By)(s s':LS):Prop where
 b_:s'.b_=s.b_
 cm:∀k∈s.b_,k≠key->cr s'.cm k=cr s.cm k
def Hs.hk{s s':LS}(h:Hs s s')(b):Hk b s s':=⟨h.b_,λk hk _=>h.cm k hk⟩
variable {j:By->LS->Wo×LS}
def zb(b:∀k s,Hs s (j k s).2)(e):∀l s,Hs s (en j e l s).2
 |[],s=>Hs.refl s
 |(k,w) :: r,s=>by
  unfold en;split
  ·exact(b k s).trans (zb b e r _)
  exact b k s
def K4(b:∀k s,Hs s (j k s).2)(p:Pg Wo):∀s ns,Hs s (p.run (d_ j) (s,ns)).2.1 :=Pg.ind (P:=λp=>∀(s:LS) (ns:List (By×Wo)),Hs s (p.run (d_ j) (s,ns)).2.1) (λa s ns=>Hs.refl s) (λk f e s ns=>(b k s).trans (e _ _ _)) p
theorem Ns(e q):Hk e q.2.1 (gT e q).2:=by
 unfold gT;have l:∀(o:Option fM) (k:By),k≠e->cr (di q.2.1.cm e o) k=cr q.2.1.cm k:=λo k b=>by
  grind [iN]
 by_cases h:gC q.1=true
 ·simp only[h,aN];split
  ·exact⟨rfl,λk _ b=>l none k b⟩
  exact⟨rfl,λk _ b=>rfl⟩
 simp only[h];exact⟨rfl,λk _ b=>l _ k b⟩
def IE(l:∀k s,Hs s (j k s).2)(b t y s):Hk b s (fR j b t y s).2:=by
 unfold fR;have h1:=K4 l (prog t) { s with du:=s.du++[y] } [];have h2:=Ns b ((prog t).run (d_ j) ({ s with du:=s.du++[y] },[]));exact⟨h2.b_.trans h1.b_,λk e m=>(h2.cm k (by rw[h1.b_];exact e) m).trans (h1.cm k e)⟩
def zc(e:∀k s,Hs s (j k s).2)(b s):Hk b s (dq j b s).2:=by
 cases hl:cr s.cm b with
 |none =>
  simp only[dq,hl];exact(Hs.refl s).hk b
 |some th =>
  cases l:th.dc with
  |none =>
   simp only[dq,hl,l];exact(Hs.refl s).hk b
  |some t =>
   simp only[dq,hl,l];cases th.kept with
   |none=>exact IE e b t _ s
   |some k =>
    have h1:=zb e b k.cO s;unfold eZ;cases hd:en j b k.cO s with
    |mk o n =>
     rw[hd]at h1;simp only[hd];cases o with
     |none=>exact h1.hk b
     |some y =>
      have h2:=IE e b t y n;exact⟨h2.b_.trans h1.b_,λk' hk m=>(h2.cm k' (by rw[h1.b_];exact hk) m).trans (h1.cm k' hk)⟩
def xC{l:By->LS->Wo×LS}(p:∀b s,Hk b s (l b s).2)(b s):Hs s (eR l b s).2:=by
 unfold eR;cases cr s.done b with
 |some w=>exact Hs.refl s
 |none =>
  by_cases hc:s.b_.contains b=true
  ·rw[ag hc];show Hs s (s.meet b);unfold LS.meet;by_cases n:s.cE=[]
   ·rw[ag n];exact⟨rfl,λ_ _=>rfl⟩
   rw[ae n];exact Hs.refl s
  rw[ae hc];have h:=p b { s with b_:=s.b_++[b] };refine⟨?_,λk m=>?_⟩
  ·show(l b { s with b_:=s.b_++[b] }).2.b_.dropLast=s.b_;rw[h.b_];simp
  refine h.cm k (Qr _ m) (λe=>hc ?_);subst e;simpa using m
def oT:∀n b s,Hs s (cC n b s).2
 |0,b,s=>xC (λb s=>(Hs.refl s).hk b) b s
 |n+1,b,s=>xC (zc (oT n)) b s
end bY
end
