/- Out of Sq. -/
import Derived.Test.YtpekpdimdelncaaGreatDoorP07
set_option linter.unusedVariables false
set_option linter.unusedSimpArgs false
set_option linter.defProp false
namespace Go.Proofs.YtpekpdimdelncaaGreatDoor
open Go.RowKit
section
namespace bY
variable{h:List (By×cu)}{k kY:By}{s:LS}{th:cu}
structure Sound(s:LS):Prop where
 ef:EF (fS s.cm)
 iu:∀k t kp,fS s.cm k=some (.inr t)->cS s.cm k=some kp->qu (prog t) [] kp.cO kp.dQ
 only:∀k kp,cS s.cm k=some kp->∃t,fS s.cm k=some (.inr t)
 fine:∀k kp,cS s.cm k=some kp->∀q∈kp.cO,gK q.2
 b_:s.b_=[]
 kb:KB s.cm
 len:s.cm.length<=40
def Sound.new:Sound LS.new where
 ef:=⟨(λk v h=>by cases h),(λk t h=>by cases h)⟩
 iu k t kp h:=Sa
 only k kp h:=Sa
 fine k kp h:=Sa
 b_:=rfl
 kb p b:=SK
 len:=au _
theorem r_{h':List (By×cu)}(e:cX h'=cX h):h'.length=h.length:=by
 have:=congrArg List.length e
 grind [cX]
def FE{t:T}(b:fS h k=some (.inr t)):k∈dE h:=by
 unfold fS at b;cases hl:cr h k with
 |none=>rw[hl]at b;cases b
 |some th =>
  rw[hl]at b;cases e:th.dc with
  |none=>simp only[QJ,e]at b;cases b
  |some t'=>exact h_ hl SG
def LS.fresh(s:LS):LS:={ s with done:=[],cE:=[],du:=[] }
def Sound.inv(h:Sound s):Inv (fS s.cm) s.fresh where
 src:=rfl
 done k w b:=SK
 wj k w b:=SK
 iu:=h.iu
 only:=h.only
 fine:=h.fine
 cE e:=(e rfl).elim
 rr k b:=SK
theorem Sound.bp(h:Sound s)(b):BP (fS s.cm) b s.fresh (s.ask b):=by
 refine AG h.ef (K:=dE s.cm) (λk t e=>FE e) 42 b _ h.inv ?_ ?_
 ·have:s.fresh.b_=[]:=h.b_;rw[this]
  trivial
 have hb:s.fresh.b_=[]:=h.b_;unfold Fuel;rw[hb];have h1:=R1 (λk=>!([]:List By).contains k) (dE s.cm);have h2:(dE s.cm).length<=s.cm.length:=by
  grind [dE]
 have:=h.len;omega
def Sound.p8(h:Sound s)(b):jg s.fresh (s.ask b).2 1:=gM 42 b s.fresh h.kb
def Sound.ask(h:Sound s)(b):Sound (s.ask b).2:=by
 obtain⟨new,iu,-⟩:=h.bp b;have e:=h.p8 b;have hi:=iu.inv;exact{
  ef:=by rw[hi.src];exact h.ef
  iu:=λk t kp h1 h2=>hi.iu k t kp (by rw[<-hi.src];exact h1) h2
  only:=λk kp h1=>by rw[hi.src];exact hi.only k kp h1
  fine:=hi.fine
  b_:=iu.b_.trans h.b_
  kb:=e.kb h.kb
  len:=by rw[r_ e.cX];exact h.len }
def Sound.src(h:Sound s)(b):fS (s.ask b).2.cm=fS s.cm:=by
 obtain⟨new,iu,-⟩:=h.bp b;exact iu.inv.src
def IX(th:cu):Prop:=th.kept=none/\((th.dc=none/\L3 th.value)\/∃t,th.dc=some t/\KQ (prog t))
theorem tD(h:List (By×cu))(b th k):fS (put h b th) k=if b=k then some (match th.dc with|.none=>.inl th.value|.some t=>.inr t)else fS h k:=by
 grind [fS,ep]
theorem ra(h:List (By×cu))(b th)(e:th.kept=none)(k):cS (put h b th) k=if b=k then none else cS h k:=by
 grind [cS,ep]
theorem ky{α:Type}{l:List (By×α)}{a:α}{p:By×α}(h:p∈put l k a):p=(k,a)\/p∈l:=by
 grind [put]
theorem Sound.put(h:Sound s)(hf:IX th)(hl:(cr s.cm kY).isSome=true\/s.cm.length<40)(t):Sound ({ s with cm:=bY.put s.cm kY th }.write t) where
 ef:=by
  refine⟨λk v b=>?_,λk t b=>?_⟩
  ·have b:fS (bY.put s.cm kY th) k=_:=b;rw[tD]at b;split at b
   ·rcases hf.2 with⟨h1,h2⟩|⟨t',h1,h2⟩
    ·grind [DS]
    grind
   exact h.ef.val k v b
  have b:fS (bY.put s.cm kY th) k=_:=b;rw[tD]at b;split at b
  ·rcases hf.2 with⟨h1,h2⟩|⟨t',h1,h2⟩
   ·grind
   grind
  exact h.ef.eY k t b
 iu k t kp h1 h2:=by
  have h1:fS (bY.put s.cm kY th) k=_:=h1;have h2:cS (bY.put s.cm kY th) k=_:=h2;rw[ra _ _ _ hf.1]at h2;split at h2
  ·cases h2
  rename_i e;rw[tD,ae e]at h1;exact h.iu k t kp h1 h2
 only k kp h2:=by
  have h2:cS (bY.put s.cm kY th) k=_:=h2;rw[ra _ _ _ hf.1]at h2;split at h2
  ·cases h2
  rename_i e;show ∃t,fS (bY.put s.cm kY th) k=_;rw[tD,ae e];exact h.only k kp h2
 fine k kp h2:=by
  have h2:cS (bY.put s.cm kY th) k=_:=h2;rw[ra _ _ _ hf.1]at h2;split at h2
  ·cases h2
  exact h.fine k kp h2
 b_:=h.b_
 kb p l kp j:=by
  rcases ky l with rfl|l
  ·rw[hf.1]at j;cases j
  exact h.kb p l kp j
 len:=by
  show(bY.put s.cm kY th).length<=40;unfold bY.put;split
  ·rw[aG];exact h.len
  rename_i e;rcases hl with hl|hl
  ·exact(e hl).elim
  rw[aj];simp;omega
def Sound.iq(h:Sound s)(hf:IX th):Sound (s.iq kY th).2:=by
 unfold LS.iq;split
 ·exact h
 rename_i e;refine h.put hf ?_ _;cases hl:cr s.cm kY with
 |some x=>exact .inl rfl
 |none =>
  right;refine Nat.lt_of_not_le λb=>e ⟨by rw[hl];rfl,b⟩
theorem tE(h:List (By×cu))(b k):fS (del h b) k=if b=k then none else fS h k:=by
 grind [fS,oK]
theorem rh(h:List (By×cu))(b k):cS (del h b) k=if b=k then none else cS h k:=by
 grind [cS,oK]
def Sound.drop(h:Sound s)(e):Sound (s.drop e) where
 ef:=by
  refine⟨λk v b=>?_,λk t b=>?_⟩
  ·have b:fS (del s.cm e) k=_:=b;rw[tE]at b;split at b
   ·cases b
   exact h.ef.val k v b
  have b:fS (del s.cm e) k=_:=b;rw[tE]at b;split at b
  ·cases b
  exact h.ef.eY k t b
 iu k t kp h1 h2:=by
  have h1:fS (del s.cm e) k=_:=h1;have h2:cS (del s.cm e) k=_:=h2;rw[rh]at h2;split at h2
  ·cases h2
  rename_i j;rw[tE,ae j]at h1;exact h.iu k t kp h1 h2
 only k kp h2:=by
  have h2:cS (del s.cm e) k=_:=h2;rw[rh]at h2;split at h2
  ·cases h2
  rename_i j;show ∃t,fS (del s.cm e) k=_;rw[tE,ae j];exact h.only k kp h2
 fine k kp h2:=by
  have h2:cS (del s.cm e) k=_:=h2;rw[rh]at h2;split at h2
  ·cases h2
  exact h.fine k kp h2
 b_:=h.b_
 kb p m kp l:=h.kb p (Q5.1 m).1 kp l
 len:=ah (R1 _ _) h.len
end bY
end
section
namespace bY
def nA(x y:Int)(k:By):Option Wo :=if k=[120]then some (.ok (vn x))else if k=[121]then some (.ok (vn y))else if k=[119]then some (.ok (vw (119 :: Lib.itoa x)))else if k=[108]then some (.ok (vl [vn x,vw [113],vn y]))else none
section
variable (x y:Int)
end
end bY
end
namespace bY
structure PH(e:Src)(x y:Int):Prop where
 hx:e [120]=some (.inl (vn x))
 hy:e [121]=some (.inl (vn y))
 hw:e [119]=some (.inl (vw (119 :: Lib.itoa x)))
 hl:e [108]=some (.inl (vl [vn x,vw [113],vn y]))
def PH.base{e:Src}{x y:Int}(h:PH e x y):∀k u,nA x y k=some u->W e k u:=by
 intro k u b;unfold nA at b;split at b
 ·rename_i h1;cases b;subst h1;exact⟨0,.inr ⟨_,h.hx,rfl⟩⟩
 split at b
 ·rename_i h1;cases b;subst h1;exact⟨0,.inr ⟨_,h.hy,rfl⟩⟩
 split at b
 ·rename_i h1;cases b;subst h1;exact⟨0,.inr ⟨_,h.hw,rfl⟩⟩
 split at b
 ·rename_i h1;cases b;subst h1;exact⟨0,.inr ⟨_,h.hl,rfl⟩⟩
 cases b
end bY
section
namespace bY
variable{O:By->Wo->Prop}{e:Src}
def EC{α:Type}(r:Except Nat α):Prop:=∀e,r=.error e->7<=e/\e<=12
theorem il{α:Type}(a):EC (.ok a:Except Nat α):=λe h=>by cases h
theorem eT{α:Type}{c:Nat}(h:7<=c/\c<=12):EC (.error c:Except Nat α):=λe h'=>by cases h';exact h
def PE{α:Type}:Pe α->Prop
 |⟨.inl q⟩=>EC q.1
 |⟨.inr (_,c)⟩=>∀w,EC w->PE (c w)
def j_{α:Type}{r:Except Nat α}{f:Nat}(h:EC r):PE (.ret (r,f)):=h
def nD{α β:Type}:∀p (k:α->Nat->Pe β),PE p->(∀v f,PE (k v f))->PE (eL p k)
 |⟨.inl (.ok a,f)⟩,k,h,b=>b a f
 |⟨.inl (.error e,f)⟩,k,h,b=>eT (h e rfl)
 |⟨.inr (q,c)⟩,k,h,b=>λw j=>nD (c w) k (h w j) b
def Jq:∀p k,PE p->(∀f,PE (k f))->PE (pN p k)
 |⟨.inl (.ok a,f)⟩,k,h,b=>h
 |⟨.inl (.error e,f)⟩,k,h,b=>by
  unfold pN;simp only[Pg.bind];by_cases j:e=7\/e=8\/e=9\/e=10
  ·rw[ag j];exact b f
  rw[ae j];exact h
 |⟨.inr (q,c)⟩,k,h,b=>λw l=>Jq (c w) k (h w l) b
theorem sg(l):EC (dX l):=by
 grind [dX,eT,il]
theorem A4(v):EC (fg v):=by
 grind [fg,il,eT]
theorem xP(v):EC (eK v):=by
 grind [eK,il,eT]
theorem Jr(v):EC (keyOf v):=by
 grind [keyOf,il,eT]
def Dc{α:Type}(P)(j:∀a f,PE (P a f)):∀(l:List α) (b) (f),PE (oo P l b f)
 |[],b,f=>sg _
 |a :: r,b,f=>nD _ _ (j a f) λv f=>Dc P j r _ f
def zr(P)(j:∀a f,PE (P a f)):∀l b f,PE (ly P l b f)
 |[],b,f=>sg _
 |a :: r,b,f=>nD _ _ (j a f) λv f=>by
  have n:=A4 v;cases h:fg v with
  |ok i =>
   show PE (if i=0 then _ else _);by_cases m:i=0
   ·rw[ag m];exact zr P j r _ f
   rw[ae m];exact zr P j r _ f
  |error e=>exact eT (n e h)
def Ec(k f):PE (kr k f):=λw b=>b
theorem rm{x y:V}{g:Int->Int->Except Nat V}(b:∀i j,EC (g i j)):EC (mr x y g):=by
 grind [mr,eT]
theorem A5(i n):EC (place i n):=by
 grind [place,eT,il]
theorem Ed(op x y):EC (make op x y):=by
 unfold make;split
 ·grind [plus,il,eT,sg]
 split
 ·exact rm λ_ _=>il _
 split
 ·exact rm λ_ _=>il _
 split
 ·grind [rm,eT,il]
 split
 ·grind [less,il,eT]
 split
 ·exact il _
 split
 ·exact rm λ_ _=>il _
 split
 ·exact rm λ_ _=>il _
 unfold gd;split
 ·split
  ·split
   ·exact il _
   rename_i e h;exact eT (A5 _ _ e h)
  ·split
   ·exact il _
   rename_i e h;exact eT (A5 _ _ e h)
  grind [eT]
 grind [eT]
theorem LU(x):EC (size x):=by
 grind [size,eT,il]
theorem vG:∀l a,EC (fx a l)
 |[],a=>il _
 |u :: r,a=>by
  unfold fx;split
  ·exact vG r _
  exact eT RM
theorem Js(x):EC (jM x):=by
 grind [jM,vG,eT]
theorem FW(x):EC (ia x):=by
 grind [ia,il,eT]
theorem A6(P t f)(j:∀i f,PE (P (t.cG i) f)):PE (fh P t f):=by
 unfold fh;refine nD _ _ (j 0 f) λv f=>?_;split
 ·exact nD _ _ (j 1 f) λu f=>j_ (Ed _ _ _)
 split
 ·exact j_ (Ed _ _ _)
 split
 ·have b:=Jr v;split
  ·exact Ec _ _
  rename_i e h;exact j_ (eT (b e h))
 split
 ·have b:=A4 v;split
  ·grind
  rename_i e h;exact j_ (eT (b e h))
 split
 ·exact j_ (LU _)
 split
 ·exact j_ (Js _)
 split
 ·exact j_ (FW _)
 exact j_ (il _)
def A7:∀n t it f,PE (tr n t it f)
 |0,t,it,f=>eT RM
 |n+1,t,it,f=>by
  have b:∀i f,PE (tr n (t.cG i) it f):=λi f=>A7 n _ it f;have j:∀i u f,PE (tr n (t.cG i) (some u) f):=λi u f=>A7 n _ _ f;unfold tr;split
  ·exact A6 _ t f b
  split
  ·exact j_ (eT RM)
  split
  ·refine j_ ?_;split
   ·exact il _
   exact eT RM
  split
  ·exact Ec _ _
  split
  ·refine j_ ?_;split
   ·exact il _
   exact eT RM
  split
  ·exact Jq _ _ (b 0 _) (λf=>b 1 f)
  split
  ·refine nD _ _ (b 0 _) λv f=>?_;have hl:=xP v;cases h:eK v with
   |ok l=>exact Dc _ (λa f=>j 1 a f) l [] f
   |error e=>exact j_ (eT (hl e h))
  split
  ·refine nD _ _ (b 0 _) λv f=>?_;have hl:=xP v;cases h:eK v with
   |ok l=>exact zr _ (λa f=>j 1 a f) l [] f
   |error e=>exact j_ (eT (hl e h))
  split
  ·exact Dc _ (λa f=>A7 n a it f) _ _ _
  exact A6 _ t _ b
def CE:Pg Wo->Prop
 |⟨.inl w⟩=>EC w
 |⟨.inr (_,c)⟩=>∀w,EC w->CE (c w)
def A8:∀p,PE p->CE p.dQ
 |⟨.inl (r,f)⟩,h=>h
 |⟨.inr (k,c)⟩,h=>λw b=>A8 (c w) (h w b)
def zt(t):CE (prog t):=A8 _ (A7 _ t none 400)
def Rn.ec(h:∀k u,O k u->EC u):∀p w,Rn O p w->CE p->EC w
 |⟨.inl _⟩,_,b,hc=>b.1▸hc
 |⟨.inr (k,c)⟩,w,⟨u,h1,h2⟩,hc=>Rn.ec h (c u) w h2 (hc u (h k u h1))
theorem Wn.ec:∀{n:Nat} {k:By} {w:Wo},Wn e n k w->EC w:=by
 have hb:∀{k w},lC e k w->EC w:=by
  intro k w h;rcases h with⟨_,rfl⟩|⟨v,h,rfl⟩
  ·grind [eT]
  exact il _
 intro n
 induction n with
 |zero=>intro k w h;exact hb h
 |succ n b =>
  intro k w h;rcases h with h|⟨t,h1,h2⟩
  ·exact hb h
  exact Rn.ec (λk u h=>b h) _ _ h2 (zt t)
theorem Is.ec{k:By}{w:Wo}(h:Is e k w):EC w:=by
 rcases h with⟨n,h⟩|⟨rfl,_⟩
 ·exact Wn.ec h
 grind [eT]
def Sound.ec{s:LS}(h:Sound s)(b):EC (s.ask b).1:=by
 obtain⟨_,_,h1,_⟩:=h.bp b;exact h1.ec
end bY
end
section
namespace bY
def Fk(h:List (By×cu))(k:By)(w:Wo):Prop:=(∀v,w=.ok v->L3 v/\(cr h k).isSome=true)/\EC w
def Fk.fine{h:List (By×cu)}{k:By}{w:Wo}(hf:Fk h k w):gK w:=λv hv=>(hf.1 v hv).1
def vH(h:List (By×cu))(k){c:Nat}(hc:7<=c/\c<=12):Fk h k (.error c):=⟨λv hv=>(by cases hv),eT hc⟩
structure gn(s:LS):Prop where
 val:∀k th,cr s.cm k=some th->th.dc=none->L3 th.value
 dc:∀k th t,cr s.cm k=some th->th.dc=some t->LA t
 kept:∀k kp,cS s.cm k=some kp->gK kp.dQ/\EC kp.dQ/\∀q∈kp.cO,gK q.2
 done:∀k w,cr s.done k=some w->Fk s.cm k w
def vJ{h h':List (By×cu)}(e:cX h'=cX h)(k):(cr h' k).map (λth=>{ th with kept:=none })=(cr h k).map (λth=>{ th with kept:=none }):=by
 rw[<-ni,<-ni,e]
theorem vK{h h':List (By×cu)}(e:cX h'=cX h)(k):(cr h' k).isSome=(cr h k).isSome:=by
 have:=congrArg Option.isSome (vJ e k)
 grind
def A9{h h':List (By×cu)}(e:cX h'=cX h){k:By}{th:cu}(hl:cr h' k=some th):∃b,cr h k=some b/\b.dc=th.dc/\b.value=th.value/\b.came=th.came:=by
 have h1:=vJ e k;rw[hl]at h1;cases l:cr h k with
 |none=>rw[l]at h1;cases h1
 |some b =>
  rw[l]at h1;simp only[QJ,Option.some.injEq,cu.mk.injEq]at h1;exact⟨b,rfl,h1.2.1.symm,h1.1.symm,h1.2.2.1.symm⟩
theorem Fk.cX{h h':List (By×cu)}{k:By}{w:Wo}(hf:Fk h k w)(e:cX h'=cX h):Fk h' k w:=⟨λv hv=>⟨(hf.1 v hv).1,by rw[vK e];exact(hf.1 v hv).2⟩,hf.2⟩
def gn.of{s s':LS}(h:gn s)(e:cX s'.cm=cX s.cm)(n:∀k kp,cS s'.cm k=some kp->gK kp.dQ/\EC kp.dQ/\∀q∈kp.cO,gK q.2)(hd:∀k w,cr s'.done k=some w->Fk s.cm k w):gn s' where
 val k th hl l:=by
  obtain⟨m,b,h1,h2,_⟩:=A9 e hl;rw[<-h2];exact h.val k m b (h1.trans l)
 dc k th t hl l:=by
  obtain⟨m,b,h1,_⟩:=A9 e hl;exact h.dc k m t b (h1.trans l)
 kept:=n
 done k w hl:=(hd k w hl).cX e
def FB(j:By->LS->Wo×LS):Prop:=∀k s,gn s->Fk s.cm k (j k s).1/\gn (j k s).2/\cX (j k s).2.cm=cX s.cm
section
variable {j:By->LS->Wo×LS}
def Dd(e:FB j)(b):∀l s,gn s->gn (en j b l s).2/\cX (en j b l s).2.cm=cX s.cm
 |[],s,h=>⟨h,rfl⟩
 |(k,w) :: r,s,h=>by
  obtain⟨_,h1,h2⟩:=e k s h;unfold en;split
  ·obtain⟨m,n⟩:=Dd e b r _ h1;exact⟨m,n.trans h2⟩
  exact⟨h1,h2⟩
structure A_(h:List (By×cu))(ns:List (By×Wo)):Prop where
 nd:(ns.map (·.1)).Nodup
 fk:∀q∈ns,Fk h q.1 q.2
 key:∀q∈ns,isKey q.1=true
def A_.nil(h:List (By×cu)):A_ h []:=⟨List.nodup_nil,(λq b=>by cases b),(λq b=>by cases b)⟩
theorem A_.with{h:List (By×cu)}{ns:List (By×Wo)}{k:By}{w:Wo}(e:A_ h ns)(hf:Fk h k w)(m:isKey k=true):A_ h (dW ns k w):=by
 unfold dW;split
 ·exact e
 rename_i hl;have hl:cr ns k=none:=by
  simp_all
 refine⟨?_,gZ e.fk (kj hf),gZ e.key (kj m)⟩;rw[aV,Q3];refine⟨e.nd,by simp,λa l b hb=>?_⟩;obtain⟨q,n,rfl⟩:=aH.1 l;simp at hb;rw[hb];exact jm.1 hl q n
def Jt(B:FB j)(p):∀s ns,KQ p->CE p->gn s->A_ s.cm ns->(gK (p.run (d_ j) (s,ns)).1/\EC (p.run (d_ j) (s,ns)).1)/\gn (p.run (d_ j) (s,ns)).2.1/\cX (p.run (d_ j) (s,ns)).2.1.cm=cX s.cm/\A_ s.cm (p.run (d_ j) (s,ns)).2.2 :=Pg.ind (P:=λp=>∀(s:LS) (ns:List (By×Wo)),KQ p->CE p->gn s->A_ s.cm ns->(gK (p.run (d_ j) (s,ns)).1/\EC (p.run (d_ j) (s,ns)).1)/\gn (p.run (d_ j) (s,ns)).2.1/\cX (p.run (d_ j) (s,ns)).2.1.cm=cX s.cm/\A_ s.cm (p.run (d_ j) (s,ns)).2.2)
  (λa s ns hc l h m=>⟨⟨hc,l⟩,h,rfl,m⟩) (λk c C s ns hc l h m=>by
   obtain⟨h1,h2,e⟩:=B k s h;have n:=m.with h1 hc.1;obtain⟨u,y,z,b⟩:=C (j k s).1 (j k s).2 (dW ns k (j k s).1) (hc.2 _ h1.fine) (l _ h1.2) h2 ⟨n.nd,λq r=>(n.fk q r).cX e,n.key⟩;exact⟨u,y,z.trans e,⟨b.nd,λq r=>(b.fk q r).cX e.symm,b.key⟩⟩) p
theorem NK(l q)(h:gn q.2.1)(hf:gK q.1/\EC q.1)(n:A_ q.2.1.cm q.2.2):gn (gT l q).2/\cX (gT l q).2.cm=cX q.2.1.cm:=by
 have m:∀(o:Option fM) (t:By),(∀kp,o=some kp->gK _/\EC _/\∀r∈kp.cO,gK r.2)->gn ({ q.2.1 with cm:=di q.2.1.cm l o }.write t)/\cX (({ q.2.1 with cm:=di _ l o }:LS).write t).cm=cX _:=λo t p=>by
  have e:cX (({ q.2.1 with cm:=di _ l o }:LS).write t).cm=cX q.2.1.cm:=gy _ _ _;refine⟨h.of e (λk kp b=>?_) (λk w y=>h.done k w y),e⟩;have b:cS (di q.2.1.cm l o) k=some kp:=b;rw[fj]at b;split at b
  ·cases hl:cr _ k with
   |none=>rw[hl]at b;cases b
   |some th=>rw[hl]at b;exact p kp b
  exact h.kept k kp b
 unfold gT;split
 ·split
  ·exact m none _ (λkp b=>by cases b)
  grind
 exact m _ _ (λkp b=>by cases b;exact⟨hf.1,hf.2,λr u=>(n.fk r u).fine⟩)
def LV(p:FB j){key:By}{t:T}{s:LS}{o:Option fM}(h:gn s)(C:LA t)(hl:(cr s.cm key).isSome=true)(r:∀kp,o=some kp->gK kp.dQ/\EC kp.dQ):Fk s.cm key (eZ j key t o s).1/\gn (eZ j key t o s).2/\cX (eZ j key t o s).2.cm=cX s.cm:=by
 have u:∀(y:qc) (b:LS),gn b->cX b.cm=cX s.cm->Fk s.cm key (fR j key t y b).1/\gn (fR j key t y b).2/\cX (fR j key t y b).2.cm=cX s.cm:=λy b h1 e1=>by
  obtain⟨e,z,m,l⟩:=Jt p _ { b with du:=b.du++[y] } [] (uL (C _)) (zt t) ⟨h1.val,h1.dc,h1.kept,h1.done⟩ (A_.nil _);have n:=NK key _ z e ⟨l.nd,λq B=>(l.fk q B).cX m,l.key⟩;exact⟨⟨λv hv=>⟨e.1 v hv,hl⟩,e.2⟩,n.1,n.2.trans (m.trans e1)⟩
 cases o with
 |none=>exact u _ s h rfl
 |some kp =>
  obtain⟨h1,h2⟩:=Dd p key _ s h;show Fk s.cm key (match en j key _ s with|(.none,s)=>(kp.dQ,s)|(.some y,s)=>fR j key t y s).1/\gn (match en j key _ s with|(.none,s)=>(kp.dQ,s)|(.some y,s)=>fR j key t y s).2/\cX (match en j key _ s with|(.none,s)=>(kp.dQ,s)|(.some y,s)=>fR j key t y s).2.cm=cX s.cm;rcases hd:en j key _ s with⟨_|y,D⟩
  ·rw[hd]at h1 h2;exact⟨⟨λv hv=>⟨(r kp rfl).1 v hv,hl⟩,(r kp rfl).2⟩,h1,h2⟩
  rw[hd]at h1 h2;exact u y D h1 h2
def LW(m:FB j)(b s)(h:gn s):Fk s.cm b (dq j b s).1/\gn (dq j b s).2/\cX (dq j b s).2.cm=cX s.cm:=by
 unfold dq;cases hl:cr s.cm b with
 |none=>exact⟨vH _ _ RM,h,rfl⟩
 |some th =>
  cases e:th.dc with
  |none=>simp only[e];exact⟨⟨λv hv=>(by cases hv;exact⟨h.val b th hl e,by rw[hl];rfl⟩),il _⟩,h,trivial⟩
  |some t =>
   simp only[e];exact LV m h (h.dc b th t hl e) (by rw[hl];rfl) (λkp l=>⟨(h.kept b kp (by unfold cS;rw[hl];exact l)).1,(h.kept b kp (by unfold cS;rw[hl];exact l)).2.1⟩)
end
def xQ{m:By->LS->Wo×LS}(p:∀b s,gn s->Fk s.cm b (m b s).1/\gn (m b s).2/\cX (m b s).2.cm=cX s.cm):FB (eR m):=λb s h=>by
 unfold eR;split
 ·rename_i w l;exact⟨h.done b w l,h,rfl⟩
 split
 ·refine⟨vH _ _ RM,?_⟩;show gn (s.meet b)/\cX (s.meet b).cm=cX s.cm;unfold LS.meet;split
  ·exact⟨⟨h.val,h.dc,h.kept,h.done⟩,rfl⟩
  exact⟨h,rfl⟩
 obtain⟨h1,h2,n⟩:=p b { s with b_:=s.b_++[b] } ⟨h.val,h.dc,h.kept,h.done⟩;refine⟨h1,h2.of rfl h2.kept (λk w l=>?_),n⟩;have l:cr (put _ b _) k=some w:=l;rw[ep]at l;split at l
 ·rename_i e;cases l;rw[<-e];exact h1.cX n
 exact h2.done k w l
def oZ:∀n,FB (cC n)
 |0=>xQ (λb s h=>⟨vH _ _ RM,h,rfl⟩)
 |n+1=>xQ (LW (oZ n))
/-! How long lines are. -/
def iC{m:Nat}:∀(l:List By),(∀x∈l,x.length<=m)->(cJ l).length<=l.length*(m+1)
 |[],_=>au _
 |[a],h=>by have:=h a (P1.2 rfl);show a.length<=_;simp;omega
 |a :: b :: r,h=>by
  have h1:=h a Qa;have h2:=iC (b :: r) (λx hx=>h x (aT _ hx));show(a++44 :: cJ (b :: r)).length<=_;rw[aj,aM,aM,QO,QX];omega
def wl:Nat->Nat
 |0=>32
 |n+1=>12*(wl n+1)+2
def Ju:∀n,32<=wl n
 |0=>af _
 |n+1=>by have:=Ju n;unfold wl;omega
def ui:∀n v,iM n v->(wr n v).length<=wl n
 |n,⟨.inl i⟩,h=>by
  have h:-9223372036854775808<=i/\i<=9223372036854775807:=by unfold iM at h;exact h
  have:=nh h.1 h.2;have e:wr n ⟨.inl i⟩=Lib.itoa i:=Sb;have:=Ju n;rw[e];omega
 |n,⟨.inr (.inl b)⟩,h=>by
  have h:b.length<=30:=by unfold iM at h;exact h.1
  have e:wr n ⟨.inr (.inl b)⟩=39 :: (b++[39]):=Sb;have:=Ju n;rw[e];simp;omega
 |0,⟨.inr (.inr l)⟩,h=>by unfold iM at h;cases h
 |n+1,⟨.inr (.inr l)⟩,h=>by
  unfold iM at h;have h2:=iC (m:=wl n) (l.map (wr n)) (λx hx=>by
   obtain⟨u,hu,rfl⟩:=aH.1 hx;exact ui n u (h.2 u hu))
  rw[aG]at h2;have p:=Qo (wl n+1) h.1;show(123 :: (cJ (l.map (wr n))++[125])).length<=12*(wl n+1)+2;simp;omega
def rp{v:V}(h:L3 v):(wr 3 v).length<=57500:=ah (ui 3 v h) RZ
def De(c):(kR c).length<=6:=by
 unfold kR
 repeat' split
 all_goals decide
theorem Jv{l:By}(h:(tok l).1=4):(tok l).2<=8:=by
 cases l with
 |nil=>cases h
 |cons c r =>
  rw[fZ _ c r rfl]at h ⊢;by_cases h1:dA c=true
  ·rw[ag h1]at h;split at h<;>cases h
  rw[ae h1]at h ⊢;by_cases h2:eo c=true
  ·rw[ag h2]at h ⊢;split at h
   ·cases h
   rename_i b;rw[ae b];split at h
   ·cases h
   rename_i e;rw[ae e];show dC eF _<=8;omega
  rw[ae h2]at h;split at h
  ·unfold fa at h;split at h<;>cases h
  split at h<;>cases h
theorem Ee{k:By}(h:isKey k=true):k.length<=31:=by
 unfold isKey at h;rw[Ql]at h;rcases h with h|h
 ·grind [dL,Jv]
 simp at h;obtain⟨h1,h2⟩:=h;cases k with
 |nil=>cases h1
 |cons c r =>
  simp at h2;obtain⟨i,hi⟩:=Q_.1 h2;obtain⟨e1,e2⟩:=jd hi;have b:=iy _ _ e2;have:=nh b.1 b.2;rw[e1]at this;simp;omega
def few{α:Type}:∀(h:List (By×α)) (ks:List By),ks.Nodup->(∀k∈ks,(cr h k).isSome=true)->ks.length<=h.length
 |[],ks,_,b=>by
  cases ks with
  |nil=>exact af _
  |cons k r=>have:=b k Qa;cases this
 |p :: h,ks,l,b=>by
  have h1:=few h (ks.erase p.1) (l.erase _) (λk n=>by
   obtain⟨h2,m⟩:=(l.mem_erase_iff).1 n;have:=b k m;rw[dV,ae (λe=>h2 e.symm)]at this;exact this)
  rw[List.length_erase]at h1;split at h1
  ·simp only[aM];omega
  simp only[aM];omega
def LX(w:Wo):Bool:=match w with|.ok _=>true|.error _=>false
theorem Jw{w:Wo}(h:gK w):(gu w).length<=6+if LX w=true then 57500 else 0:=by
 cases w with
 |ok v=>have:=rp (h v rfl);show(wr 3 v).length<=6+57500;omega
 |error c=>exact De c
def xR{h:List (By×cu)}:∀(ns:List (By×Wo)),(∀q∈ns,Fk h q.1 q.2)->(∀q∈ns,isKey q.1=true)->(ns.flatMap gH).length<=ns.length*39+(ns.filter λq=>LX q.2).length*57500
 |[],_,_=>au _
 |q :: r,h1,h2=>by
  have l:=xR r (λx hx=>h1 x (aT _ hx)) (λx hx=>h2 x (aT _ hx));have a:=Jw (h1 q Qa).fine;have b:=Ee (h2 q Qa);have e:(gH q).length=2+q.1.length+(gu q.2).length:=by unfold gH;simp;omega
  rw[P9,aj,aM,QY];split
  ·rename_i hc;rw[ag hc]at a;rw[aM];omega
  rename_i hc;rw[ae hc]at a;omega
theorem Ba{h:List (By×cu)}{kY:By}{w:Wo}{ns:List (By×Wo)}(l:kY.length<=200)(e:gK w)(b:A_ h ns)(hl:h.length<=40)(hc:ns.length<=401):(dh kY ⟨w,ns⟩).length<=3000000:=by
 have h1:=xR ns b.fk b.key;have h2:(ns.filter λq=>LX q.2).length<=40:=by
  have:=few h ((ns.filter λq=>LX q.2).map (·.1)) (b.nd.sublist (Ry.map _)) (λk l=>by
   obtain⟨q,n,rfl⟩:=aH.1 l;obtain⟨p,m⟩:=Q5.1 n;cases e:q.2 with
   |ok v=>exact((b.fk q p).1 v e).2
   |error c=>rw[e]at m;cases m)
  grind
 grind [dh,Jw]
def LN:Nat:=5000000
def Ph(s:LS):Nat:=(s.jr.flatMap line).length+LN*Rs s
structure HL(h:List (By×cu)):Prop where
 len:h.length<=40
 key:∀k,(cr h k).isSome=true->k.length<=8
theorem HL.cX{h h':List (By×cu)}(hl:HL h)(e:cX h'=cX h):HL h':=⟨by rw[r_ e];exact hl.len,λk b=>hl.key k (by rw[<-vK e];exact b)⟩
theorem Jx(n):(wv n).length=8:=by
 grind [wv]
theorem lY(t):(line t).length=t.length+10:=by
 grind [line,Jx]
section
variable {j:By->LS->Wo×LS}
def Jy(m:FB j)(n:∀k s,KB s.cm->jg s (j k s).2 1)(p:∀k s,gn s->KB s.cm->HL s.cm->Ph (j k s).2<=Ph s)(u):∀l s,gn s->KB s.cm->HL s.cm->Ph (en j u l s).2<=Ph s
 |[],s,_,_,_=>af _
 |(k,w) :: r,s,h,b,hl=>by
  obtain⟨_,h1,h2⟩:=m k s h;have e:=p k s h b hl;unfold en;split
  ·exact ah (Jy m n p u r _ h1 ((n k s b).kb b) (hl.cX h2)) e
  exact e
def NM(e:FB j)(l:∀k s,KB s.cm->jg s (j k s).2 1)(m:∀k s,gn s->KB s.cm->HL s.cm->Ph (j k s).2<=Ph s)(p:Pg Wo):∀s ns,gn s->KB s.cm->HL s.cm->Ph (p.run (d_ j) (s,ns)).2.1<=Ph s :=Pg.ind (P:=λp=>∀(s:LS) (ns:List (By×Wo)),gn s->KB s.cm->HL s.cm->Ph (p.run (d_ j) (s,ns)).2.1<=Ph s) (λa s ns _ _ _=>af _)
  (λk c n s ns h b hl=>ah (n _ _ _ (e k s h).2.1 ((l k s b).kb b) (hl.cX (e k s h).2.2)) (m k s h b hl)) p
theorem NN(b q)(m:b.length<=200)(hf:gK q.1)(n:A_ q.2.1.cm q.2.2)(hl:HL q.2.1.cm)(hc:q.2.2.length<=401):Ph (gT b q).2<=Ph q.2.1+LN:=by
 have l:∀(o:Option fM) (t:By),t.length<=4000000->Ph ({ q.2.1 with cm:=di q.2.1.cm b o }.write t)<=Ph q.2.1+LN:=λo t p=>by
  have e:Rs ({ q.2.1 with cm:=di _ b o }.write t)=Rs q.2.1:=nj (gy _ _ _) rfl;unfold Ph;rw[e];show((q.2.1.jr++[t]).flatMap line).length+_<=_;rw[Qf,aj]
  grind [LN,lY]
 unfold gT;split
 ·split
  ·exact l none _ R5
  grind
 exact l _ _ (ah (Ba m hf n hl.len hc) RZ)
def LY(l:FB j)(m:∀k s,KB s.cm->jg s (j k s).2 1)(B:∀k s,gn s->KB s.cm->HL s.cm->Ph (j k s).2<=Ph s){key:By}{t:T}{s:LS}{o:Option fM}(h:gn s)(n:KB s.cm)(hl:HL s.cm)(J:LA t)(G:key.length<=200)(M:∀kp,o=some kp->kp.cO.length<=401):Ph (eZ j key t o s).2<=Ph s+LN:=by
 have C:∀(y:qc) (b:LS),gn b->KB b.cm->HL b.cm->Ph (fR j key t y b).2<=Ph b+LN:=λy b h1 k1 D=>by
  have f1:gn { b with du:=b.du++[y] }:=⟨h1.val,h1.dc,h1.kept,h1.done⟩;obtain⟨E,L,u,p⟩:=Jt l _ { b with du:=b.du++[y] } [] (uL (J _)) (zt t) f1 (A_.nil _);have F:=NM l m B (prog t) { b with du:=b.du++[y] } [] f1 k1 D;obtain⟨_,r⟩:=tB m _ 400 { b with du:=b.du++[y] } [] k1 (lW _ _ _ _);have r:((prog t).run _ ({ b with du:=b.du++[y] },[])).2.2.length<=_:=r;have:=NN key _ G E.1 ⟨p.nd,λq I=>(p.fk q I).cX u,p.key⟩ (D.cX u) (by simp at r;omega);exact ah this (Rl F _)
 cases o with
 |none=>exact C _ s h n hl
 |some kp =>
  obtain⟨h1,h2⟩:=Dd l key _ s h;have e:=Jy l m B key kp.cO s h n hl;have z:=(tA m key kp.cO s n).kb n;show Ph (match en j key _ s with|(.none,s)=>(kp.dQ,s)|(.some y,s)=>fR j key t y s).2<=_;rcases hd:en j key _ s with⟨_|y,K⟩
  ·rw[hd]at e;exact ah e (aJ _ _)
  rw[hd]at h1 h2 e z;exact ah (C y K h1 z (hl.cX h2)) (Rl e _)
end
theorem rq:∀n key s,gn s->KB s.cm->HL s.cm->Ph (cC n key s).2<=Ph s
 |0,key,s,h,y,hl=>by
  show Ph (eR _ key s).2<=_;unfold eR;split
  ·exact af _
  split
  ·show Ph (s.meet key)<=_;unfold LS.meet;split<;>exact af _
  have:=y_ s key (.error 11);have h2:=QC LN this;exact RB h2 _
 |n+1,key,s,h,y,hl=>by
  show Ph (eR _ key s).2<=_;unfold eR;split
  ·exact af _
  rename_i E;split
  ·show Ph (s.meet key)<=_;unfold LS.meet;split<;>exact af _
  have C:∀(u:LS) (b:List By) (r:Wo),Ph { u with b_:=b,done:=put u.done key r }<=Ph u:=λu b r=>RB (QC LN (y_ u key r)) _;have hf:gn { s with b_:=s.b_++[key] }:=⟨h.val,h.dc,h.kept,h.done⟩;cases l:cr s.cm key with
  |none =>
   have e:dq (cC n) key { s with b_:=s.b_++[key] }=(.error 7,{ s with b_:=s.b_++[key] }):=by unfold dq;simp only[l]
   rw[e];exact C _ _ _
  |some th =>
   cases p:th.dc with
   |none =>
    have e:dq (cC n) key { s with b_:=s.b_++[key] }=(.ok th.value,{ s with b_:=s.b_++[key] }):=by unfold dq;simp only[l,p]
    rw[e];exact C _ _ _
   |some t =>
    have e:dq (cC n) key { s with b_:=s.b_++[key] }=eZ (cC n) key t th.kept { s with b_:=s.b_++[key] }:=by unfold dq;simp only[l,p]
    have z:=qZ n key { s with b_:=s.b_++[key] } y l p;have B:=LY (oZ n) (gM n) (rq n) hf y hl (h.dc key th t l p) (ah (hl.key key (by rw[l];rfl)) RZ) (o:=th.kept) (λkp F=>y _ (j8 l) kp F);rw[e]at z ⊢;generalize eZ (cC n) key t th.kept { s with b_:=s.b_++[key] }=q at z B;have D:cr q.2.done key=none:=(z.dn key R2).trans E;have G:key∈dE q.2.cm:=by
     rw[<-eE,z.cX,eE];exact h_ l (by rw[p];rfl)
    have h2:=QC LN (rY q.2 key q.1 G D);rw[Nat.mul_add,Qd]at h2;refine ah (RB (m:=LN*(Rs q.2)-LN) ?_ _) ?_
    ·exact Nat.le_sub_of_add_le h2
    have I:Ph q.2<=Ph s+LN:=B;have J:Ph q.2=(q.2.jr.flatMap line).length+LN*Rs q.2:=rfl
    grind
theorem LZ{s:LS}(h:gn s.fresh)(e:KB s.cm)(hl:HL s.cm)(b):((s.ask b).2.jr.flatMap line).length<=(s.jr.flatMap line).length+200000000:=by
 have h1:=rq 42 b _ h e hl;have h2:Rs s.fresh<=40:=by
  have:=hl.len;unfold Rs;refine ah (R1 _ _) (ah ?_ this);show(dE s.cm).length<=_
  grind [dE]
 have l:=QC LN h2;have m:Ph s.fresh=(s.jr.flatMap line).length+LN*Rs _:=rfl;have n:LN*40=200000000:=rfl;have p:((s.ask b).2.jr.flatMap line).length<=Ph (s.ask b).2:=aJ _ _;have r:Ph (s.ask b).2<=Ph _:=h1;omega
end bY
end
section
namespace bY
variable{n f:Nat}{t:T}{it:Option V}{b:Bool}
def Bb(n:Nat)(t:T)(it:Option V)(f:Nat):Pe V :=if t.cq=2 then .ret ((match t.is with|some v=>.ok v|.none=>.error 11),f)
 else if t.cq=3 then kr t.name f
 else if t.cq=4 then .ret ((match it with|some v=>.ok v|.none=>.error 11),f)
 else if t.cq=14 then pN (tr n (t.cG 0) it f) λf=>tr n (t.cG 1) it f
 else if t.cq=15 then eL (tr n (t.cG 0) it f) λv f =>
  (match eK v with
  |.ok l=>oo (λu f=>tr n (t.cG 1) (some u) f) l [] f
  |.error e=>.ret (.error e,f))
 else if t.cq=16 then eL (tr n (t.cG 0) it f) λv f =>
  (match eK v with
  |.ok l=>ly (λu f=>tr n (t.cG 1) (some u) f) l [] f
  |.error e=>.ret (.error e,f))
 else if t.cq=8 then oo (λu f=>tr n u it f) t.parts [] f
 else fh (λu f=>tr n u it f) t f
def Pq(h:t.cq≠1)(it f):tr (n+1) t it f=if f=0 then .ret (.error 11,f)else Bb n t it (f-1):=by
 unfold tr;rw[ae h];rfl
structure pa(p:Nat->Pe V)(d:Nat):Prop where
 sp:∀f,Sp (p f) (f+d)
 pp:∀f,PP L3 (p f)
 pe:∀f,PE (p f)
def nE(n)(e:LA t)(hit:∀v,it=some v->L3 v):pa (tr n t it) 0:=⟨λf=>lW _ _ _ _,λf=>Au _ _ _ _ (e _) hit,λf=>A7 _ _ _ _⟩
theorem Bc{α β σ:Type}(N p)(k:α->Nat->Pe β)(s:σ):(eL p k).run N s=(match (p.run N s).1.1 with|.ok a=>k a (p.run N s).1.2|.error e=>.ret (.error e,(p.run N s).1.2)).run N (p.run N s).2:=by
 unfold eL;rw[Pg.run_bind]
 grind
def fL{α β σ:Type}{N:By->σ->Wo×σ}{p:Pe α}{k:α->Nat->Pe β}{s e:σ}{a:α}(h:p.run N s=((.ok a,f),e)):(eL p k).run N s=(k a f).run N e:=by
 rw[Bc,h]
def fF{α β σ:Type}{N:By->σ->Wo×σ}{p:Pe α}{k:α->Nat->Pe β}{s j:σ}{e:Nat}(h:p.run N s=((.error e,f),j)):(eL p k).run N s=((.error e,f),j):=by
 rw[Bc,h];rfl
theorem Bd(h:ib (n+1) b t=true):1<=t.cq/\t.cq<=16/\(t.cq=8\/t.parts.length=jy t.cq)/\t.parts.length<=200/\(t.cq=1->t.op∈[43,45,42,47,60,61])/\(t.cq=13->t.op∈[109,120,64])/\(t.cq=2->t.is.isSome=true)/\(t.cq=4->b=true):=by
 grind [ib]
theorem zu(h:ib (n+1) b t=true)(e:¬(t.cq=15\/t.cq=16)):∀u∈t.parts,ib n b u=true:=by
 grind [ib]
theorem Jz(h:ib (n+1) b t=true)(e:t.cq=15\/t.cq=16):ib n b (t.cG 0)=true/\ib n true (t.cG 1)=true:=by
 grind [ib]
theorem jE{i:Nat}(h:i<t.parts.length):t.cG i∈t.parts:=by
 grind [T.cG]
theorem LA.cG(h:LA t){u:T}(hu:u∈t.parts):LA u:=λn=>(h (n+1)).2 u hu
end bY
end
section
namespace bY
def Kb(x:By->Prop)(s s':LS):Prop:=s'.b_=s.b_/\∀k∈s.b_,x k->cS s'.cm k=cS s.cm k
def Kb.refl(x s):Kb x s s:=⟨rfl,λ_ _ _=>rfl⟩
def Kb.trans{x:By->Prop}{a b c:LS}(h:Kb x a b)(h':Kb x b c):Kb x a c:=⟨h'.1.trans h.1,λk e hx=>(h'.2 k (by rw[h.1];exact e) hx).trans (h.2 k e hx)⟩
def Kb.mono{x y:By->Prop}{a b:LS}(h:Kb x a b)(hy:∀k,y k->x k):Kb y a b:=⟨h.1,λk e hx=>h.2 k e (hy k hx)⟩
section
variable {j:By->LS->Wo×LS}
def JG(b:∀k s,Kb (λ_=>True) s (j k s).2)(e):∀l s,Kb (λ_=>True) s (en j e l s).2
 |[],s=>Kb.refl _ _
 |(k,w) :: r,s=>by
  unfold en;split
  ·exact(b k s).trans (JG b e r _)
  exact b k s
def JH(b:∀k s,Kb (λ_=>True) s (j k s).2){α:Type}(p:Pg α):∀s ns,Kb (λ_=>True) s (p.run (d_ j) (s,ns)).2.1 :=Pg.ind (P:=λp=>∀(s:LS) (ns:List (By×Wo)),Kb (λ_=>True) s (p.run (d_ j) (s,ns)).2.1) (λa s ns=>Kb.refl _ _)
  (λk c e s ns=>(b k s).trans (e _ _ _)) p
def Ei(n:∀k s,Kb (λ_=>True) s (j k s).2)(b t y s):Kb (λk=>k≠b) s (fR j b t y s).2:=by
 have h:=JH n (prog t) { s with du:=s.du++[y] } [];have h':Kb (λk=>k≠b) s ((prog t).run (d_ j) ({ s with du:=s.du++[y] },[])).2.1:=⟨h.1,λk l _=>h.2 k l trivial⟩;refine h'.trans ?_;unfold fR;generalize (prog t).run (d_ j) ({ s with du:=s.du++[y] },[])=q;have m:∀(o:Option fM) (u:By),Kb (λk=>k≠b) q.2.1 ({ q.2.1 with cm:=di q.2.1.cm b o }.write u):=λo u=>⟨rfl,λk l hx=>by
  show cS (di q.2.1.cm b o) k=_;rw[fj,ae (λe=>hx e.symm)]⟩
 unfold gT;split
 ·split
  ·exact m _ _
  exact Kb.refl _ _
 exact m _ _
def zw(l:∀k s,Kb (λ_=>True) s (j k s).2)(b s):Kb (λk=>k≠b) s (dq j b s).2:=by
 unfold dq;split
 ·exact Kb.refl _ _
 split
 ·exact Kb.refl _ _
 rename_i th _ _ t _;cases th.kept with
 |none=>exact Ei l b t _ s
 |some kp =>
  have e:=JG l b kp.cO s;show Kb _ s (match en j b kp.cO s with|(.none,s)=>(kp.dQ,s)|(.some y,s)=>fR j b t y s).2;rcases hd:en j b kp.cO s with⟨_|y,m⟩
  ·rw[hd]at e;exact e.mono (λ_ _=>trivial)
  rw[hd]at e;exact(e.mono (λ_ _=>trivial)).trans (Ei l b t y m)
end
theorem xZ{l:By->LS->Wo×LS}(m:∀b s,Kb (λk=>k≠b) s (l b s).2)(b s):Kb (λ_=>True) s (eR l b s).2:=by
 unfold eR;split
 ·exact Kb.refl _ _
 split
 ·show Kb _ s (s.meet b);unfold LS.meet;split
  ·exact⟨rfl,λ_ _ _=>rfl⟩
  exact Kb.refl _ _
 rename_i hc;have h:=m b { s with b_:=s.b_++[b] };refine⟨?_,λk n _=>?_⟩
 ·show(l b { s with b_:=s.b_++[b] }).2.b_.dropLast=_;rw[h.1];simp
 refine h.2 k (Qr _ n) (λe=>hc ?_)
 grind
def pd:∀n b s,Kb (λ_=>True) s (cC n b s).2
 |0,b,s=>xZ (λ_ s=>Kb.refl _ s) b s
 |n+1,b,s=>xZ (λb s=>zw (pd n) b s) b s
end bY
end
