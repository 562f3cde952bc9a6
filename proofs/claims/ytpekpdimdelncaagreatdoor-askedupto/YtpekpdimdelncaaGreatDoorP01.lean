/- Out of Spec. -/
import Derived.Lib.ParseIntB
import Derived.Lib.ItoaNum
import Derived.Lib.Bytealg
import Derived.RowKit
import Derived.Test.YtpekpdimdelncaaGreatDoorPA
set_option linter.unusedVariables false
set_option linter.defProp false
namespace Go.Proofs.YtpekpdimdelncaaGreatDoor
section
namespace bY
variable{l:a_}{k:Nat}
def wk(c:Int):Bool:=decide (48<=c)&&decide (c<=57)
def zG(c:Int):Bool:=decide (97<=c)&&decide (c<=122)
def Og(c:Int):Bool:=zG c||wk c
def dA(c:UInt8):Bool:=wk c.toNat
def eo(c:UInt8):Bool:=zG c.toNat
def eF(c:UInt8):Bool:=Og c.toNat
def dC(p:UInt8->Bool):a_->Nat
 |[]=>0
 |c :: r=>if p c=true then dC p r+1 else 0
theorem mN(p):∀l,dC p l<=l.length:=by
 intro l
 induction l with
 |nil=>simp[dC]
 |cons c r b=>simp only[dC];split<;>simp<;>omega
def pg(p):∀l k (h:k<l.length),k<=dC p l->p l[k]=true->k+1<=dC p l:=by
 intro l
 induction l with
 |nil=>intro k h;simp at h
 |cons c r j =>
  intro k h b e;simp only[dC]at b ⊢;cases k with
  |zero=>simp at e;rw[ag e];omega
  |succ k =>
   by_cases hc:p c=true
   ·rw[ag hc]at b ⊢;have:=j k Sf RM Sw;omega
   rw[ae hc]at b;omega
def jk(p):∀l k,k<=dC p l->(∀h:k<l.length,p l[k]=false)->dC p l=k:=by
 intro l
 induction l with
 |nil=>intro k b _;simp[dC]at b ⊢;omega
 |cons c r e =>
  intro k b hs;simp only[dC]at b ⊢;cases k with
  |zero =>
   have:=hs R2;simp at this;simp[this]
  |succ k =>
   by_cases hc:p c=true
   ·rw[ag hc]at b ⊢;rw[e k RM (λh=>hs (Nat.succ_lt_succ h))]
   rw[ae hc]at b;omega
def gU(l:a_):Bool :=l==[105,102]||l==[116,104,101,110]||l==[101,108,115,101]||l==[105,116]||l==[116,114,121]||l==[109,105,110]||l==[109,97,120]||l==[115,105,122,101]||l==[97,116]||l==[101,97,99,104]||l==[115,111,109,101]||l==[115,117,109]||l==[119,111,114,100]
def dT(l:a_):Option Int :=match Lib.parseIntB 64 l with
 |.ok v=>if Lib.itoa v==l then some v else none
 |_=>none
def fH(c:UInt8):Bool:=decide (32<=(c.toNat:Int))&&decide ((c.toNat:Int)<=126)
def eG:Nat->a_->Option Nat
 |0,_=>none
 |_+1,[]=>none
 |n+1,c :: r=>if c=39 then some 0 else if fH c=true then(eG n r).map (·+1)else none
def dM:a_->Option Nat
 |c :: r=>if c=39 then eG 31 r else none
 |[]=>none
def jl(c:UInt8):Bool:=decide (0<=Lib.indexByte [40,41,91,93,123,125,44,43,45,42,47,60,61] c)
def fa:Option Nat->Nat×Nat
 |some n=>(3,n+2)
 |none=>(1,0)
def tok:a_->Nat×Nat
 |[]=>(0,0)
 |c :: r =>
  if dA c=true then(if(dT ((c :: r).take (dC dA (c :: r)))).isSome then(2,dC dA (c :: r)) else(1,0))
  else if eo c=true then(if gU ((c :: r).take (dC eF (c :: r)))=true then(5,dC eF (c :: r))else if 8<dC eF (c :: r) then(1,0) else(4,dC eF (c :: r)))
  else if c=39 then fa (dM (c :: r))
  else if jl c=true then(6,1) else(1,0)
def fZ(l c r)(h:l=c :: r):tok l =if dA c=true then(if(dT (l.take (dC dA l))).isSome then(2,dC dA l) else(1,0))
  else if eo c=true then(if gU (l.take (dC eF l))=true then(5,dC eF l)else if 8<dC eF l then(1,0) else(4,dC eF l))
  else if c=39 then fa (dM l)
  else if jl c=true then(6,1) else(1,0):=by
 subst h;rfl
def blank(c:UInt8):Bool:=(c.toNat:Int)==32
def skip(l:a_)(i:Nat):Nat:=i+dC blank (l.drop i)
theorem pj(l i)(h:i<=l.length):skip l i<=l.length:=by
 grind [skip,List.length_drop,mN]
theorem Dw(l i):i<=skip l i:=aJ _ _
theorem wQ(l k)(h:k<l.length)(hb:blank l[k]=true):skip l (k+1)=skip l k:=by
 grind [skip,List.drop_eq_getElem_cons,dC]
theorem pk(l k)(h:∀h:k<l.length,blank l[k]=false):skip l k=k:=by
 grind [skip,List.drop_eq_getElem_cons,dC,List.drop_eq_nil_of_le]
def mO(l:a_)(k:Nat):Prop:=1<=k/\k<=32/\dM l=(eG (32-k) (l.drop k)).map (·+(k-1))
def wm(l)(h:Lib.hasPrefix l [39]=true):mO l 1:=by
 refine⟨by omega,by omega,?_⟩;cases l with
 |nil=>simp[Lib.hasPrefix]at h
 |cons c r =>
  simp[Lib.hasPrefix]at h;subst h;simp[dM]
def zH(l)(h:Lib.hasPrefix l [39]=false):dM l=none:=by
 cases l with
 |nil=>rfl
 |cons c r =>
  simp only[dM];rw[ae (λe=>by subst e;simp[Lib.hasPrefix]at h)]
def Ev(h:mO l k)(b:l.length<=k\/31<k):dM l=none:=by
 obtain⟨h1,h2,e⟩:=h;rw[e];rcases b with b|b
 ·rw[aQ b];cases 32-k<;>rfl
 rw[show 32-k=0 by omega];rfl
def Ew(h:mO l k)(e:k<l.length)(j:k<=31)(hc:l[k]=39):dM l=some (k-1):=by
 obtain⟨h1,h2,b⟩:=h;rw[b,aR e,show 32-k=(31-k)+1 by omega];simp[eG,hc]
theorem Ey(h:mO l k)(e:k<l.length)(j:k<=31)(hc:¬l[k]=39)(m:fH l[k]=false):dM l=none:=by
 obtain⟨h1,h2,b⟩:=h;rw[b,aR e,show 32-k=(31-k)+1 by omega]
 grind [eG]
theorem BH(h:mO l k)(e:k<l.length)(m:k<=31)(hc:¬l[k]=39)(j:fH l[k]=true):mO l (k+1):=by
 obtain⟨h1,h2,b⟩:=h;refine⟨by omega,by omega,?_⟩;rw[b,aR e,show 32-k=(31-k)+1 by omega,show 32-(k+1)=31-k by omega];simp only[eG,hc,Qn,j,aN,Option.map_map]
 congr 1
 grind
def Gx:∀n l k,eG n l=some k->k<l.length:=by
 intro n
 induction n with
 |zero=>intro l k h;simp[eG]at h
 |succ n e =>
  intro l k h;cases l with
  |nil=>simp[eG]at h
  |cons c r =>
   simp only[eG]at h;split at h
   ·simp at h;subst h;simp
   split at h
   ·cases b:eG n r with
    |none=>rw[b]at h;simp at h
    |some m=>rw[b]at h;simp at h;subst h;have:=e r m b;simp;omega
   simp at h
def po{n:Nat}(h:dM l=some n):n+2<=l.length:=by
 cases l with
 |nil=>simp[dM]at h
 |cons c r =>
  simp only[dM]at h;split at h
  ·have:=Gx _ _ _ h;simp;omega
  simp at h
theorem BI(l)(h:∀v,Lib.parseIntB 64 l≠.ok v):dT l=none:=by
 grind [dT]
def iy(l v)(h:Lib.parseIntB 64 l=.ok v):-9223372036854775808<=v/\v<=9223372036854775807:=by
 have b:(2:Nat)^(64-1)=9223372036854775808:=RZ;cases l with
 |nil=>simp[Lib.parseIntB]at h
 |cons c r =>
  simp only[Lib.parseIntB,b]at h;cases hu:Lib.parseUintB 64 _ with
  |ok u =>
   rw[hu]at h;simp only at h;by_cases h1:¬c.toNat=45/\9223372036854775808<=u
   ·rw[ag h1]at h;cases h
   rw[ae h1]at h;by_cases h2:c.toNat=45/\9223372036854775808<u
   ·rw[ag h2]at h;cases h
   rw[ae h2]at h;injection h with h
   subst h;split<;>omega
  |_=>rw[hu]at h;cases h
def tx(l:a_)(i:Nat):a_:=(l.drop i).take (tok (l.drop i)).2
def fC(l:a_)(i:Nat):Nat:=skip l (i+(tok (l.drop i)).2)
def fY(l:a_)(i:Nat)(b:a_):Bool :=match tx l i with
 |[c]=>(tok (l.drop i)).1==6&&decide (0<=Lib.indexByte b c)
 |_=>false
def fu(t:a_)(b:Nat):Nat :=if t=[105,116] then(if 0<b then 4 else 0)
 else if t=[105,102]then 9
 else if t=[115,105,122,101]then 10
 else if t=[115,117,109]then 11
 else if t=[119,111,114,100]then 12
 else if t=[109,105,110]\/t=[109,97,120]\/t=[97,116]then 13
 else if t=[116,114,121]then 14
 else if t=[101,97,99,104]then 15
 else if t=[115,111,109,101]then 16
 else 0
def jL(t:a_):Nat :=if t=[45]then 5 else if t=[40]then 6 else if t=[91]then 7 else if t=[123]then 8 else 0
def kindOf(k:Nat)(t:a_)(b:Nat):Nat :=if k=2\/k=3 then 2 else if k=4 then 3 else if k=5 then fu t b else if k=6 then jL t else 0
def cq(l:a_)(i b:Nat):Nat:=kindOf (tok (l.drop i)).1 (tx l i) b
theorem BJ(l):(tok l).2<=l.length:=by
 cases l with
 |nil=>simp[tok]
 |cons c r =>
  rw[fZ _ c r rfl];have h1:=mN dA (c :: r);have h2:=mN eF (c :: r);split
  ·split<;>simp<;>simp at h1<;>omega
  split
  ·split
   ·exact h2
   split
   ·simp
   exact h2
  split
  ·cases b:dM _ with
   |none=>simp[fa]
   |some n=>have:=po b;simpa[fa]using this
  split<;>simp
theorem Gy(l)(h:(tok l).1=6):∃c r,l=c :: r/\tok l=(6,1):=by
 cases l with
 |nil=>simp[tok]at h
 |cons c r =>
  refine⟨c,r,rfl,?_⟩;rw[fZ _ c r rfl]at h ⊢;split at h
  ·split at h<;>simp at h
  split at h
  ·split at h
   ·simp at h
   split at h<;>simp at h
  split at h
  ·cases b:dM _<;>rw[b]at h<;>simp[fa]at h
  split at h
  ·simp_all
  simp at h
theorem fb(l i)(h:i<=l.length):fC l i<=l.length:=by
 apply pj
 grind [BJ]
theorem yl(l:a_)(i)(h:i<=l.length):i+(tok (l.drop i)).2<=l.length:=by
 grind [BJ]
def dH(s:ba)(k)(h:k<s.size):s[k]=s.1.1[k]' Sf:=by
 simp[ByteArray.getElem_eq_getElem_data]
end bY
end
section
namespace bY
variable{r:Except (Nat×Nat) Nat}{f:Nat->Except (Nat×Nat) Nat}{k i:Nat}{l t:a_}
def cv(l:a_)(t:a_)(i:Nat):Except (Nat×Nat) Nat :=if tx l i=t then .ok (fC l i)else .error (3,i)
def andThen(r:Except (Nat×Nat) Nat)(f:Nat->Except (Nat×Nat) Nat):Except (Nat×Nat) Nat :=match r with
 |.ok j=>f j
 |.error e=>.error e
def parts(l:a_)(k i:Nat)(R F I W:Nat->Except (Nat×Nat) Nat):Except (Nat×Nat) Nat :=if k=5 then F i
 else if k=6 then andThen (R i) (cv l [41])
 else if k=7 then andThen (R i) (cv l [93])
 else if k=8 then(if tx l i=[125]then .ok (fC l i)else andThen (R i) I)
 else if k=9 then andThen (andThen (R i) (cv l [116,104,101,110])) λj=>andThen (andThen (R j) (cv l [101,108,115,101])) F
 else if k=10\/k=11\/k=12 then andThen (cv l [40] i) λj=>andThen (R j) (cv l [41])
 else if k=13\/k=14 then andThen (cv l [40] i) λj=>andThen (andThen (R j) (cv l [44])) λj=>andThen (R j) (cv l [41])
 else if k=15\/k=16 then andThen (cv l [40] i) λj=>andThen (andThen (R j) (cv l [44])) λj=>andThen (W j) (cv l [41])
 else .ok i
def P(l:a_):Nat->Nat->Nat->Nat->Nat->Except (Nat×Nat) Nat
 |0,_,_,_,_=>.error (0,0)
 |n+1,m,e,b,i =>
  if m=0 then andThen (P l n 1 e b i) λj=>if fY l j [60,61]=true then P l n 1 e b (fC l j)else .ok j
  else if m=1 then andThen (P l n 2 e b i) λj=>P l n 4 e b j
  else if m=2 then andThen (P l n 3 e b i) λj=>P l n 5 e b j
  else if m=3 then
   (if cq l i b=0 then .error (3,i)else if e=20 then .error (4,i)
   else parts l (cq l i b) (fC l i) (λj=>P l n 0 (e+1) b j) (λj=>P l n 3 (e+1) b j) (λj=>P l n 6 (e+1) b j) (λj=>P l n 0 (e+1) (b+1) j))
  else if m=4 then(if fY l i [43,45]=true then andThen (P l n 2 e b (fC l i)) λj=>P l n 4 e b j else .ok i)
  else if m=5 then(if fY l i [42,47]=true then andThen (P l n 3 e b (fC l i)) λj=>P l n 5 e b j else .ok i)
  else(if tx l i=[44]then andThen (P l n 0 e b (fC l i)) λj=>P l n 6 e b j else cv l [125] i)
def wR(l:a_):Except (Nat×Nat) Nat->Nat×Nat
 |.ok j=>if(tok (l.drop j)).1=0 then(0,0) else(3,j)
 |.error e=>e
def check(l:a_):Nat×Nat :=if 200<l.length then(2,0)
 else wR l (P l (8*l.length+5) 0 0 0 (skip l 0))
def nd(b:Nat):Nat:=if b=0 then 4 else if b=1 then 3 else if b=2 then 2 else 1
theorem andThen_ok(h:andThen r f=.ok k):∃j,r=.ok j/\f j=.ok k:=by
 cases r with
 |ok j=>exact⟨j,rfl,h⟩
 |error e=>cases h
theorem rC(h:cv l t i=.ok k):tx l i=t/\k=fC l i:=by
 grind [cv]
theorem ma(h:tx l i≠[]):1<=(tok (l.drop i)).2:=by
 grind [tx]
theorem fO(h:1<=(tok (l.drop i)).2):i+1<=fC l i:=by
 grind [fC,Dw]
def fI(h:cv l t i=.ok k)(b:t≠[])(hi:i<=l.length):i+1<=k/\k<=l.length:=by
 obtain⟨h1,rfl⟩:=rC h;exact⟨fO (ma (by rw[h1];exact b)),fb l i hi⟩
theorem one_pos{b:a_}(h:fY l i b=true):1<=(tok (l.drop i)).2:=by
 grind [fY,ma]
def ko(p c r)(h:p c=true):1<=dC p (c :: r):=by
 simp[dC,h]
theorem qx(l)(h:2<=(tok l).1):1<=(tok l).2:=by
 cases l with
 |nil=>simp[tok]at h
 |cons c r =>
  rw[fZ _ c r rfl]at h ⊢;by_cases h1:dA c=true
  ·rw[ag h1]at h ⊢;have:=ko dA c r h1;split at h
   ·rename_i h2;rw[ag h2];exact this
   simp at h
  rw[ae h1]at h ⊢;by_cases h2:eo c=true
  ·rw[ag h2]at h ⊢;have:=ko eF c r Ts;split
   ·exact this
   rename_i b;rw[ae b]at h;split
   ·rename_i e;rw[ag e]at h;simp at h
   exact this
  rw[ae h2]at h ⊢;split
  ·rename_i b;rw[ag b]at h;cases j:dM _ with
   |none=>rw[j]at h;simp[fa]at h
   |some n=>simp[fa]
  rename_i b;rw[ae b]at h;split
  ·simp
  rename_i e;rw[ae e]at h;simp at h
theorem qy{i b:Nat}(h:cq l i b≠0):1<=(tok (l.drop i)).2:=by
 grind [cq,kindOf,qx]
theorem BS{l:a_}{k i j:Nat}{R F I W:Nat->Except (Nat×Nat) Nat}(h:parts l k i R F I W=.ok j)(hi:i<=l.length)
  (C:∀a b,R a=.ok b->a<=l.length->a<=b/\b<=l.length) (hF:∀a b,F a=.ok b->a<=l.length->a<=b/\b<=l.length)
  (B:∀a b,I a=.ok b->a<=l.length->a<=b/\b<=l.length) (D:∀a b,W a=.ok b->a<=l.length->a<=b/\b<=l.length):i<=j/\j<=l.length:=by
 have z:∀(t:a_) (a b:Nat),t≠[]->cv l t a=.ok b->a<=l.length->a<=b/\b<=l.length:=λt a b y h u=>by
  have:=fI h y u;omega
 unfold parts at h;by_cases e:k=5
 ·grind
 rw[ae e]at h;by_cases m:k=6
 ·grind [andThen_ok]
 rw[ae m]at h;by_cases n:k=7
 ·grind [andThen_ok]
 rw[ae n]at h;by_cases p:k=8
 ·rw[ag p]at h;by_cases hb:tx l i=[125]
  ·rw[ag hb]at h;cases h;have:=fO (ma (l:=l) (i:=i) SV);exact⟨by omega,fb l i hi⟩
  grind [andThen_ok]
 grind [andThen_ok]
def jv(l):∀n e u p i j,P l n e u p i=.ok j->i<=l.length->i+(if e<=3 then 1 else 0)<=j/\j<=l.length:=by
 intro n
 induction n with
 |zero=>intro e u p i j h;simp[P]at h
 |succ n F =>
  intro e u p i j h hi;have m:∀(e u p i j:Nat),P l n e u p i=.ok j->i<=l.length->i<=j/\j<=l.length:=λe u p i j h hi=>by
   have:=F e u p i j h hi;omega
  have D:∀(e u p i j:Nat),e<=3->P l n e u p i=.ok j->i<=l.length->i+1<=j/\j<=l.length:=λe u p i j C h hi=>by
   have:=F e u p i j h hi;rw[ag C]at this;exact this
  rw[P]at h;by_cases t0:e=0
  ·rw[ag t0]at h;obtain⟨a,h1,h2⟩:=andThen_ok h;have a1:=D _ _ _ _ _ RM h1 hi;subst t0;split at h2
   ·have y:=fb l a a1.2;have G:=m _ _ _ _ _ h2 y;have I:=Dw l (a+(tok (l.drop a)).2);have J:fC l a=skip l _:=rfl;simp;omega
   cases h2;simp;omega
  rw[ae t0]at h;by_cases t1:e=1
  ·rw[ag t1]at h;obtain⟨a,h1,h2⟩:=andThen_ok h;have a1:=D _ _ _ _ _ RM h1 hi;have y:=m _ _ _ _ _ h2 a1.2;subst t1;simp;omega
  rw[ae t1]at h;by_cases t2:e=2
  ·rw[ag t2]at h;obtain⟨a,h1,h2⟩:=andThen_ok h;have a1:=D _ _ _ _ _ RM h1 hi;have y:=m _ _ _ _ _ h2 a1.2;subst t2;simp;omega
  rw[ae t2]at h;by_cases t3:e=3
  ·rw[ag t3]at h;by_cases B:cq l i p=0
   ·rw[ag B]at h;cases h
   rw[ae B]at h;split at h
   ·cases h
   have a1:=fO (qy B);have y:=BS h (fb l i hi) (λa b=>m _ _ _ a b) (λa b=>m _ _ _ a b) (λa b=>m _ _ _ a b) (λa b=>m _ _ _ a b);subst t3;simp;omega
  rw[ae t3]at h;have C:¬e<=3:=RM;rw[ae C];by_cases t4:e=4
  ·rw[ag t4]at h;split at h
   ·rename_i z;obtain⟨a,h1,h2⟩:=andThen_ok h;have E:=fO (one_pos z);have a1:=m _ _ _ _ _ h1 (fb l i hi);have y:=m _ _ _ _ _ h2 a1.2;omega
   cases h;omega
  rw[ae t4]at h;by_cases t5:e=5
  ·rw[ag t5]at h;split at h
   ·rename_i z;obtain⟨a,h1,h2⟩:=andThen_ok h;have E:=fO (one_pos z);have a1:=m _ _ _ _ _ h1 (fb l i hi);have y:=m _ _ _ _ _ h2 a1.2;omega
   cases h;omega
  rw[ae t5]at h;split at h
  ·rename_i z;obtain⟨a,h1,h2⟩:=andThen_ok h;have E:=fO (ma (l:=l) (i:=i) (by rw[z];simp));have a1:=m _ _ _ _ _ h1 (fb l i hi);have y:=m _ _ _ _ _ h2 a1.2;omega
  have:=fI h R2 hi;omega
end bY
end
section
namespace bY
variable{c:UInt8}
def iJ:a_->Nat->Option Nat
 |[],n=>some n
 |c :: r,n=>if dA c=true then(if(9223372036854775807-(c.toNat-48)) / 10<n then none else iJ r (10*n+(c.toNat-48)))else none
def dJ(l:a_):Option Nat :=if l=[]\/(l.head?=some 48/\1<l.length)then none else iJ l 0
def val:a_->Nat->Nat
 |[],n=>n
 |c :: r,n=>val r (10*n+(c.toNat-48))
def BV:∀l n,n<=val l n:=by
 intro l
 induction l with
 |nil=>intro n;exact af _
 |cons c r b=>intro n;have:=b (10*n+(c.toNat-48));simp only[val];omega
theorem ow(h:dA c=true):48<=c.toNat/\c.toNat<=57:=by
 grind [dA,wk]
def p7:∀l n,(∀c∈l,dA c=true)->n<=9223372036854775807->iJ l n=if val l n<=9223372036854775807 then some (val l n)else none:=by
 intro l
 induction l with
 |nil=>intro n _ h;simp[iJ,val,h]
 |cons c r e =>
  intro n hd j;have hc:=hd c R2;have hb:=ow hc;have hv:=BV r (10*n+(c.toNat-48));have e1:val (c :: r) n=val r _:=rfl;have e2:iJ (c :: r) n=if dA c=true then(if(9223372036854775807-(c.toNat-48)) / 10<n then none else iJ r _)else none:=rfl;rw[e1,e2,ag hc];by_cases h:(9223372036854775807-(c.toNat-48)) / 10<n
  ·have b:¬val r (10*n+(c.toNat-48))<=9223372036854775807:=RM;rw[ag h,ae b]
  rw[ae h];exact e _ (λx hx=>hd x SW) RM
def Oi:∀l n,(∀c∈l,dA c=true)->n<=18446744073709551615->Lib.parseUintM 18446744073709551615 n l=if val l n<=18446744073709551615 then .ok (val l n)else .range:=by
 intro l
 induction l with
 |nil =>
  intro n _ h;have e1:val [] n=n:=rfl;rw[e1,ag h];rfl
 |cons c r e =>
  intro n hd j;have hc:=hd c R2;have hb:=ow hc;have hv:=BV r (10*n+(c.toNat-48));have e1:val (c :: r) n=val r _:=rfl;rw[e1,Lib.parseUintM,ag hb,show n*10+(c.toNat-48)=10*n+(c.toNat-48) by omega];by_cases h1:1844674407370955162<=n
  ·have b:¬val r (10*n+(c.toNat-48))<=18446744073709551615:=RM;rw[ag h1,ae b]
  rw[ae h1];by_cases h2:18446744073709551615<10*n+(c.toNat-48)
  ·have b:¬val r (10*n+(c.toNat-48))<=18446744073709551615:=RM;rw[ag h2,ae b]
  rw[ae h2];exact e _ (λx hx=>hd x SW) RM
def tP(l c n):val (l++[c]) n=10*val l n+(c.toNat-48):=by
 induction l generalizing n with
 |nil=>rfl
 |cons d r b=>exact b _
def Dx:∀l,(∀c∈l,dA c=true)->l≠[]->(l.head? ≠ some 48\/l.length=1)->Lib.decDigits (val l 0)=l:=by
 intro l
 induction h:l.length using Nat.strongRecOn generalizing l with
 |ind k u =>
  intro hd n b;obtain⟨r,c,rfl⟩:∃r c,l=r++[c]:=⟨l.dropLast,l.getLast n,(List.dropLast_concat_getLast n).symm⟩;have hc:=ow (hd c R2);have j:UInt8.ofNat c.toNat=c:=R2;cases r with
  |nil =>
   have e:val ([]++[c]) 0=c.toNat-48:=by rw[tP];simp[val]
   rw[e,Lib.decDigits,Qq RM,show 48+(c.toNat-48)=c.toNat by omega,j];rfl
  |cons d t =>
   have y:=ow (hd d R2);have m:d≠48:=by
    intro e;rcases b with b|b
    ·apply b;rw[e];rfl
    simp at h;omega
   have B:1<=val (d :: t) 0:=by
    have e1:val (d :: t) 0=val t _:=rfl;have:=BV t (10*0+(d.toNat-48));have z:d.toNat≠48:=λe=>m (Qi.1 e);omega
   have p:=u (d :: t).length (by rw[<-h];simp) _ rfl (λx hx=>hd x (Qr _ hx)) R2 (Or.inl SD);rw[tP,Lib.decDigits,dif_neg RM];rw[show(10*val _ 0+(c.toNat-48)) / 10=val (d :: t) 0 by omega,show(10*val _ 0+(c.toNat-48))%10=c.toNat-48 by omega,p,show 48+(c.toNat-48)=c.toNat by omega,j]
theorem zN:∀u:Nat,10<=u->∃c r,Lib.decDigits u=c :: r/\c≠48:=by
 intro u
 induction u using Nat.strongRecOn with
 |ind u l =>
  intro h;rw[Lib.decDigits,dif_neg RM];by_cases h1:u / 10<10
  ·rw[Lib.decDigits,Qq h1];refine⟨_,_,rfl,?_⟩;intro e;have:=congrArg UInt8.toNat e;rw[RJ]at this;have b:(48:UInt8).toNat=48:=rfl;rw[b]at this;omega
  obtain⟨c,r,hc,j⟩:=l (u / 10) RM RM;rw[hc];exact⟨c,_,rfl,j⟩
theorem GF(l)(hd:∀c∈l,dA c=true)(m:l≠[]):(dJ l).isSome=(dT l).isSome:=by
 have n:(2:Nat)^(64-1)=9223372036854775808:=RZ;have u:(2:Nat)^64-1=18446744073709551615:=RZ;obtain⟨c,r,rfl⟩:∃c r,l=c :: r:=by
  cases l with
  |nil=>exact absurd rfl m
  |cons c r=>exact⟨c,r,rfl⟩
 have hc:=ow (hd c R2);have hM:=Oi _ 0 hd RM;have hF:=p7 _ 0 hd RM;have j:=Dx _ hd R2;generalize val _ 0=v at hM hF j;have p:Lib.parseIntB 64 (c :: r)=if v<=9223372036854775807 then .ok (v:Int)else .range:=by
  simp only[Lib.parseIntB,n];rw[ae RM,Lib.parseUintB,ae R2,u,hM]
  grind
 unfold dT dJ;rw[p];by_cases h2:v<=9223372036854775807
 ·rw[if_pos h2]at hF ⊢;simp only;have hit:Lib.itoa (v:Int)=Lib.decDigits v:=by grind [Lib.itoa]
  rw[hit];by_cases hz:c=48/\1<(c :: r).length
  ·rw[ag (Or.inr ⟨by rw[hz.1];rfl,hz.2⟩)];have y:¬(Lib.decDigits v==c :: r)=true:=by
    intro e;have e:=eq_of_beq e;by_cases b:v<10
    ·rw[Lib.decDigits,Qq b]at e
     grind
    grind [zN]
   grind
  grind
 grind
end bY
end
namespace bY
structure V where
 x:Sum Int (Sum (a_) (List V))
def vn(i:Int):V:=⟨.inl i⟩
def vw(b:a_):V:=⟨.inr (.inl b)⟩
def vl(l:List V):V:=⟨.inr (.inr l)⟩
def wrap(i:Int):Int:=(i+9223372036854775808)%18446744073709551616-9223372036854775808
def cJ:List (a_)->a_
 |[]=>[]
 |[a]=>a
 |a :: b :: r=>a++44 :: cJ (b :: r)
def wr:Nat->V->a_
 |n,v=>match v.x with
  |.inl i=>Lib.itoa i
  |.inr (.inl b)=>39 :: (b++[39])
  |.inr (.inr l)=>match n with
   |0=>[]
   |m+1=>123 :: (cJ (l.map (wr m))++[125])
def p8:Nat->V->Nat
 |n,v=>match v.x with
  |.inl _=>0
  |.inr (.inl _)=>0
  |.inr (.inr l)=>match n with
   |0=>0
   |m+1=>l.foldl (λa u=>max a (p8 m u)) 0+1
def mj:Nat->V->Bool
 |n,v=>match v.x with
  |.inl _=>true
  |.inr (.inl _)=>true
  |.inr (.inr l)=>match n with
   |0=>false
   |m+1=>l.all (mj m)
def same:Nat->V->V->Bool
 |n,v,u=>match v.x,u.x with
  |.inl i,.inl j=>i==j
  |.inr (.inl a),.inr (.inl b)=>a==b
  |.inr (.inr l),.inr (.inr m)=>match n with
   |0=>false
   |k+1=>l.length==m.length&&(l.zip m).all λp=>same k p.1 p.2
  |_,_=>false
def fg(v:V):Except Nat Int :=match v.x with
 |.inl i=>.ok i
 |_=>.error 9
def eK(v:V):Except Nat (List V) :=match v.x with
 |.inr (.inr l)=>.ok l
 |_=>.error 9
def dX(l:List V):Except Nat V :=if 12<l.length\/l.all (mj 2)=false then .error 10 else .ok (vl l)
def bit(b:Bool):V:=vn (if b then 1 else 0)
def mr(x y:V)(f:Int->Int->Except Nat V):Except Nat V :=match x.x,y.x with
 |.inl i,.inl j=>f i j
 |_,_=>.error 9
def GM(a b:a_):Bool:=Op.bytesLess a b
def plus(x y:V):Except Nat V :=match x.x,y.x with
 |.inl i,.inl j=>.ok (vn (wrap (i+j)))
 |.inr (.inl a),.inr (.inl b)=>if 30<a.length+b.length then .error 10 else .ok (vw (a++b))
 |.inr (.inr l),.inr (.inr m)=>dX (l++m)
 |_,_=>.error 9
def less(x y:V):Except Nat V :=match x.x,y.x with
 |.inl i,.inl j=>.ok (bit (decide (i<j)))
 |.inr (.inl a),.inr (.inl b)=>.ok (bit (GM a b))
 |_,_=>.error 9
def place(i:Int)(n:Nat):Except Nat Nat :=if i<0\/(n:Int)<=i then .error 7 else .ok i.toNat
def gd(x y:V):Except Nat V :=match y.x with
 |.inl i=>match x.x with
  |.inr (.inl b)=>match place i b.length with
   |.ok k=>.ok (vw ((b.drop k).take 1))
   |.error e=>.error e
  |.inr (.inr l)=>match place i l.length with
   |.ok k=>.ok (l[k]?.getD (vn 0))
   |.error e=>.error e
  |_=>.error 9
 |_=>.error 9
def make(op:Nat)(x y:V):Except Nat V :=if op=43 then plus x y
 else if op=45 then mr x y λi j=>.ok (vn (wrap (i-j)))
 else if op=42 then mr x y λi j=>.ok (vn (wrap (i*j)))
 else if op=47 then mr x y λi j=>if j=0 then .error 8 else .ok (vn (wrap (i.tdiv j)))
 else if op=60 then less x y
 else if op=61 then .ok (bit (same 3 x y))
 else if op=109 then mr x y λi j=>.ok (vn (min i j))
 else if op=120 then mr x y λi j=>.ok (vn (max i j))
 else gd x y
def size(x:V):Except Nat V :=match x.x with
 |.inl _=>.error 9
 |.inr (.inl b)=>.ok (vn b.length)
 |.inr (.inr l)=>.ok (vn l.length)
def fx:Int->List V->Except Nat V
 |a,[]=>.ok (vn a)
 |a,v :: r=>match v.x with
  |.inl i=>fx (wrap (a+i)) r
  |_=>.error 9
def jM(x:V):Except Nat V :=match x.x with
 |.inr (.inr l)=>fx 0 l
 |_=>.error 9
def ia(x:V):Except Nat V :=match x.x with
 |.inl i=>.ok (vw (Lib.itoa i))
 |.inr (.inl b)=>.ok (vw b)
 |_=>.error 9
end bY
section
namespace bY
variable{l:a_}{v:V}
def mu(c:UInt8):Bool:=c==45||dA c
def iL(R:a_->Option (V×a_)):Nat->a_->List V->Option (V×a_)
 |0,_,_=>none
 |k+1,l,b=>match R l with
  |none=>none
  |some (v,r)=>match r with
   |[]=>none
   |c :: r=>if c=125 then some (vl (b++[v]),r)else if c=44 then iL R k r (b++[v])else none
def rdNum(l:a_):Option (V×a_):=(dT (l.take (dC mu l))).map λi=>(vn i,l.drop (dC mu l))
def oz(l:a_):Option (V×a_):=(dM l).map λn=>(vw ((l.drop 1).take n),l.drop (n+2))
def oC(R:a_->Option (V×a_))(l:a_):Option (V×a_) :=if l.head?=some 125 then some (vl [],l.drop 1)else iL R 12 l []
def te:Nat->a_->Option (V×a_)
 |n,l=>if l.head?=some 39 then oz l else if l.head?=some 123 then(match n with|0=>none|m+1=>oC (te m) (l.drop 1))else rdNum l
def sA(l:a_):Option V :=match te 3 l with
 |some (v,[])=>some v
 |_=>none
/-! What is read. -/
def iM:Nat->V->Prop
 |n,v=>match v.x with
  |.inl i=>-9223372036854775808<=i/\i<=9223372036854775807
  |.inr (.inl b)=>b.length<=30/\∀c∈b,fH c=true/\c≠39
  |.inr (.inr l)=>match n with
   |0=>False
   |m+1=>l.length<=12/\∀u∈l,iM m u
def pw:∀n v,iM n v->mj n v=true
 |n,⟨.inl i⟩,h=>by unfold mj;rfl
 |n,⟨.inr (.inl b)⟩,h=>by unfold mj;rfl
 |0,⟨.inr (.inr l)⟩,h=>by unfold iM at h;exact h.elim
 |n+1,⟨.inr (.inr l)⟩,h=>by
  unfold iM at h;unfold mj;exact P_.2 (λx hx=>pw n x (h.2 x hx))
theorem jd{i:Int}(h:dT l=some i):Lib.itoa i=l/\Lib.parseIntB 64 l=.ok i:=by
 grind [dT]
def mU:∀n l k,eG n l=some k->k<n/\k<l.length/\l[k]?=some 39/\∀c∈l.take k,fH c=true/\c≠39
 |0,_,_,h=>by cases h
 |n+1,[],_,h=>by cases h
 |n+1,c :: r,k,h=>by
  unfold eG at h;split at h
  ·rename_i hc;cases h;exact⟨by omega,by simp,by simp[hc],λc hc=>by simp at hc⟩
  rename_i hc;split at h
  ·rename_i p;cases b:eG n r with
   |none=>rw[b]at h;cases h
   |some m =>
    rw[b]at h;cases h;obtain⟨h1,h2,e,j⟩:=mU n r m b;refine⟨by show m+1<n+1;omega,by show m+1<(c :: r).length;simp;omega,by simpa using e,λd hd=>?_⟩;rw[P5,aP]at hd;rcases hd with rfl|hd
    ·exact⟨p,hc⟩
    exact j d hd
  cases h
def tU:∀b r n,b.length<n->(∀c∈b,fH c=true/\c≠39)->eG n (b++39 :: r)=some b.length
 |[],r,0,h,_=>by omega
 |[],r,n+1,_,_=>by simp[eG]
 |c :: b,r,0,h,_=>by simp at h
 |c :: b,r,n+1,h,hb=>by
  have hc:=hb c Qa;have:=tU b r n (by simp at h;omega) (λd hd=>hb d (aT _ hd));simp[eG,hc.1,hc.2,this]
theorem DB(u):val (Lib.decDigits u) 0=u:=by
 induction u using Nat.strongRecOn with
 |ind u b =>
  rw[Lib.decDigits];by_cases h:u<10
  ·rw[Qq h];show 10*0+((UInt8.ofNat _).toNat-48)=u;rw[RJ];omega
  rw[dif_neg h,tP,b _ RM,RJ];omega
theorem my(u):∀c∈Lib.decDigits u,dA c=true:=by
 induction u using Nat.strongRecOn with
 |ind u e =>
  rw[Lib.decDigits];have hd:∀k,k<10->dA (UInt8.ofNat (48+k))=true:=λk b=>by
   match k,b with
   |0,_=>rfl
   |1,_=>rfl
   |2,_=>rfl
   |3,_=>rfl
   |4,_=>rfl
   |5,_=>rfl
   |6,_=>rfl
   |7,_=>rfl
   |8,_=>rfl
   |9,_=>rfl
  by_cases h:u<10
  ·rw[Qq h];intro c hc;rw[P1.1 hc];exact hd u h
  rw[dif_neg h];intro c hc;rcases aK.1 hc with hc|hc
  ·exact e _ RM c hc
  rw[P1.1 hc];exact hd _ RM
theorem rG(u):Lib.decDigits u≠[]:=by
 rw[Lib.decDigits];split
 ·simp
 simp
theorem tV(u)(h:u<=18446744073709551615):Lib.parseUintB 64 (Lib.decDigits u)=.ok u:=by
 unfold Lib.parseUintB;rw[ae (rG u)];have:=Oi _ 0 (my u) RM
 grind [DB]
theorem B9(i)(e:-9223372036854775808<=i)(h1:i<=9223372036854775807):Lib.parseIntB 64 (Lib.itoa i)=.ok i:=by
 unfold Lib.itoa;by_cases b:i<0
 ·rw[ag b];unfold Lib.parseIntB
  grind [tV]
 rw[ae b];cases hd:Lib.decDigits _ with
 |nil=>exact(rG _ hd).elim
 |cons c r =>
  have hc:=ow (my _ c (by rw[hd];simp));unfold Lib.parseIntB;simp only;rw[ae RM,<-hd,tV _ RM];simp only;rw[ae R5,ae RM,ae RM]
  congr 1
  omega
theorem gY(i)(b:-9223372036854775808<=i)(h1:i<=9223372036854775807):dT (Lib.itoa i)=some i:=by
 grind [dT,B9]
theorem jR(i):∀c∈Lib.itoa i,mu c=true:=by
 unfold Lib.itoa
 grind [mu,my]
theorem tf(i):Lib.itoa i≠[]:=by
 unfold Lib.itoa
 grind [rG]
def zU(p):∀a r,(∀c∈a,p c=true)->(∀c,r.head?=some c->p c=false)->dC p (a++r)=a.length
 |[],[],_,_=>rfl
 |[],c :: r,_,h=>by
  have:=h c rfl;simp[dC,this]
 |c :: a,r,h,h'=>by
  have hc:=h c Qa;have:=zU p a r (λd hd=>h d (aT _ hd)) h';simp[dC,hc,this]
def ln(r:a_):Prop:=∀c,r.head?=some c->mu c=false
def Kw:mu 39=false:=RZ
def GN:mu 123=false:=RZ
def B_(i)(b:-9223372036854775808<=i)(h1:i<=9223372036854775807)(r)(e:ln r):rdNum (Lib.itoa i++r)=some (vn i,r):=by
 unfold rdNum;rw[zU mu _ _ (jR i) e,Rx,gY i b h1,List.drop_left']
 ·rfl
 ·rfl
 rfl
def EO(i r):(Lib.itoa i++r).head? ≠ some 39/\(Lib.itoa i++r).head? ≠ some 123:=by
 cases h:Lib.itoa i with
 |nil=>exact(tf i h).elim
 |cons c t =>
  have:=jR i c SX;simp only[Qs,List.head?_cons];refine⟨λe=>?_,λe=>?_⟩
  ·cases e;rw[Kw]at this;cases this
  cases e;rw[GN]at this;cases this
def tY(R f):∀l b k r,l≠[]->l.length<=k->(∀u∈l,∀r,ln r->R (f u++r)=some (u,r))->iL R k (cJ (l.map f)++125 :: r) b=some (vl (b++l),r)
 |[],b,k,r,h,_,_=>(h rfl).elim
 |[u],b,0,r,_,h,_=>by simp at h
 |[u],b,k+1,r,_,_,j=>by
  have m:ln (125 :: r):=λc hc=>by cases hc;decide
  have:=j u R2 (125 :: r) m;simp[cJ,iL,this]
 |u :: v :: l,b,0,r,_,h,_=>by simp at h
 |u :: v :: l,b,k+1,r,_,p,j=>by
  have n:ln (44 :: (cJ ((v :: l).map f)++125 :: r)):=λc hc=>by cases hc;decide
  have h1:=j u R2 _ n;have y:=tY R f (v :: l) (b++[u]) k r R2 (by simp at p ⊢;omega) (λx hx=>j x (aT _ hx));have e:cJ ((u :: v :: l).map f)++125 :: r=f u++44 :: (cJ ((v :: l).map f)++125 :: r):=by simp[cJ]
  rw[e];unfold iL;rw[h1];simp only;rw[ae RZ,ag trivial,y];simp
theorem GO:∀n v r,iM n v->ln r->te n (wr n v++r)=some (v,r)
 |n,⟨.inl i⟩,r,h,j=>by
  unfold iM at h;obtain⟨a,b⟩:=EO i r;unfold wr te;simp only;rw[ae a,ae b];exact B_ i h.1 h.2 r j
 |n,⟨.inr (.inl b)⟩,r,h,j=>by
  unfold iM at h;have D:=tU b r 31 RM h.2;unfold wr te;simp only;have e:(39 :: (b++[39]))++r=39 :: (b++39 :: r):=R2;rw[e];rw[ag (show(39 :: (b++39 :: r)).head?=some 39 from rfl)];unfold oz dM;simp only[aN,D,QJ,Qm,aW];rw[Rx,<-List.drop_drop,List.drop_left']
  ·rfl
  ·rfl
  rfl
 |0,⟨.inr (.inr l)⟩,r,h,j=>by unfold iM at h;exact h.elim
 |n+1,⟨.inr (.inr l)⟩,r,h,j=>by
  unfold iM at h;unfold wr te;simp only;have e:(123 :: (cJ (l.map (wr n))++[125]))++r=123 :: (cJ (l.map (wr n))++125 :: r):=R2;rw[e,ae R2,ag (show(123 :: (cJ (l.map (wr n))++125 :: r)).head?=some 123 from rfl)];simp only[Qm,aW];unfold oC;cases l with
  |nil=>simp[cJ,vl]
  |cons u l =>
   have B:∀x∈u :: l,∀r,ln r->te n (wr n x++r)=some (x,r):=λx hx r j=>GO n x r (h.2 x hx) j;have C:(cJ ((u :: l).map (wr n))++125 :: r).head? ≠ some 125:=by
    have p:(wr n u).head? ≠ some 125/\wr n u≠[]:=by
     have hu:=h.2 u R2;obtain⟨x⟩:=u;rcases x with i|b|m
     ·unfold wr;simp only;refine⟨?_,tf i⟩;cases hi:Lib.itoa i with
      |nil=>exact(tf i hi).elim
      |cons c t =>
       have:=jR i c (by rw[hi];simp);intro e;cases e;have y:mu 125=false:=RZ;rw[y]at this;cases this
     ·grind [wr]
     grind [iM,wr]
    have z:∃t,cJ ((u :: l).map (wr n))++125 :: r=wr n u++t:=by
     cases l with
     |nil=>exact⟨125 :: r,by simp[cJ]⟩
     |cons v l=>exact⟨44 :: (cJ ((v :: l).map (wr n))++125 :: r),by simp[cJ]⟩
    obtain⟨t,E⟩:=z;rw[E];cases hc:wr n u with
    |nil=>exact(p.2 hc).elim
    |cons c q =>
     have:=p.1;rw[hc]at this;simpa using this
   rw[ae C,tY _ (wr n) _ [] 12 r R2 h.1 B];rfl
theorem GP(h:iM 3 v):sA (wr 3 v)=some v:=by
 have:=GO 3 v [] h (λc hc=>by cases hc)
 grind [sA]
def qD(R)(A:V->Prop)(f)(e:∀l v r,R l=some (v,r)->A v/\l=f v++r):∀k l b v r,iL R k l b=some (v,r)->∃m:List V,m≠[]/\m.length<=k/\v=vl (b++m)/\(∀u∈m,A u)/\l=cJ (m.map f)++125 :: r
 |0,_,_,_,_,h=>by cases h
 |k+1,l,b,v,r,h=>by
  unfold iL at h;cases hl:R l with
  |none=>rw[hl]at h;cases h
  |some q =>
   obtain⟨u,t⟩:=q;obtain⟨hA,rfl⟩:=e l u t hl;rw[hl]at h;cases t with
   |nil=>cases h
   |cons c t =>
    simp only at h;split at h
    ·rename_i hc;cases h;subst hc;exact⟨[u],by simp,by simp,rfl,λx hx=>by rw[P1.1 hx];exact hA,by simp[cJ]⟩
    split at h
    ·rename_i hc;subst hc;obtain⟨m,h1,h2,j,n,p⟩:=qD R A f e k t (b++[u]) v r h;refine⟨u :: m,by simp,by simp;omega,by rw[j];simp,λx hx=>?_,?_⟩
     ·rcases aP.1 hx with rfl|hx
      ·exact hA
      exact n x hx
     cases m with
     |nil=>exact(h1 rfl).elim
     |cons y m=>rw[p];simp[cJ]
    cases h
def zV:∀n l v r,te n l=some (v,r)->iM n v/\l=wr n v++r:=by
 have p:∀(n:Nat) (l:a_) (v:V) (r:a_),(l.head?=some 39/\oz l=some (v,r))\/rdNum l=some (v,r)->iM n v/\l=wr n v++r:=by
  rintro n l v r (⟨b,h⟩|h)
  ·unfold oz at h;cases l with
   |nil=>cases b
   |cons c t =>
    cases b;have e:dM (39 :: t)=eG 31 t:=by unfold dM;exact ag rfl
    rw[e]at h;cases C:eG 31 t with
    |none=>rw[C]at h;cases h
    |some k =>
     rw[C]at h;cases h;obtain⟨h1,h2,j,y⟩:=mU 31 t k C;refine⟨?_,?_⟩
     ·unfold vw iM;simp only[Qm,aW];exact⟨by rw[P7];omega,y⟩
     unfold vw wr;simp only[Qm,aW];have F:t=t.take k++39 :: t.drop (k+1):=by
      have z:t.drop k=39 :: t.drop (k+1):=by
       have E:=h2;rw[aR E];rw[aq E]at j;rw[aB j]
      rw[<-z];exact(Q9 k t).symm
     conv=>lhs;rw[F]
     simp
  unfold rdNum at h;cases B:dT _ with
  |none=>rw[B]at h;cases h
  |some i =>
   rw[B]at h;cases h;obtain⟨h1,h2⟩:=jd B;refine⟨?_,?_⟩
   ·unfold vn iM;exact iy _ _ h2
   unfold vn wr;simp only;rw[h1];exact(Q9 _ l).symm
 intro n
 induction n with
 |zero =>
  intro l v r h;unfold te at h;split at h
  ·rename_i b;exact p 0 l v r (.inl ⟨b,h⟩)
  split at h
  ·cases h
  exact p 0 l v r (.inr h)
 |succ n G =>
  intro l v r h;unfold te at h;split at h
  ·rename_i b;exact p _ l v r (.inl ⟨b,h⟩)
  split at h
  ·rename_i b;cases l with
   |nil=>cases b
   |cons c t =>
    cases b;simp only[Qm,aW]at h;unfold oC at h;split at h
    ·rename_i D;cases h;cases t with
     |nil=>cases D
     |cons d t =>
      cases D;refine⟨?_,?_⟩
      ·unfold vl iM;exact⟨by simp,λu hu=>by cases hu⟩
      unfold vl wr;simp[cJ]
    obtain⟨m,h1,h2,j,y,z⟩:=qD _ _ (wr n) (λl v r h=>G l v r h) 12 t [] v r h;subst j;refine⟨?_,?_⟩
    ·unfold vl iM;exact⟨by simpa using h2,by simpa using y⟩
    unfold vl wr;rw[z];simp
  exact p _ l v r (.inr h)
theorem qE(h:sA l=some v):iM 3 v/\l=wr 3 v:=by
 unfold sA at h;split at h
 ·rename_i u hu;cases h;obtain⟨h1,h2⟩:=zV 3 l v [] hu
  grind
 cases h
end bY
end
section
namespace bY
structure T where
 cq:Nat
 op:Nat
 name:a_
 is:Option V
 parts:List T
def T.none:T:=⟨0,0,[],.none,[]⟩
def T.cG(t:T)(i:Nat):T:=t.parts[i]?.getD T.none
def dL(l:a_):Bool:=(tok l).1==4&&(tok l).2==l.length
def keyOf(v:V):Except Nat (a_) :=match v.x with
 |.inl i=>.ok (107 :: Lib.itoa i)
 |.inr (.inl b)=>if dL b=true then .ok b else .error 9
 |_=>.error 9
def iX{α β S:Type}(r:Except Nat α×S)(k:α->S->Except Nat β×S):Except Nat β×S :=match r with
 |(.ok a,s)=>k a s
 |(.error e,s)=>(.error e,s)
def mZ{α S:Type}(E:α->S->Except Nat V×S):List α->List V->S->Except Nat V×S
 |[],b,s=>(dX b,s)
 |a :: r,b,s=>iX (E a s) λv s=>mZ E r (b++[v]) s
def jx{S:Type}(E:V->S->Except Nat V×S):List V->List V->S->Except Nat V×S
 |[],b,s=>(dX b,s)
 |a :: r,b,s=>iX (E a s) λv s =>
  match fg v with
  |.ok i=>if i=0 then jx E r b s else jx E r (b++[a]) s
  |.error e=>(.error e,s)
variable {σ:Type} (N:a_->σ->Except Nat V×σ)
def pR(b:a_)(s:Nat×σ):Except Nat V×(Nat×σ):=((N b s.2).1,(s.1,(N b s.2).2))
def fQ(E:T->Nat×σ->Except Nat V×(Nat×σ))(t:T)(s:Nat×σ):Except Nat V×(Nat×σ) :=iX (E (t.cG 0) s) λv s =>
  if t.cq=1\/t.cq=13 then iX (E (t.cG 1) s) λu s=>(make t.op v u,s)
  else if t.cq=5 then(make 45 (vn 0) v,s)
  else if t.cq=7 then
   (match keyOf v with
   |.ok k=>pR N k s
   |.error e=>(.error e,s))
  else if t.cq=9 then
   (match fg v with
   |.ok i=>if i=0 then E (t.cG 2) s else E (t.cG 1) s
   |.error e=>(.error e,s))
  else if t.cq=10 then(size v,s)
  else if t.cq=11 then(jM v,s)
  else if t.cq=12 then(ia v,s)
  else(.ok v,s)
def ev:Nat->T->Option V->Nat×σ->Except Nat V×(Nat×σ)
 |0,_,_,s=>(.error 11,s)
 |n+1,t,it,s =>
  if t.cq=1 then fQ N (λu s=>ev n u it s) t s
  else if s.1=0 then(.error 11,s)
  else if t.cq=2 then((match t.is with|some v=>.ok v|.none=>.error 11),(s.1-1,s.2))
  else if t.cq=3 then pR N t.name (s.1-1,s.2)
  else if t.cq=4 then((match it with|some v=>.ok v|.none=>.error 11),(s.1-1,s.2))
  else if t.cq=14 then
   (match ev n (t.cG 0) it (s.1-1,s.2) with
   |(.ok v,s)=>(.ok v,s)
   |(.error e,s)=>if e=7\/e=8\/e=9\/e=10 then ev n (t.cG 1) it s else(.error e,s))
  else if t.cq=15 then iX (ev n (t.cG 0) it (s.1-1,s.2)) λv s =>
   (match eK v with
   |.ok l=>mZ (λu s=>ev n (t.cG 1) (some u) s) l [] s
   |.error e=>(.error e,s))
  else if t.cq=16 then iX (ev n (t.cG 0) it (s.1-1,s.2)) λv s =>
   (match eK v with
   |.ok l=>jx (λu s=>ev n (t.cG 1) (some u) s) l [] s
   |.error e=>(.error e,s))
  else if t.cq=8 then mZ (λu s=>ev n u it s) t.parts [] (s.1-1,s.2)
  else fQ N (λu s=>ev n u it s) t (s.1-1,s.2)
def jy(k:Nat):Nat :=if k=1\/k=13\/k=14\/k=15\/k=16 then 2 else if k=9 then 3 else if k=2\/k=3\/k=4 then 0 else 1
def ib:Nat->Bool->T->Bool
 |0,_,_=>false
 |n+1,b,t =>
  decide (1<=t.cq)&&decide (t.cq<=16)&&(t.cq==8||t.parts.length==jy t.cq)&&decide (t.parts.length<=200) &&
  (t.cq != 1||[43,45,42,47,60,61].contains t.op)&&(t.cq != 13||[109,120,64].contains t.op)&&(t.cq != 2||t.is.isSome)&&(t.cq != 4||b) &&
  (if t.cq=15\/t.cq=16 then ib n b (t.cG 0)&&ib n true (t.cG 1)else t.parts.all (ib n b))
end bY
end
namespace bY
abbrev RT:=Except (Nat×Nat) (Nat×List T)
def cZ(r:RT)(f:Nat->List T->RT):RT :=match r with
 |.ok (j,ts)=>f j ts
 |.error e=>.error e
def fV:RT->Except (Nat×Nat) Nat
 |.ok (j,_)=>.ok j
 |.error e=>.error e
def eQ(l:a_)(t:a_)(i:Nat)(ts:List T):RT :=if tx l i=t then .ok (fC l i,ts)else .error (3,i)
def m_(l:a_):Option V :=match (tok l).1 with
 |2=>some (vn ((dT (l.take (tok l).2)).getD 0))
 |3=>some (vw ((l.drop 1).take ((tok l).2-2)))
 |_=>.none
def byteOf(t:a_):Nat:=if t=[109,105,110]then 109 else if t=[109,97,120]then 120 else 64
def ij(l:a_)(k i:Nat)(ts:List T):T :=⟨k,if k=13 then byteOf (tx l i)else 0,if k=3 then tx l i else[],m_ (l.drop i),ts⟩
def iT(l:a_)(i:Nat)(ts us:List T):T:=⟨1,((tx l i).headD 0).toNat,[],.none,ts++us⟩
def gq(l:a_)(k i:Nat)(R F W:Nat->RT)(I:Nat->List T->RT):RT :=if k=5 then F i
 else if k=6 then cZ (R i) (eQ l [41])
 else if k=7 then cZ (R i) (eQ l [93])
 else if k=8 then(if tx l i=[125]then .ok (fC l i,[])else cZ (R i) I)
 else if k=9 then cZ (cZ (R i) (eQ l [116,104,101,110])) λj ts=>cZ (cZ (R j) (eQ l [101,108,115,101])) λj us=>cZ (F j) λj vs=>.ok (j,ts++(us++vs))
 else if k=10\/k=11\/k=12 then cZ (eQ l [40] i []) λj _=>cZ (R j) (eQ l [41])
 else if k=13\/k=14 then cZ (eQ l [40] i []) λj _=>cZ (cZ (R j) (eQ l [44])) λj ts=>cZ (cZ (R j) (eQ l [41])) λj us=>.ok (j,ts++us)
 else if k=15\/k=16 then cZ (eQ l [40] i []) λj _=>cZ (cZ (R j) (eQ l [44])) λj ts=>cZ (cZ (W j) (eQ l [41])) λj us=>.ok (j,ts++us)
 else .ok (i,[])
def PT(l:a_):Nat->Nat->Nat->Nat->Nat->List T->RT
 |0,_,_,_,_,_=>.error (0,0)
 |n+1,p,e,b,i,m =>
  if p=0 then cZ (PT l n 1 e b i []) λj ts=>if fY l j [60,61]=true then cZ (PT l n 1 e b (fC l j) []) λk us=>.ok (k,[iT l j ts us])else .ok (j,ts)
  else if p=1 then cZ (PT l n 2 e b i []) λj ts=>PT l n 4 e b j ts
  else if p=2 then cZ (PT l n 3 e b i []) λj ts=>PT l n 5 e b j ts
  else if p=3 then
   (if cq l i b=0 then .error (3,i)else if e=20 then .error (4,i)
   else cZ (gq l (cq l i b) (fC l i) (λj=>PT l n 0 (e+1) b j []) (λj=>PT l n 3 (e+1) b j []) (λj=>PT l n 0 (e+1) (b+1) j []) (λj ts=>PT l n 6 (e+1) b j ts)) λj ts=>.ok (j,[ij l (cq l i b) i ts]))
  else if p=4 then(if fY l i [43,45]=true then cZ (PT l n 2 e b (fC l i) []) λj us=>PT l n 4 e b j [iT l i m us]else .ok (i,m))
  else if p=5 then(if fY l i [42,47]=true then cZ (PT l n 3 e b (fC l i) []) λj us=>PT l n 5 e b j [iT l i m us]else .ok (i,m))
  else(if tx l i=[44]then cZ (PT l n 0 e b (fC l i) []) λj us=>PT l n 6 e b j (m++us)else eQ l [125] i m)
theorem eu(r f g)(h:∀j ts,fV (f j ts)=g j):fV (cZ r f)=andThen (fV r) g:=by
 rcases r with e|⟨j,ts⟩
 ·rfl
 exact h j ts
def lg(l t i ts):fV (eQ l t i ts)=cv l t i:=by
 unfold eQ cv;split<;>rfl
def Aa(l k i R F W I R' F' p b)(u:∀j,fV (R j)=R' j)(hF:∀j,fV (F j)=F' j)(y:∀j,fV (W j)=b j)(z:∀j ts,fV (I j ts)=p j):fV (gq l k i R F W I)=parts l k i R' F' p b:=by
 have m:=lg l;have n:∀t j,fV _=andThen (R' j) _:=λt j=>by
  rw[eu _ _ _ (m t),u]
 have C:∀t j,fV _=andThen (b j) _:=λt j=>by
  rw[eu _ _ _ (m t),y]
 have B:∀(r:RT) (ts:List T->List T),fV (cZ r λj us=>.ok (j,ts us))=fV r:=λr ts=>by
  rcases r with e|⟨j,us⟩<;>rfl
 unfold gq parts;split
 ·grind
 split
 ·grind
 split
 ·grind
 split
 ·split
  ·rfl
  grind [eu]
 split
 ·rw[eu (g:=λj=>andThen (andThen (R' j) (cv l [101,108,115,101])) F'),n];intro j ts;rw[eu (g:=F'),n]
  simp_all
 split
 ·grind [eu]
 split
 ·rw[eu (g:=λj=>andThen (andThen (R' j) (cv l [44])) λj=>andThen (R' j) _),m];intro j ts;rw[eu (g:=λj=>andThen (R' j) _),n]
  simp_all
 split
 ·rw[eu (g:=λj=>andThen (andThen (R' j) (cv l [44])) λj=>andThen (b j) _),m];intro j ts;rw[eu (g:=λj=>andThen (b j) _),n]
  simp_all
 rfl
def oJ(l):∀n u m p i y,fV (PT l n u m p i y)=P l n u m p i:=by
 intro n
 induction n with
 |zero=>intros;rfl
 |succ n b =>
  intro u m p i y;have z:∀(r:RT) (ts:List T->List T),fV (cZ r λj us=>.ok (j,ts us))=fV r:=λr ts=>by
   rcases r with e|⟨j,us⟩<;>rfl
  unfold PT P;split
  ·rw[eu (g:=λj=>if fY l j [60,61]=true then P l n 1 m p (fC l j)else .ok j),b];intro j ts;split
   ·rw[z _ (λus=>[iT l j ts us]),b]
   rfl
  split
  ·rw[eu (g:=λj=>P l n 4 m p j),b];intro j ts;exact b ..
  split
  ·rw[eu (g:=λj=>P l n 5 m p j),b];intro j ts;exact b ..
  split
  ·split
   ·rfl
   split
   ·rfl
   rw[z _ (λts=>[ij l _ i ts])];exact Aa _ _ _ _ _ _ _ _ _ _ _ (λ_=>b ..) (λ_=>b ..) (λ_=>b ..) (λ_ _=>b ..)
  split
  ·split
   ·rw[eu (g:=λj=>P l n 4 m p j),b];intro j ts;exact b ..
   rfl
  split
  ·split
   ·rw[eu (g:=λj=>P l n 5 m p j),b];intro j ts;exact b ..
   rfl
  split
  ·rw[eu (g:=λj=>P l n 6 m p j),b];intro j ts;exact b ..
  exact lg ..
def gG(l:a_):T :=match PT l (8*l.length+5) 0 0 0 (skip l 0) [] with
 |.ok (_,ts)=>ts.headD T.none
 |.error _=>T.none
end bY
