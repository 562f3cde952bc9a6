/- Out of Spec. -/
import Derived.Lib.ParseIntB
import Derived.Lib.ItoaNum
import Derived.Lib.Bytealg
import Derived.RowKit
import Derived.Test.YtpekpdimdelncaaGreatDoorPA
set_option linter.unusedVariables false
set_option linter.defProp false
namespace Go.Proofs.YtpekpdimdelncaaGreatDoor
section
namespace bY
variable{l:a_}{k:Nat}
def wZ(c:Int):Bool:=decide (48<=c)&&decide (c<=57)
def Ao(c:Int):Bool:=decide (97<=c)&&decide (c<=122)
def Pv(c:Int):Bool:=Ao c||wZ c
def dH(c:UInt8):Bool:=wZ c.toNat
def eE(c:UInt8):Bool:=Ao c.toNat
def eM(c:UInt8):Bool:=Pv c.toNat
def dJ(p:UInt8->Bool):a_->Nat
 |[]=>0
 |c::r=>if p c=true then dJ p r+1 else 0
theorem ng(p):∀l,dJ p l<=l.length:=by
 intro l
 induction l with
 |nil=>simp[dJ]
 |cons c r b=>simp only[dJ];split<;>simp<;>omega
def pH(p):∀l k (h:k<l.length),k<=dJ p l->p l[k]=true->k+1<=dJ p l:=by
 intro l
 induction l with
 |nil=>intro k h;simp at h
 |cons c r m =>
  intro k h b e;simp only[dJ]at b ⊢;cases k with
  |zero=>simp at e;rw[ag e];omega
  |succ k =>
   by_cases j:p c=true
   ·rw[ag j]at b ⊢;have:=m k Ts R5 T';omega
   rw[ae j]at b;omega
def jx(p):∀l k,k<=dJ p l->(∀h:k<l.length,p l[k]=false)->dJ p l=k:=by
 intro l
 induction l with
 |nil=>intro k b _;simp[dJ]at b ⊢;omega
 |cons c r m =>
  intro k b j;simp only[dJ]at b ⊢;cases k with
  |zero =>
   have:=j S5;simp at this;simp[this]
  |succ k =>
   by_cases e:p c=true
   ·rw[ag e]at b ⊢;rw[m k R5 (λh=>j (Nat.succ_lt_succ h))]
   rw[ae e]at b;omega
def ib(l:a_):Bool :=l==[105,102]||l==[116,104,101,110]||l==[101,108,115,101]||l==[105,116]||l==[116,114,121]||l==[109,105,110]||l==[109,97,120]||l==[115,105,122,101]||l==[97,116]||l==[101,97,99,104]||l==[115,111,109,101]||l==[115,117,109]||l==[119,111,114,100]
def d_(l:a_):Option Int :=match Lib.parseIntB 64 l with
 |.ok v=>if Lib.itoa v==l then some v else none
 |_=>none
def fW(c:UInt8):Bool:=decide (32<=(c.toNat:Int))&&decide ((c.toNat:Int)<=126)
def eN:Nat->a_->Option Nat
 |0,_=>none
 |_+1,[]=>none
 |n+1,c::r=>if c=39 then some 0 else if fW c=true then(eN n r).map (·+1)else none
def dS:a_->Option Nat
 |c::r=>if c=39 then eN 31 r else none
 |[]=>none
def jy(c:UInt8):Bool:=decide (0<=Lib.indexByte [40,41,91,93,123,125,44,43,45,42,47,60,61] c)
def fh:Option Nat->Nat×Nat
 |some n=>(3,n+2)
 |none=>(1,0)
def tok:a_->Nat×Nat
 |[]=>(0,0)
 |c::r =>
  if dH c=true then(if(d_ ((c::r).take (dJ dH (c::r)))).isSome then(2,dJ dH (c::r)) else(1,0))
  else if eE c=true then(if ib ((c::r).take (dJ eM (c::r)))=true then(5,dJ eM (c::r))else if 8<dJ eM (c::r) then(1,0) else(4,dJ eM (c::r)))
  else if c=39 then fh (dS (c::r))
  else if jy c=true then(6,1) else(1,0)
def gy(l c r)(h:l=c::r):tok l =if dH c=true then(if(d_ (l.take (dJ dH l))).isSome then(2,dJ dH l) else(1,0))
  else if eE c=true then(if ib (l.take (dJ eM l))=true then(5,dJ eM l)else if 8<dJ eM l then(1,0) else(4,dJ eM l))
  else if c=39 then fh (dS l)
  else if jy c=true then(6,1) else(1,0):=by
 subst h;rfl
def blank(c:UInt8):Bool:=(c.toNat:Int)==32
def skip(l:a_)(i:Nat):Nat:=i+dJ blank (l.drop i)
theorem pI(l i)(h:i<=l.length):skip l i<=l.length:=by
 grind [skip,List.length_drop,ng]
theorem Ej(l i):i<=skip l i:=aI _ _
theorem xD(l k)(h:k<l.length)(b:blank l[k]=true):skip l (k+1)=skip l k:=by
 grind [skip,List.drop_eq_getElem_cons,dJ]
theorem pJ(l k)(h:∀h:k<l.length,blank l[k]=false):skip l k=k:=by
 grind [skip,List.drop_eq_getElem_cons,dJ,List.drop_eq_nil_of_le]
def nh(l:a_)(k:Nat):Prop:=1<=k/\k<=32/\dS l=(eN (32-k) (l.drop k)).map (·+(k-1))
def w_(l)(h:Lib.hasPrefix l [39]=true):nh l 1:=by
 refine⟨by omega,by omega,?_⟩;cases l with
 |nil=>simp[Lib.hasPrefix]at h
 |cons c r =>
  simp[Lib.hasPrefix]at h;subst h;simp[dS]
def Ap(l)(h:Lib.hasPrefix l [39]=false):dS l=none:=by
 cases l with
 |nil=>rfl
 |cons c r =>
  simp only[dS];rw[ae (λe=>by subst e;simp[Lib.hasPrefix]at h)]
def Fw(h:nh l k)(b:l.length<=k\/31<k):dS l=none:=by
 obtain⟨h1,h2,e⟩:=h;rw[e];rcases b with b|b
 ·rw[aT b];cases 32-k<;>rfl
 rw[show 32-k=0 by omega];rfl
def Fx(h:nh l k)(j:k<l.length)(m:k<=31)(e:l[k]=39):dS l=some (k-1):=by
 obtain⟨h1,h2,b⟩:=h;rw[b,aU j,show 32-k=(31-k)+1 by omega];simp[eN,e]
theorem Fy(h:nh l k)(e:k<l.length)(m:k<=31)(j:¬l[k]=39)(n:fW l[k]=false):dS l=none:=by
 obtain⟨h1,h2,b⟩:=h;rw[b,aU e,show 32-k=(31-k)+1 by omega]
 grind [eN]
theorem Cm(h:nh l k)(j:k<l.length)(n:k<=31)(e:¬l[k]=39)(m:fW l[k]=true):nh l (k+1):=by
 obtain⟨h1,h2,b⟩:=h;refine⟨by omega,by omega,?_⟩;rw[b,aU j,show 32-k=(31-k)+1 by omega,show 32-(k+1)=31-k by omega];simp only[eN,e,Ry,m,aO,Option.map_map]
 congr 1
 grind
def Hu:∀n l k,eN n l=some k->k<l.length:=by
 intro n
 induction n with
 |zero=>intro l k h;simp[eN]at h
 |succ n e =>
  intro l k h;cases l with
  |nil=>simp[eN]at h
  |cons c r =>
   simp only[eN]at h;split at h
   ·simp at h;subst h;simp
   split at h
   ·cases b:eN n r with
    |none=>rw[b]at h;simp at h
    |some m=>rw[b]at h;simp at h;subst h;have:=e r m b;simp;omega
   simp at h
def pK{n:Nat}(h:dS l=some n):n+2<=l.length:=by
 cases l with
 |nil=>simp[dS]at h
 |cons c r =>
  simp only[dS]at h;split at h
  ·have:=Hu _ _ _ h;simp;omega
  simp at h
theorem Cn(l)(h:∀v,Lib.parseIntB 64 l≠.ok v):d_ l=none:=by
 grind [d_]
def iF(l v)(h:Lib.parseIntB 64 l=.ok v):-9223372036854775808<=v/\v<=9223372036854775807:=by
 have b:(2:Nat)^(64-1)=9223372036854775808:=S4;cases l with
 |nil=>simp[Lib.parseIntB]at h
 |cons c r =>
  simp only[Lib.parseIntB,b]at h;cases hu:Lib.parseUintB 64 _ with
  |ok u =>
   rw[hu]at h;simp only at h;by_cases h1:¬c.toNat=45/\9223372036854775808<=u
   ·rw[ag h1]at h;cases h
   rw[ae h1]at h;by_cases h2:c.toNat=45/\9223372036854775808<u
   ·rw[ag h2]at h;cases h
   rw[ae h2]at h;injection h with h
   subst h;split<;>omega
  |_=>rw[hu]at h;cases h
def tx(l:a_)(i:Nat):a_:=(l.drop i).take (tok (l.drop i)).2
def fX(l:a_)(i:Nat):Nat:=skip l (i+(tok (l.drop i)).2)
def gq(l:a_)(i:Nat)(b:a_):Bool :=match tx l i with
 |[c]=>(tok (l.drop i)).1==6&&decide (0<=Lib.indexByte b c)
 |_=>false
def fC(t:a_)(b:Nat):Nat :=if t=[105,116] then(if 0<b then 4 else 0)
 else if t=[105,102]then 9
 else if t=[115,105,122,101]then 10
 else if t=[115,117,109]then 11
 else if t=[119,111,114,100]then 12
 else if t=[109,105,110]\/t=[109,97,120]\/t=[97,116]then 13
 else if t=[116,114,121]then 14
 else if t=[101,97,99,104]then 15
 else if t=[115,111,109,101]then 16
 else 0
def jV(t:a_):Nat :=if t=[45]then 5 else if t=[40]then 6 else if t=[91]then 7 else if t=[123]then 8 else 0
def kindOf(k:Nat)(t:a_)(b:Nat):Nat :=if k=2\/k=3 then 2 else if k=4 then 3 else if k=5 then fC t b else if k=6 then jV t else 0
def cu(l:a_)(i b:Nat):Nat:=kindOf (tok (l.drop i)).1 (tx l i) b
theorem Co(l):(tok l).2<=l.length:=by
 cases l with
 |nil=>simp[tok]
 |cons c r =>
  rw[gy _ c r rfl];have h1:=ng dH (c::r);have h2:=ng eM (c::r);split
  ·split<;>simp<;>simp at h1<;>omega
  split
  ·split
   ·exact h2
   split
   ·simp
   exact h2
  split
  ·cases b:dS _ with
   |none=>simp[fh]
   |some n=>have:=pK b;simpa[fh]using this
  split<;>simp
theorem Hv(l)(h:(tok l).1=6):∃c r,l=c::r/\tok l=(6,1):=by
 cases l with
 |nil=>simp[tok]at h
 |cons c r =>
  refine⟨c,r,rfl,?_⟩;rw[gy _ c r rfl]at h ⊢;split at h
  ·split at h<;>simp at h
  split at h
  ·split at h
   ·simp at h
   split at h<;>simp at h
  split at h
  ·cases b:dS _<;>rw[b]at h<;>simp[fh]at h
  split at h
  ·simp_all
  simp at h
theorem fu(l i)(h:i<=l.length):fX l i<=l.length:=by
 apply pI
 grind [Co]
theorem yT(l:a_)(i)(h:i<=l.length):i+(tok (l.drop i)).2<=l.length:=by
 grind [Co]
def dM(s:ba)(k)(h:k<s.size):s[k]=s.1.1[k]' Ts:=by
 simp[ByteArray.getElem_eq_getElem_data]
end bY
namespace bY
variable{r:Except (Nat×Nat) Nat}{f:Nat->Except (Nat×Nat) Nat}{k i:Nat}{l t:a_}
def cD(l:a_)(t:a_)(i:Nat):Except (Nat×Nat) Nat :=if tx l i=t then .ok (fX l i)else .error (3,i)
def andThen(r:Except (Nat×Nat) Nat)(f:Nat->Except (Nat×Nat) Nat):Except (Nat×Nat) Nat :=match r with
 |.ok j=>f j
 |.error e=>.error e
def parts(l:a_)(k i:Nat)(R F I W:Nat->Except (Nat×Nat) Nat):Except (Nat×Nat) Nat :=if k=5 then F i
 else if k=6 then andThen (R i) (cD l [41])
 else if k=7 then andThen (R i) (cD l [93])
 else if k=8 then(if tx l i=[125]then .ok (fX l i)else andThen (R i) I)
 else if k=9 then andThen (andThen (R i) (cD l [116,104,101,110])) λj=>andThen (andThen (R j) (cD l [101,108,115,101])) F
 else if k=10\/k=11\/k=12 then andThen (cD l [40] i) λj=>andThen (R j) (cD l [41])
 else if k=13\/k=14 then andThen (cD l [40] i) λj=>andThen (andThen (R j) (cD l [44])) λj=>andThen (R j) (cD l [41])
 else if k=15\/k=16 then andThen (cD l [40] i) λj=>andThen (andThen (R j) (cD l [44])) λj=>andThen (W j) (cD l [41])
 else .ok i
def P(l:a_):Nat->Nat->Nat->Nat->Nat->Except (Nat×Nat) Nat
 |0,_,_,_,_=>.error (0,0)
 |n+1,m,e,b,i =>
  if m=0 then andThen (P l n 1 e b i) λj=>if gq l j [60,61]=true then P l n 1 e b (fX l j)else .ok j
  else if m=1 then andThen (P l n 2 e b i) λj=>P l n 4 e b j
  else if m=2 then andThen (P l n 3 e b i) λj=>P l n 5 e b j
  else if m=3 then
   (if cu l i b=0 then .error (3,i)else if e=20 then .error (4,i)
   else parts l (cu l i b) (fX l i) (λj=>P l n 0 (e+1) b j) (λj=>P l n 3 (e+1) b j) (λj=>P l n 6 (e+1) b j) (λj=>P l n 0 (e+1) (b+1) j))
  else if m=4 then(if gq l i [43,45]=true then andThen (P l n 2 e b (fX l i)) λj=>P l n 4 e b j else .ok i)
  else if m=5 then(if gq l i [42,47]=true then andThen (P l n 3 e b (fX l i)) λj=>P l n 5 e b j else .ok i)
  else(if tx l i=[44]then andThen (P l n 0 e b (fX l i)) λj=>P l n 6 e b j else cD l [125] i)
def xE(l:a_):Except (Nat×Nat) Nat->Nat×Nat
 |.ok j=>if(tok (l.drop j)).1=0 then(0,0) else(3,j)
 |.error e=>e
def check(l:a_):Nat×Nat :=if 200<l.length then(2,0)
 else xE l (P l (8*l.length+5) 0 0 0 (skip l 0))
def nd(b:Nat):Nat:=if b=0 then 4 else if b=1 then 3 else if b=2 then 2 else 1
theorem andThen_ok(h:andThen r f=.ok k):∃j,r=.ok j/\f j=.ok k:=by
 cases r with
 |ok j=>exact⟨j,rfl,h⟩
 |error e=>cases h
theorem rT(h:cD l t i=.ok k):tx l i=t/\k=fX l i:=by
 grind [cD]
theorem nt(h:tx l i≠[]):1<=(tok (l.drop i)).2:=by
 grind [tx]
theorem gu(h:1<=(tok (l.drop i)).2):i+1<=fX l i:=by
 grind [fX,Ej]
def fP(h:cD l t i=.ok k)(b:t≠[])(hi:i<=l.length):i+1<=k/\k<=l.length:=by
 obtain⟨h1,rfl⟩:=rT h;exact⟨gu (nt (by rw[h1];exact b)),fu l i hi⟩
theorem one_pos{b:a_}(h:gq l i b=true):1<=(tok (l.drop i)).2:=by
 grind [gq,nt]
def kH(p c r)(h:p c=true):1<=dJ p (c::r):=by
 simp[dJ,h]
theorem qL(l)(h:2<=(tok l).1):1<=(tok l).2:=by
 cases l with
 |nil=>simp[tok]at h
 |cons c r =>
  rw[gy _ c r rfl]at h ⊢;by_cases h1:dH c=true
  ·rw[ag h1]at h ⊢;have:=kH dH c r h1;split at h
   ·rename_i h2;rw[ag h2];exact this
   simp at h
  rw[ae h1]at h ⊢;by_cases h2:eE c=true
  ·rw[ag h2]at h ⊢;have:=kH eM c r UB;split
   ·exact this
   rename_i b;rw[ae b]at h;split
   ·rename_i e;rw[ag e]at h;simp at h
   exact this
  rw[ae h2]at h ⊢;split
  ·rename_i b;rw[ag b]at h;cases j:dS _ with
   |none=>rw[j]at h;simp[fh]at h
   |some n=>simp[fh]
  rename_i b;rw[ae b]at h;split
  ·simp
  rename_i e;rw[ae e]at h;simp at h
theorem qM{i b:Nat}(h:cu l i b≠0):1<=(tok (l.drop i)).2:=by
 grind [cu,kindOf,qL]
theorem Cy{l:a_}{k i j:Nat}{R F I W:Nat->Except (Nat×Nat) Nat}(h:parts l k i R F I W=.ok j)(hi:i<=l.length)
  (D:∀a b,R a=.ok b->a<=l.length->a<=b/\b<=l.length) (hF:∀a b,F a=.ok b->a<=l.length->a<=b/\b<=l.length)
  (C:∀a b,I a=.ok b->a<=l.length->a<=b/\b<=l.length) (E:∀a b,W a=.ok b->a<=l.length->a<=b/\b<=l.length):i<=j/\j<=l.length:=by
 have B:∀(t:a_) (a b:Nat),t≠[]->cD l t a=.ok b->a<=l.length->a<=b/\b<=l.length:=λt a b z h y=>by
  have:=fP h z y;omega
 unfold parts at h;by_cases m:k=5
 ·grind
 rw[ae m]at h;by_cases n:k=6
 ·grind [andThen_ok]
 rw[ae n]at h;by_cases p:k=7
 ·grind [andThen_ok]
 rw[ae p]at h;by_cases u:k=8
 ·rw[ag u]at h;by_cases e:tx l i=[125]
  ·rw[ag e]at h;cases h;have:=gu (nt (l:=l) (i:=i) (by rw[e];simp));exact⟨by omega,fu l i hi⟩
  grind [andThen_ok]
 grind [andThen_ok]
def kS(l):∀n e y u i j,P l n e y u i=.ok j->i<=l.length->i+(if e<=3 then 1 else 0)<=j/\j<=l.length:=by
 intro n
 induction n with
 |zero=>intro e y u i j h;simp[P]at h
 |succ n G =>
  intro e y u i j h hi;have m:∀(e y u i j:Nat),P l n e y u i=.ok j->i<=l.length->i<=j/\j<=l.length:=λe y u i j h hi=>by
   have:=G e y u i j h hi;omega
  have E:∀(e y u i j:Nat),e<=3->P l n e y u i=.ok j->i<=l.length->i+1<=j/\j<=l.length:=λe y u i j D h hi=>by
   have:=G e y u i j h hi;rw[ag D]at this;exact this
  rw[P]at h;by_cases t0:e=0
  ·rw[ag t0]at h;obtain⟨a,h1,h2⟩:=andThen_ok h;have p:=E _ _ _ _ _ R5 h1 hi;subst t0;split at h2
   ·have z:=fu l a p.2;have I:=m _ _ _ _ _ h2 z;have J:=Ej l (a+(tok (l.drop a)).2);have K:fX l a=skip l _:=rfl;simp;omega
   cases h2;simp;omega
  rw[ae t0]at h;by_cases t1:e=1
  ·rw[ag t1]at h;obtain⟨a,h1,h2⟩:=andThen_ok h;have p:=E _ _ _ _ _ R5 h1 hi;have z:=m _ _ _ _ _ h2 p.2;subst t1;simp;omega
  rw[ae t1]at h;by_cases t2:e=2
  ·rw[ag t2]at h;obtain⟨a,h1,h2⟩:=andThen_ok h;have p:=E _ _ _ _ _ R5 h1 hi;have z:=m _ _ _ _ _ h2 p.2;subst t2;simp;omega
  rw[ae t2]at h;by_cases t3:e=3
  ·rw[ag t3]at h;by_cases C:cu l i u=0
   ·rw[ag C]at h;cases h
   rw[ae C]at h;split at h
   ·cases h
   have p:=gu (qM C);have z:=Cy h (fu l i hi) (λa b=>m _ _ _ a b) (λa b=>m _ _ _ a b) (λa b=>m _ _ _ a b) (λa b=>m _ _ _ a b);subst t3;simp;omega
  rw[ae t3]at h;have D:¬e<=3:=R5;rw[ae D];by_cases t4:e=4
  ·rw[ag t4]at h;split at h
   ·rename_i B;obtain⟨a,h1,h2⟩:=andThen_ok h;have F:=gu (one_pos B);have p:=m _ _ _ _ _ h1 (fu l i hi);have z:=m _ _ _ _ _ h2 p.2;omega
   cases h;omega
  rw[ae t4]at h;by_cases t5:e=5
  ·rw[ag t5]at h;split at h
   ·rename_i B;obtain⟨a,h1,h2⟩:=andThen_ok h;have F:=gu (one_pos B);have p:=m _ _ _ _ _ h1 (fu l i hi);have z:=m _ _ _ _ _ h2 p.2;omega
   cases h;omega
  rw[ae t5]at h;split at h
  ·rename_i B;obtain⟨a,h1,h2⟩:=andThen_ok h;have F:=gu (nt (l:=l) (i:=i) (by rw[B];simp));have p:=m _ _ _ _ _ h1 (fu l i hi);have z:=m _ _ _ _ _ h2 p.2;omega
  have:=fP h S5 hi;omega
end bY
namespace bY
variable{c:UInt8}
def iU:a_->Nat->Option Nat
 |[],n=>some n
 |c::r,n=>if dH c=true then(if(9223372036854775807-(c.toNat-48)) / 10<n then none else iU r (10*n+(c.toNat-48)))else none
def dO(l:a_):Option Nat :=if l=[]\/(l.head?=some 48/\1<l.length)then none else iU l 0
def val:a_->Nat->Nat
 |[],n=>n
 |c::r,n=>val r (10*n+(c.toNat-48))
def CC:∀l n,n<=val l n:=by
 intro l
 induction l with
 |nil=>intro n;exact af _
 |cons c r b=>intro n;have:=b (10*n+(c.toNat-48));simp only[val];omega
theorem oW(h:dH c=true):48<=c.toNat/\c.toNat<=57:=by
 grind [dH,wZ]
def qu:∀l n,(∀c∈l,dH c=true)->n<=9223372036854775807->iU l n=if val l n<=9223372036854775807 then some (val l n)else none:=by
 intro l
 induction l with
 |nil=>intro n _ h;simp[iU,val,h]
 |cons c r p =>
  intro n hd y;have b:=hd c S5;have u:=oW b;have z:=CC r (10*n+(c.toNat-48));have e:val (c::r) n=val r _:=rfl;have j:iU (c::r) n=if dH c=true then(if(9223372036854775807-(c.toNat-48)) / 10<n then none else iU r _)else none:=rfl;rw[e,j,ag b];by_cases h:(9223372036854775807-(c.toNat-48)) / 10<n
  ·have m:¬val r (10*n+(c.toNat-48))<=9223372036854775807:=R5;rw[ag h,ae m]
  rw[ae h];exact p _ (λx hx=>hd x TN) R5
def Px:∀l n,(∀c∈l,dH c=true)->n<=18446744073709551615->Lib.parseUintM 18446744073709551615 n l=if val l n<=18446744073709551615 then .ok (val l n)else .range:=by
 intro l
 induction l with
 |nil =>
  intro n _ h;have b:val [] n=n:=rfl;rw[b,ag h];rfl
 |cons c r p =>
  intro n hd u;have m:=hd c S5;have j:=oW m;have y:=CC r (10*n+(c.toNat-48));have b:val (c::r) n=val r _:=rfl;rw[b,Lib.parseUintM,ag j,show n*10+(c.toNat-48)=10*n+(c.toNat-48) by omega];by_cases h1:1844674407370955162<=n
  ·have e:¬val r (10*n+(c.toNat-48))<=18446744073709551615:=R5;rw[ag h1,ae e]
  rw[ae h1];by_cases h2:18446744073709551615<10*n+(c.toNat-48)
  ·have e:¬val r (10*n+(c.toNat-48))<=18446744073709551615:=R5;rw[ag h2,ae e]
  rw[ae h2];exact p _ (λx hx=>hd x TN) R5
def uy(l c n):val (l++[c]) n=10*val l n+(c.toNat-48):=by
 induction l generalizing n with
 |nil=>rfl
 |cons d r b=>exact b _
def Ek:∀l,(∀c∈l,dH c=true)->l≠[]->(l.head? ≠ some 48\/l.length=1)->Lib.decDigits (val l 0)=l:=by
 intro l
 induction h:l.length using Nat.strongRecOn generalizing l with
 |ind k u =>
  intro hd n b;obtain⟨r,c,rfl⟩:∃r c,l=r++[c]:=⟨l.dropLast,l.getLast n,(List.dropLast_concat_getLast n).symm⟩;have z:=oW (hd c S5);have j:UInt8.ofNat c.toNat=c:=S5;cases r with
  |nil =>
   have e:val ([]++[c]) 0=c.toNat-48:=by rw[uy];simp[val]
   rw[e,Lib.decDigits,RA R5,show 48+(c.toNat-48)=c.toNat by omega,j];rfl
  |cons d t =>
   have B:=oW (hd d S5);have m:d≠48:=by
    intro e;rcases b with b|b
    ·apply b;rw[e];rfl
    simp at h;omega
   have D:1<=val (d::t) 0:=by
    have y:val (d::t) 0=val t _:=rfl;have:=CC t (10*0+(d.toNat-48));have C:d.toNat≠48:=λe=>m (Rp.1 e);omega
   have p:=u (d::t).length (by rw[<-h];simp) _ rfl (λx hx=>hd x (RB _ hx)) S5 (Or.inl (by simpa using m));rw[uy,Lib.decDigits,dif_neg R5];rw[show(10*val _ 0+(c.toNat-48)) / 10=val (d::t) 0 by omega,show(10*val _ 0+(c.toNat-48))%10=c.toNat-48 by omega,p,show 48+(c.toNat-48)=c.toNat by omega,j]
theorem Ax:∀u:Nat,10<=u->∃c r,Lib.decDigits u=c::r/\c≠48:=by
 intro u
 induction u using Nat.strongRecOn with
 |ind u m =>
  intro h;rw[Lib.decDigits,dif_neg R5];by_cases h1:u / 10<10
  ·rw[Lib.decDigits,RA h1];refine⟨_,_,rfl,?_⟩;intro e;have:=congrArg UInt8.toNat e;rw[S0]at this;have b:(48:UInt8).toNat=48:=rfl;rw[b]at this;omega
  obtain⟨c,r,j,l⟩:=m (u / 10) R5 R5;rw[j];exact⟨c,_,rfl,l⟩
theorem HJ(l)(hd:∀c∈l,dH c=true)(n:l≠[]):(dO l).isSome=(d_ l).isSome:=by
 have p:(2:Nat)^(64-1)=9223372036854775808:=S4;have y:(2:Nat)^64-1=18446744073709551615:=S4;obtain⟨c,r,rfl⟩:∃c r,l=c::r:=by
  cases l with
  |nil=>exact absurd rfl n
  |cons c r=>exact⟨c,r,rfl⟩
 have z:=oW (hd c S5);have hM:=Px _ 0 hd R5;have hF:=qu _ 0 hd R5;have m:=Ek _ hd S5;generalize val _ 0=v at hM hF m;have u:Lib.parseIntB 64 (c::r)=if v<=9223372036854775807 then .ok (v:Int)else .range:=by
  simp only[Lib.parseIntB,p];rw[ae R5,Lib.parseUintB,ae S5,y,hM]
  grind
 unfold d_ dO;rw[u];by_cases h2:v<=9223372036854775807
 ·rw[if_pos h2]at hF ⊢;simp only;have hit:Lib.itoa (v:Int)=Lib.decDigits v:=by grind [Lib.itoa]
  rw[hit];by_cases b:c=48/\1<(c::r).length
  ·rw[ag (Or.inr ⟨by rw[b.1];rfl,b.2⟩)];have B:¬(Lib.decDigits v==c::r)=true:=by
    intro e;have e:=eq_of_beq e;by_cases j:v<10
    ·rw[Lib.decDigits,RA j]at e
     grind
    grind [Ax]
   grind
  grind
 grind
end bY
end
namespace bY
structure V where
 x:Sum Int (Sum (a_) (List V))
def vn(i:Int):V:=⟨.inl i⟩
def vw(b:a_):V:=⟨.inr (.inl b)⟩
def vl(l:List V):V:=⟨.inr (.inr l)⟩
def wrap(i:Int):Int:=(i+9223372036854775808)%18446744073709551616-9223372036854775808
def cS:List (a_)->a_
 |[]=>[]
 |[a]=>a
 |a::b::r=>a++44::cS (b::r)
def wr:Nat->V->a_
 |n,v=>match v.x with
  |.inl i=>Lib.itoa i
  |.inr (.inl b)=>39::(b++[39])
  |.inr (.inr l)=>match n with
   |0=>[]
   |m+1=>123::(cS (l.map (wr m))++[125])
def p8:Nat->V->Nat
 |n,v=>match v.x with
  |.inl _=>0
  |.inr (.inl _)=>0
  |.inr (.inr l)=>match n with
   |0=>0
   |m+1=>l.foldl (λa u=>max a (p8 m u)) 0+1
def mJ:Nat->V->Bool
 |n,v=>match v.x with
  |.inl _=>true
  |.inr (.inl _)=>true
  |.inr (.inr l)=>match n with
   |0=>false
   |m+1=>l.all (mJ m)
def same:Nat->V->V->Bool
 |n,v,u=>match v.x,u.x with
  |.inl i,.inl j=>i==j
  |.inr (.inl a),.inr (.inl b)=>a==b
  |.inr (.inr l),.inr (.inr m)=>match n with
   |0=>false
   |k+1=>l.length==m.length&&(l.zip m).all λp=>same k p.1 p.2
  |_,_=>false
def fw(v:V):Except Nat Int :=match v.x with
 |.inl i=>.ok i
 |_=>.error 9
def eS(v:V):Except Nat (List V) :=match v.x with
 |.inr (.inr l)=>.ok l
 |_=>.error 9
def en(l:List V):Except Nat V :=if 12<l.length\/l.all (mJ 2)=false then .error 10 else .ok (vl l)
def bit(b:Bool):V:=vn (if b then 1 else 0)
def mO(x y:V)(f:Int->Int->Except Nat V):Except Nat V :=match x.x,y.x with
 |.inl i,.inl j=>f i j
 |_,_=>.error 9
def Ig(a b:a_):Bool:=Op.bytesLess a b
def plus(x y:V):Except Nat V :=match x.x,y.x with
 |.inl i,.inl j=>.ok (vn (wrap (i+j)))
 |.inr (.inl a),.inr (.inl b)=>if 30<a.length+b.length then .error 10 else .ok (vw (a++b))
 |.inr (.inr l),.inr (.inr m)=>en (l++m)
 |_,_=>.error 9
def less(x y:V):Except Nat V :=match x.x,y.x with
 |.inl i,.inl j=>.ok (bit (decide (i<j)))
 |.inr (.inl a),.inr (.inl b)=>.ok (bit (Ig a b))
 |_,_=>.error 9
def place(i:Int)(n:Nat):Except Nat Nat :=if i<0\/(n:Int)<=i then .error 7 else .ok i.toNat
def gz(x y:V):Except Nat V :=match y.x with
 |.inl i=>match x.x with
  |.inr (.inl b)=>match place i b.length with
   |.ok k=>.ok (vw ((b.drop k).take 1))
   |.error e=>.error e
  |.inr (.inr l)=>match place i l.length with
   |.ok k=>.ok (l[k]?.getD (vn 0))
   |.error e=>.error e
  |_=>.error 9
 |_=>.error 9
def make(op:Nat)(x y:V):Except Nat V :=if op=43 then plus x y
 else if op=45 then mO x y λi j=>.ok (vn (wrap (i-j)))
 else if op=42 then mO x y λi j=>.ok (vn (wrap (i*j)))
 else if op=47 then mO x y λi j=>if j=0 then .error 8 else .ok (vn (wrap (i.tdiv j)))
 else if op=60 then less x y
 else if op=61 then .ok (bit (same 3 x y))
 else if op=109 then mO x y λi j=>.ok (vn (min i j))
 else if op=120 then mO x y λi j=>.ok (vn (max i j))
 else gz x y
def size(x:V):Except Nat V :=match x.x with
 |.inl _=>.error 9
 |.inr (.inl b)=>.ok (vn b.length)
 |.inr (.inr l)=>.ok (vn l.length)
def fE:Int->List V->Except Nat V
 |a,[]=>.ok (vn a)
 |a,v::r=>match v.x with
  |.inl i=>fE (wrap (a+i)) r
  |_=>.error 9
def jW(x:V):Except Nat V :=match x.x with
 |.inr (.inr l)=>fE 0 l
 |_=>.error 9
def iu(x:V):Except Nat V :=match x.x with
 |.inl i=>.ok (vw (Lib.itoa i))
 |.inr (.inl b)=>.ok (vw b)
 |_=>.error 9
end bY
section
namespace bY
variable{l:a_}{v:V}
def mP(c:UInt8):Bool:=c==45||dH c
def iW(R:a_->Option (V×a_)):Nat->a_->List V->Option (V×a_)
 |0,_,_=>none
 |k+1,l,b=>match R l with
  |none=>none
  |some (v,r)=>match r with
   |[]=>none
   |c::r=>if c=125 then some (vl (b++[v]),r)else if c=44 then iW R k r (b++[v])else none
def rdNum(l:a_):Option (V×a_):=(d_ (l.take (dJ mP l))).map λi=>(vn i,l.drop (dJ mP l))
def oY(l:a_):Option (V×a_):=(dS l).map λn=>(vw ((l.drop 1).take n),l.drop (n+2))
def oZ(R:a_->Option (V×a_))(l:a_):Option (V×a_) :=if l.head?=some 125 then some (vl [],l.drop 1)else iW R 12 l []
def tU:Nat->a_->Option (V×a_)
 |n,l=>if l.head?=some 39 then oY l else if l.head?=some 123 then(match n with|0=>none|m+1=>oZ (tU m) (l.drop 1))else rdNum l
def sY(l:a_):Option V :=match tU 3 l with
 |some (v,[])=>some v
 |_=>none
/-! What is read. -/
def iX:Nat->V->Prop
 |n,v=>match v.x with
  |.inl i=>-9223372036854775808<=i/\i<=9223372036854775807
  |.inr (.inl b)=>b.length<=30/\∀c∈b,fW c=true/\c≠39
  |.inr (.inr l)=>match n with
   |0=>False
   |m+1=>l.length<=12/\∀u∈l,iX m u
def pN:∀n v,iX n v->mJ n v=true
 |n,⟨.inl i⟩,h=>by unfold mJ;rfl
 |n,⟨.inr (.inl b)⟩,h=>by unfold mJ;rfl
 |0,⟨.inr (.inr l)⟩,h=>by unfold iX at h;exact h.elim
 |n+1,⟨.inr (.inr l)⟩,h=>by
  unfold iX at h;unfold mJ;exact Rk.2 (λx hx=>pN n x (h.2 x hx))
theorem js{i:Int}(h:d_ l=some i):Lib.itoa i=l/\Lib.parseIntB 64 l=.ok i:=by
 grind [d_]
def nA:∀n l k,eN n l=some k->k<n/\k<l.length/\l[k]?=some 39/\∀c∈l.take k,fW c=true/\c≠39
 |0,_,_,h=>by cases h
 |n+1,[],_,h=>by cases h
 |n+1,c::r,k,h=>by
  unfold eN at h;split at h
  ·rename_i b;cases h;exact⟨by omega,by simp,by simp[b],λc b=>by simp at b⟩
  rename_i b;split at h
  ·rename_i u;cases e:eN n r with
   |none=>rw[e]at h;cases h
   |some m =>
    rw[e]at h;cases h;obtain⟨h1,h2,j,p⟩:=nA n r m e;refine⟨by show m+1<n+1;omega,by show m+1<(c::r).length;simp;omega,by simpa using j,λd hd=>?_⟩;rw[Q9,aK]at hd;rcases hd with rfl|hd
    ·exact⟨u,b⟩
    exact p d hd
  cases h
def uC:∀b r n,b.length<n->(∀c∈b,fW c=true/\c≠39)->eN n (b++39::r)=some b.length
 |[],r,0,h,_=>by omega
 |[],r,n+1,_,_=>by simp[eN]
 |c::b,r,0,h,_=>by simp at h
 |c::b,r,n+1,h,e=>by
  have j:=e c Rg;have:=uC b r n (by simp at h;omega) (λd hd=>e d (aS _ hd));simp[eN,j.1,j.2,this]
theorem Ep(u):val (Lib.decDigits u) 0=u:=by
 induction u using Nat.strongRecOn with
 |ind u b =>
  rw[Lib.decDigits];by_cases h:u<10
  ·rw[RA h];show 10*0+((UInt8.ofNat _).toNat-48)=u;rw[S0];omega
  rw[dif_neg h,uy,b _ R5,S0];omega
theorem mQ(u):∀c∈Lib.decDigits u,dH c=true:=by
 induction u using Nat.strongRecOn with
 |ind u j =>
  rw[Lib.decDigits];have hd:∀k,k<10->dH (UInt8.ofNat (48+k))=true:=λk e=>by
   match k,e with
   |0,_=>rfl
   |1,_=>rfl
   |2,_=>rfl
   |3,_=>rfl
   |4,_=>rfl
   |5,_=>rfl
   |6,_=>rfl
   |7,_=>rfl
   |8,_=>rfl
   |9,_=>rfl
  by_cases h:u<10
  ·rw[RA h];intro c b;rw[Q_.1 b];exact hd u h
  rw[dif_neg h];intro c b;rcases aL.1 b with b|b
  ·exact j _ R5 c b
  rw[Q_.1 b];exact hd _ R5
theorem rW(u):Lib.decDigits u≠[]:=by
 rw[Lib.decDigits];split
 ·simp
 simp
theorem uD(u)(h:u<=18446744073709551615):Lib.parseUintB 64 (Lib.decDigits u)=.ok u:=by
 unfold Lib.parseUintB;rw[ae (rW u)];have:=Px _ 0 (mQ u) R5
 grind [Ep]
theorem CQ(i)(e:-9223372036854775808<=i)(h1:i<=9223372036854775807):Lib.parseIntB 64 (Lib.itoa i)=.ok i:=by
 unfold Lib.itoa;by_cases b:i<0
 ·rw[ag b];unfold Lib.parseIntB
  grind [uD]
 rw[ae b];cases hd:Lib.decDigits _ with
 |nil=>exact(rW _ hd).elim
 |cons c r =>
  have j:=oW (mQ _ c (by rw[hd];simp));unfold Lib.parseIntB;simp only;rw[ae R5,<-hd,uD _ R5];simp only;rw[ae Tc,ae R5,ae R5]
  congr 1
  omega
theorem ie(i)(b:-9223372036854775808<=i)(h1:i<=9223372036854775807):d_ (Lib.itoa i)=some i:=by
 grind [d_,CQ]
theorem j9(i):∀c∈Lib.itoa i,mP c=true:=by
 unfold Lib.itoa
 grind [mP,mQ]
theorem tV(i):Lib.itoa i≠[]:=by
 unfold Lib.itoa
 grind [rW]
def AG(p):∀a r,(∀c∈a,p c=true)->(∀c,r.head?=some c->p c=false)->dJ p (a++r)=a.length
 |[],[],_,_=>rfl
 |[],c::r,_,h=>by
  have:=h c rfl;simp[dJ,this]
 |c::a,r,h,b=>by
  have e:=h c Rg;have:=AG p a r (λd hd=>h d (aS _ hd)) b;simp[dJ,e,this]
def lE(r:a_):Prop:=∀c,r.head?=some c->mP c=false
def LK:mP 39=false:=S4
def Ih:mP 123=false:=S4
def CR(i)(b:-9223372036854775808<=i)(h1:i<=9223372036854775807)(r)(e:lE r):rdNum (Lib.itoa i++r)=some (vn i,r):=by
 unfold rdNum;rw[AG mP _ _ (j9 i) e,SL,ie i b h1,List.drop_left']
 ·rfl
 ·rfl
 rfl
def FN(i r):(Lib.itoa i++r).head? ≠ some 39/\(Lib.itoa i++r).head? ≠ some 123:=by
 cases h:Lib.itoa i with
 |nil=>exact(tV i h).elim
 |cons c t =>
  have:=j9 i c T3;simp only[RC,List.head?_cons];refine⟨λe=>?_,λe=>?_⟩
  ·cases e;rw[LK]at this;cases this
  cases e;rw[Ih]at this;cases this
def uE(R f):∀l b k r,l≠[]->l.length<=k->(∀u∈l,∀r,lE r->R (f u++r)=some (u,r))->iW R k (cS (l.map f)++125::r) b=some (vl (b++l),r)
 |[],b,k,r,h,_,_=>(h rfl).elim
 |[u],b,0,r,_,h,_=>by simp at h
 |[u],b,k+1,r,_,_,j=>by
  have n:lE (125::r):=λc m=>by cases m;decide
  have:=j u S5 (125::r) n;simp[cS,iW,this]
 |u::v::l,b,0,r,_,h,_=>by simp at h
 |u::v::l,b,k+1,r,_,y,j=>by
  have p:lE (44::(cS ((v::l).map f)++125::r)):=λc m=>by cases m;decide
  have h1:=j u S5 _ p;have z:=uE R f (v::l) (b++[u]) k r S5 (by simp at y ⊢;omega) (λx hx=>j x (aS _ hx));have e:cS ((u::v::l).map f)++125::r=f u++44::(cS ((v::l).map f)++125::r):=by simp[cS]
  rw[e];unfold iW;rw[h1];simp only;rw[ae S4,ag trivial,z];simp
theorem Ii:∀n v r,iX n v->lE r->tU n (wr n v++r)=some (v,r)
 |n,⟨.inl i⟩,r,h,j=>by
  unfold iX at h;obtain⟨a,b⟩:=FN i r;unfold wr tU;simp only;rw[ae a,ae b];exact CR i h.1 h.2 r j
 |n,⟨.inr (.inl b)⟩,r,h,j=>by
  unfold iX at h;have E:=uC b r 31 R5 h.2;unfold wr tU;simp only;have e:(39::(b++[39]))++r=39::(b++39::r):=S5;rw[e];rw[ag (show(39::(b++39::r)).head?=some 39 from rfl)];unfold oY dS;simp only[aO,E,R0,Rx,aW];rw[SL,<-List.drop_drop,List.drop_left']
  ·rfl
  ·rfl
  rfl
 |0,⟨.inr (.inr l)⟩,r,h,j=>by unfold iX at h;exact h.elim
 |n+1,⟨.inr (.inr l)⟩,r,h,j=>by
  unfold iX at h;unfold wr tU;simp only;have e:(123::(cS (l.map (wr n))++[125]))++r=123::(cS (l.map (wr n))++125::r):=S5;rw[e,ae S5,ag (show(123::(cS (l.map (wr n))++125::r)).head?=some 123 from rfl)];simp only[Rx,aW];unfold oZ;cases l with
  |nil=>simp[cS,vl]
  |cons u l =>
   have C:∀x∈u::l,∀r,lE r->tU n (wr n x++r)=some (x,r):=λx hx r j=>Ii n x r (h.2 x hx) j;have D:(cS ((u::l).map (wr n))++125::r).head? ≠ some 125:=by
    have y:(wr n u).head? ≠ some 125/\wr n u≠[]:=by
     have hu:=h.2 u S5;obtain⟨x⟩:=u;rcases x with i|b|m
     ·unfold wr;simp only;refine⟨?_,tV i⟩;cases hi:Lib.itoa i with
      |nil=>exact(tV i hi).elim
      |cons c t =>
       have:=j9 i c (by rw[hi];simp);intro e;cases e;have z:mP 125=false:=S4;rw[z]at this;cases this
     ·grind [wr]
     grind [iX,wr]
    have B:∃t,cS ((u::l).map (wr n))++125::r=wr n u++t:=by
     cases l with
     |nil=>exact⟨125::r,by simp[cS]⟩
     |cons v l=>exact⟨44::(cS ((v::l).map (wr n))++125::r),by simp[cS]⟩
    obtain⟨t,F⟩:=B;rw[F];cases p:wr n u with
    |nil=>exact(y.2 p).elim
    |cons c q =>
     have:=y.1;rw[p]at this;simpa using this
   rw[ae D,uE _ (wr n) _ [] 12 r S5 h.1 C];rfl
theorem Ij(h:iX 3 v):sY (wr 3 v)=some v:=by
 have:=Ii 3 v [] h (λc b=>by cases b)
 grind [sY]
def qR(R)(A:V->Prop)(f)(p:∀l v r,R l=some (v,r)->A v/\l=f v++r):∀k l b v r,iW R k l b=some (v,r)->∃m:List V,m≠[]/\m.length<=k/\v=vl (b++m)/\(∀u∈m,A u)/\l=cS (m.map f)++125::r
 |0,_,_,_,_,h=>by cases h
 |k+1,l,b,v,r,h=>by
  unfold iW at h;cases j:R l with
  |none=>rw[j]at h;cases h
  |some q =>
   obtain⟨u,t⟩:=q;obtain⟨n,rfl⟩:=p l u t j;rw[j]at h;cases t with
   |nil=>cases h
   |cons c t =>
    simp only at h;split at h
    ·rename_i e;cases h;subst e;exact⟨[u],by simp,by simp,rfl,λx hx=>by rw[Q_.1 hx];exact n,by simp[cS]⟩
    split at h
    ·rename_i e;subst e;obtain⟨m,h1,h2,z,B,C⟩:=qR R A f p k t (b++[u]) v r h;refine⟨u::m,by simp,by simp;omega,by rw[z];simp,λx hx=>?_,?_⟩
     ·rcases aK.1 hx with rfl|hx
      ·exact n
      exact B x hx
     cases m with
     |nil=>exact(h1 rfl).elim
     |cons y m=>rw[C];simp[cS]
    cases h
def AH:∀n l v r,tU n l=some (v,r)->iX n v/\l=wr n v++r:=by
 have p:∀(n:Nat) (l:a_) (v:V) (r:a_),(l.head?=some 39/\oY l=some (v,r))\/rdNum l=some (v,r)->iX n v/\l=wr n v++r:=by
  rintro n l v r (⟨b,h⟩|h)
  ·unfold oY at h;cases l with
   |nil=>cases b
   |cons c t =>
    cases b;have e:dS (39::t)=eN 31 t:=by unfold dS;exact ag rfl
    rw[e]at h;cases C:eN 31 t with
    |none=>rw[C]at h;cases h
    |some k =>
     rw[C]at h;cases h;obtain⟨h1,h2,j,y⟩:=nA 31 t k C;refine⟨?_,?_⟩
     ·unfold vw iX;simp only[Rx,aW];exact⟨by rw[Rf];omega,y⟩
     unfold vw wr;simp only[Rx,aW];have F:t=t.take k++39::t.drop (k+1):=by
      have z:t.drop k=39::t.drop (k+1):=by
       have E:=h2;rw[aU E];rw[aq E]at j;rw[aB j]
      rw[<-z];exact(R8 k t).symm
     conv=>lhs;rw[F]
     simp
  unfold rdNum at h;cases B:d_ _ with
  |none=>rw[B]at h;cases h
  |some i =>
   rw[B]at h;cases h;obtain⟨h1,h2⟩:=js B;refine⟨?_,?_⟩
   ·unfold vn iX;exact iF _ _ h2
   unfold vn wr;simp only;rw[h1];exact(R8 _ l).symm
 intro n
 induction n with
 |zero =>
  intro l v r h;unfold tU at h;split at h
  ·rename_i b;exact p 0 l v r (.inl ⟨b,h⟩)
  split at h
  ·cases h
  exact p 0 l v r (.inr h)
 |succ n G =>
  intro l v r h;unfold tU at h;split at h
  ·rename_i b;exact p _ l v r (.inl ⟨b,h⟩)
  split at h
  ·rename_i b;cases l with
   |nil=>cases b
   |cons c t =>
    cases b;simp only[Rx,aW]at h;unfold oZ at h;split at h
    ·rename_i D;cases h;cases t with
     |nil=>cases D
     |cons d t =>
      cases D;refine⟨?_,?_⟩
      ·unfold vl iX;exact⟨by simp,λu hu=>by cases hu⟩
      unfold vl wr;simp[cS]
    obtain⟨m,h1,h2,j,y,z⟩:=qR _ _ (wr n) (λl v r h=>G l v r h) 12 t [] v r h;subst j;refine⟨?_,?_⟩
    ·unfold vl iX;exact⟨by simpa using h2,by simpa using y⟩
    unfold vl wr;rw[z];simp
  exact p _ l v r (.inr h)
theorem qS(h:sY l=some v):iX 3 v/\l=wr 3 v:=by
 unfold sY at h;split at h
 ·rename_i u hu;cases h;obtain⟨h1,h2⟩:=AH 3 l v [] hu
  grind
 cases h
end bY
namespace bY
structure T where
 cu:Nat
 op:Nat
 name:a_
 is:Option V
 parts:List T
def T.none:T:=⟨0,0,[],.none,[]⟩
def T.cM(t:T)(i:Nat):T:=t.parts[i]?.getD T.none
def dB(l:a_):Bool:=(tok l).1==4&&(tok l).2==l.length
def keyOf(v:V):Except Nat (a_) :=match v.x with
 |.inl i=>.ok (107::Lib.itoa i)
 |.inr (.inl b)=>if dB b=true then .ok b else .error 9
 |_=>.error 9
def jh{α β S:Type}(r:Except Nat α×S)(k:α->S->Except Nat β×S):Except Nat β×S :=match r with
 |(.ok a,s)=>k a s
 |(.error e,s)=>(.error e,s)
def nF{α S:Type}(E:α->S->Except Nat V×S):List α->List V->S->Except Nat V×S
 |[],b,s=>(en b,s)
 |a::r,b,s=>jh (E a s) λv s=>nF E r (b++[v]) s
def jG{S:Type}(E:V->S->Except Nat V×S):List V->List V->S->Except Nat V×S
 |[],b,s=>(en b,s)
 |a::r,b,s=>jh (E a s) λv s =>
  match fw v with
  |.ok i=>if i=0 then jG E r b s else jG E r (b++[a]) s
  |.error e=>(.error e,s)
variable {σ:Type} (N:a_->σ->Except Nat V×σ)
def qa(key:a_)(s:Nat×σ):Except Nat V×(Nat×σ):=((N key s.2).1,(s.1,(N key s.2).2))
def fZ(E:T->Nat×σ->Except Nat V×(Nat×σ))(t:T)(s:Nat×σ):Except Nat V×(Nat×σ) :=jh (E (t.cM 0) s) λv s =>
  if t.cu=1\/t.cu=13 then jh (E (t.cM 1) s) λu s=>(make t.op v u,s)
  else if t.cu=5 then(make 45 (vn 0) v,s)
  else if t.cu=7 then
   (match keyOf v with
   |.ok k=>qa N k s
   |.error e=>(.error e,s))
  else if t.cu=9 then
   (match fw v with
   |.ok i=>if i=0 then E (t.cM 2) s else E (t.cM 1) s
   |.error e=>(.error e,s))
  else if t.cu=10 then(size v,s)
  else if t.cu=11 then(jW v,s)
  else if t.cu=12 then(iu v,s)
  else(.ok v,s)
def ev:Nat->T->Option V->Nat×σ->Except Nat V×(Nat×σ)
 |0,_,_,s=>(.error 11,s)
 |n+1,t,b,s =>
  if t.cu=1 then fZ N (λu s=>ev n u b s) t s
  else if s.1=0 then(.error 11,s)
  else if t.cu=2 then((match t.is with|some v=>.ok v|.none=>.error 11),(s.1-1,s.2))
  else if t.cu=3 then qa N t.name (s.1-1,s.2)
  else if t.cu=4 then((match b with|some v=>.ok v|.none=>.error 11),(s.1-1,s.2))
  else if t.cu=14 then
   (match ev n (t.cM 0) b (s.1-1,s.2) with
   |(.ok v,s)=>(.ok v,s)
   |(.error e,s)=>if e=7\/e=8\/e=9\/e=10 then ev n (t.cM 1) b s else(.error e,s))
  else if t.cu=15 then jh (ev n (t.cM 0) b (s.1-1,s.2)) λv s =>
   (match eS v with
   |.ok l=>nF (λu s=>ev n (t.cM 1) (some u) s) l [] s
   |.error e=>(.error e,s))
  else if t.cu=16 then jh (ev n (t.cM 0) b (s.1-1,s.2)) λv s =>
   (match eS v with
   |.ok l=>jG (λu s=>ev n (t.cM 1) (some u) s) l [] s
   |.error e=>(.error e,s))
  else if t.cu=8 then nF (λu s=>ev n u b s) t.parts [] (s.1-1,s.2)
  else fZ N (λu s=>ev n u b s) t (s.1-1,s.2)
def jH(k:Nat):Nat :=if k=1\/k=13\/k=14\/k=15\/k=16 then 2 else if k=9 then 3 else if k=2\/k=3\/k=4 then 0 else 1
def iy:Nat->Bool->T->Bool
 |0,_,_=>false
 |n+1,b,t =>
  decide (1<=t.cu)&&decide (t.cu<=16)&&(t.cu==8||t.parts.length==jH t.cu)&&decide (t.parts.length<=200) &&
  (t.cu != 1||[43,45,42,47,60,61].contains t.op)&&(t.cu != 13||[109,120,64].contains t.op)&&(t.cu != 2||t.is.isSome)&&(t.cu != 4||b) &&
  (if t.cu=15\/t.cu=16 then iy n b (t.cM 0)&&iy n true (t.cM 1)else t.parts.all (iy n b))
end bY
namespace bY
abbrev By:=a_
abbrev Wo:=Except Nat V
structure Pg(α:Type) where
 x:Sum α (By×(Wo->Pg α))
namespace Pg
variable {α β:Type}
def ret(a:α):Pg α:=⟨.inl a⟩
def ask(k:By)(c:Wo->Pg α):Pg α:=⟨.inr (k,c)⟩
def bind:Pg α->(α->Pg β)->Pg β
 |⟨.inl a⟩,f=>f a
 |⟨.inr (k,c)⟩,f=>ask k λw=>(c w).bind f
def run{σ:Type}(N:By->σ->Wo×σ):Pg α->σ->α×σ
 |⟨.inl a⟩,s=>(a,s)
 |⟨.inr (k,c)⟩,s=>(c (N k s).1).run N (N k s).2
def run_bind{σ:Type}(N):∀(p:Pg α) (f:α->Pg β) (s:σ),(p.bind f).run N s=(f (p.run N s).1).run N (p.run N s).2
 |⟨.inl _⟩,_,_=>rfl
 |⟨.inr (_,_)⟩,f,s=>by simp only[bind,run,ask];exact run_bind N _ f _
def ind{P:Pg α->Prop}(h1:∀a,P (ret a))(h2:∀k c,(∀w,P (c w))->P (ask k c)):∀p,P p
 |⟨.inl a⟩=>h1 a
 |⟨.inr (k,c)⟩=>h2 k c λw=>ind h1 h2 (c w)
end Pg
abbrev Pe(α:Type):=Pg (Except Nat α×Nat)
def eT{α β:Type}(p:Pe α)(k:α->Nat->Pe β):Pe β :=p.bind λq=>match q.1 with|.ok a=>k a q.2|.error e=>.ret (.error e,q.2)
def oP{α:Type}(E:α->Nat->Pe V):List α->List V->Nat->Pe V
 |[],b,f=>.ret (en b,f)
 |a::r,b,f=>eT (E a f) λv f=>oP E r (b++[v]) f
def lK(E:V->Nat->Pe V):List V->List V->Nat->Pe V
 |[],b,f=>.ret (en b,f)
 |a::r,b,f=>eT (E a f) λv f =>
  match fw v with
  |.ok i=>if i=0 then lK E r b f else lK E r (b++[a]) f
  |.error e=>.ret (.error e,f)
def kJ(key:By)(f:Nat):Pe V:=.ask key λw=>.ret (w,f)
def p5(p:Pe V)(k:Nat->Pe V):Pe V :=p.bind λq=>match q.1 with
  |.ok v=>.ret (.ok v,q.2)
  |.error e=>if e=7\/e=8\/e=9\/e=10 then k q.2 else .ret (.error e,q.2)
def fx(E:T->Nat->Pe V)(t:T)(f:Nat):Pe V :=eT (E (t.cM 0) f) λv f =>
  if t.cu=1\/t.cu=13 then eT (E (t.cM 1) f) λu f=>.ret (make t.op v u,f)
  else if t.cu=5 then .ret (make 45 (vn 0) v,f)
  else if t.cu=7 then
   (match keyOf v with
   |.ok k=>kJ k f
   |.error e=>.ret (.error e,f))
  else if t.cu=9 then
   (match fw v with
   |.ok i=>if i=0 then E (t.cM 2) f else E (t.cM 1) f
   |.error e=>.ret (.error e,f))
  else if t.cu=10 then .ret (size v,f)
  else if t.cu=11 then .ret (jW v,f)
  else if t.cu=12 then .ret (iu v,f)
  else .ret (.ok v,f)
def tr:Nat->T->Option V->Nat->Pe V
 |0,_,_,f=>.ret (.error 11,f)
 |n+1,t,b,f =>
  if t.cu=1 then fx (λu f=>tr n u b f) t f
  else if f=0 then .ret (.error 11,f)
  else if t.cu=2 then .ret ((match t.is with|some v=>.ok v|.none=>.error 11),f-1)
  else if t.cu=3 then kJ t.name (f-1)
  else if t.cu=4 then .ret ((match b with|some v=>.ok v|.none=>.error 11),f-1)
  else if t.cu=14 then p5 (tr n (t.cM 0) b (f-1)) λf=>tr n (t.cM 1) b f
  else if t.cu=15 then eT (tr n (t.cM 0) b (f-1)) λv f =>
   (match eS v with
   |.ok l=>oP (λu f=>tr n (t.cM 1) (some u) f) l [] f
   |.error e=>.ret (.error e,f))
  else if t.cu=16 then eT (tr n (t.cM 0) b (f-1)) λv f =>
   (match eS v with
   |.ok l=>lK (λu f=>tr n (t.cM 1) (some u) f) l [] f
   |.error e=>.ret (.error e,f))
  else if t.cu=8 then oP (λu f=>tr n u b f) t.parts [] (f-1)
  else fx (λu f=>tr n u b f) t (f-1)
section
variable {σ:Type} (N:By->σ->Wo×σ)
def flat{β:Type}(q:(Except Nat β×Nat)×σ):Except Nat β×(Nat×σ):=(q.1.1,(q.1.2,q.2))
def ly{α β:Type}(p k)(K:α->Nat×σ->Except Nat β×(Nat×σ))(b:∀a f s,K a (f,s)=flat ((k a f).run N s))(s):flat ((eT p k).run N s)=jh (flat (p.run N s)) K:=by
 unfold eT;rw[Pg.run_bind];obtain⟨⟨r,f⟩,j⟩:=p.run N s;cases r with
 |ok a=>exact(b a f j).symm
 |error e=>rfl
def uQ{α:Type}(E P)(e:∀a f s,E a (f,s)=flat ((P a f).run N s)):∀(l:List α) (b) (f) (s),nF E l b (f,s)=flat ((oP P l b f).run N s)
 |[],b,f,s=>rfl
 |a::r,b,f,s=>by
  rw[nF,oP,ly N _ _ (λv s=>nF E r (b++[v]) s) (λv f s=>uQ E P e r _ f s),e]
def sb(E P)(j:∀a f s,E a (f,s)=flat ((P a f).run N s)):∀l b f s,jG E l b (f,s)=flat ((lK P l b f).run N s)
 |[],b,f,s=>rfl
 |a::r,b,f,s=>by
  rw[jG,lK,j];refine(ly N _ _ _ (λv f s=>?_) s).symm;cases fw v with
  |ok i =>
   by_cases h:i=0
   ·simp only[h,aO];exact sb E P j r b f s
   simp only[h,Ry];exact sb E P j r _ f s
  |error e=>rfl
def uR(E P)(b:∀a f s,E a (f,s)=flat ((P a f).run N s))(t f s):fZ N E t (f,s)=flat ((fx P t f).run N s):=by
 unfold fZ fx;rw[ly N _ _ _ (λv f s=>?_),b];by_cases h1:t.cu=1\/t.cu=13
 ·simp only[ag h1];rw[ly N _ _ _ (λu f s=>?_),b];rfl
 simp only[ae h1];by_cases n:t.cu=5
 ·simp only[ag n];rfl
 simp only[ae n];by_cases p:t.cu=7
 ·simp only[ag p];cases keyOf v<;>rfl
 simp only[ae p];by_cases r:t.cu=9
 ·simp only[ag r];cases fw v with
  |error e=>rfl
  |ok i =>
   by_cases h:i=0
   ·simp only[h,aO];exact b _ _ _
   simp only[h,Ry];exact b _ _ _
 simp only[ae r];by_cases j:t.cu=10
 ·simp only[ag j];rfl
 simp only[ae j];by_cases l:t.cu=11
 ·simp only[ag l];rfl
 simp only[ae l];by_cases m:t.cu=12
 ·simp only[ag m];rfl
 simp only[ae m];rfl
def pg:∀n t b f s,ev N n t b (f,s)=flat ((tr n t b f).run N s)
 |0,_,_,_,_=>rfl
 |n+1,t,b,f,s=>by
  unfold ev tr;by_cases h1:t.cu=1
  ·simp only[ag h1];exact uR N _ _ (λu f s=>pg n u b f s) t f s
  simp only[ae h1];by_cases j:f=0
  ·simp only[ag j];rfl
  simp only[ae j];by_cases h2:t.cu=2
  ·simp only[ag h2];rfl
  simp only[ae h2];by_cases z:t.cu=3
  ·simp only[ag z];rfl
  simp only[ae z];by_cases B:t.cu=4
  ·simp only[ag B];rfl
  simp only[ae B];by_cases m:t.cu=14
  ·simp only[ag m];rw[pg n (t.cM 0) b (f-1) s];unfold p5;rw[Pg.run_bind];obtain⟨⟨r,E⟩,F⟩:=(tr n (t.cM 0) b (f-1)).run N s;cases r with
   |ok v=>rfl
   |error e =>
    by_cases D:e=7\/e=8\/e=9\/e=10
    ·simp only[flat,ag D];exact pg n _ b _ _
    simp only[flat,ae D];rfl
  simp only[ae m];by_cases p:t.cu=15
  ·simp only[ag p];rw[ly N _ _ _ (λv f s=>?_),pg n];cases eS v with
   |error e=>rfl
   |ok l=>exact uQ N _ _ (λu f s=>pg n _ _ f s) l [] f s
  simp only[ae p];by_cases y:t.cu=16
  ·simp only[ag y];rw[ly N _ _ _ (λv f s=>?_),pg n];cases eS v with
   |error e=>rfl
   |ok l=>exact sb N _ _ (λu f s=>pg n _ _ f s) l [] f s
  simp only[ae y];by_cases C:t.cu=8
  ·simp only[ag C];exact uQ N _ _ (λu f s=>pg n _ _ f s) _ _ _ _
  simp only[ae C];exact uR N _ _ (λu f s=>pg n u b f s) t _ s
end
/-! Who is told round stops,and is round;no one else is. -/
def Good{α:Type}:Pe α->Prop
 |⟨.inl q⟩=>q.1≠.error 12
 |⟨.inr (_,c)⟩=>(∃f,c (.error 12)=.ret (.error 12,f))/\∀w,w≠.error 12->Good (c w)
def ke{α β:Type}:∀p (k:α->Nat->Pe β),Good p->(∀v f,Good (k v f))->Good (eT p k)
 |⟨.inl (.ok a,f)⟩,k,_,b=>b a f
 |⟨.inl (.error e,f)⟩,k,h,_=>by
  show(Except.error e:Except Nat β)≠_;intro j;apply h;cases j;rfl
 |⟨.inr (q,c)⟩,k,h,b=>by
  obtain⟨⟨f,l⟩,h2⟩:=h;refine⟨⟨f,?_⟩,λw m=>ke (c w) k (h2 w m) b⟩;show(c _).bind _=_;rw[l];rfl
def AP:∀p k,Good p->(∀f,Good (k f))->Good (p5 p k)
 |⟨.inl (.ok a,_)⟩,_,_,_=>by
  show(Except.ok a:Except Nat V)≠_;intro h;cases h
 |⟨.inl (.error e,f)⟩,k,h,b=>by
  unfold p5;simp only[Pg.bind];by_cases j:e=7\/e=8\/e=9\/e=10
  ·rw[ag j];exact b f
  rw[ae j];exact h
 |⟨.inr (q,c)⟩,k,h,b=>by
  obtain⟨⟨f,l⟩,h2⟩:=h;refine⟨⟨f,?_⟩,λw m=>AP (c w) k (h2 w m) b⟩;show(c _).bind _=_;rw[l];rfl
theorem sd(l):en l≠.error 12:=by
 grind [en]
def uS{α:Type}(P)(e:∀a f,Good (P a f)):∀(l:List α) (b) (f),Good (oP P l b f)
 |[],b,f=>sd b
 |a::r,b,f=>ke _ _ (e a f) λv f=>uS P e r _ f
theorem AQ(v):fw v≠.error 12:=by
 grind [fw]
theorem xM(v):eS v≠.error 12:=by
 grind [eS]
theorem ID(v):keyOf v≠.error 12:=by
 grind [keyOf]
def se(P)(j:∀a f,Good (P a f)):∀l b f,Good (lK P l b f)
 |[],b,f=>sd b
 |a::r,b,f=>ke _ _ (j a f) λv f=>by
  have n:=AQ v;cases h:fw v with
  |ok i =>
   show Good (if i=0 then _ else _);by_cases m:i=0
   ·rw[ag m];exact se P j r _ f
   rw[ae m];exact se P j r _ f
  |error e =>
   rw[h]at n;intro p;apply n;cases p;rfl
def xO(k f):Good (kJ k f):=⟨⟨f,rfl⟩,λ_ b=>b⟩
theorem Ev(x y g)(b:∀i j,g i j≠.error 12):mO x y g≠.error 12:=by
 grind [mO]
theorem Ew(op x y):make op x y≠.error 12:=by
 unfold make;split
 ·grind [plus,sd]
 split
 ·grind [Ev]
 grind [less,gz,place,Ev]
theorem uT:∀l a,fE a l≠.error 12
 |[],a=>by intro h;cases h
 |v::r,a=>by
  unfold fE;split
  ·exact uT r _
  intro h;cases h
theorem uU(P)(j:∀a f,Good (P a f))(t f):Good (fx P t f):=by
 unfold fx;refine ke _ _ (j _ _) λv f=>?_;split
 ·exact ke _ _ (j _ _) λu f=>Ew _ _ _
 split
 ·exact Ew 45 (vn 0) v
 split
 ·have b:=ID v;split
  ·exact xO _ _
  rename_i e h;rw[h]at b;intro l
  grind
 split
 ·have b:=AQ v;split
  ·grind
  rename_i e h;rw[h]at b;intro l
  grind
 split
 ·show size v≠_
  grind [size]
 split
 ·show jW v≠_
  grind [jW,uT]
 split
 ·show iu v≠_
  grind [iu]
 intro h;cases h
def ky:∀n t j f,Good (tr n t j f)
 |0,_,_,_=>by intro h;cases h
 |n+1,t,j,f=>by
  unfold tr;split
  ·exact uU _ (λu f=>ky n u j f) t f
  split
  ·intro h;cases h
  split
  ·show(match t.is with|some v=>Except.ok v|.none=>Except.error 11)≠_;split<;>intro h<;>cases h
  split
  ·exact xO _ _
  split
  ·show(match j with|some v=>Except.ok v|.none=>Except.error 11)≠_;split<;>intro h<;>cases h
  split
  ·exact AP _ _ (ky n _ _ _) λf=>ky n _ _ _
  split
  ·refine ke _ _ (ky n _ _ _) λv f=>?_;have b:=xM v;split
   ·exact uS _ (λu f=>ky n _ _ _) _ _ _
   rename_i e h;rw[h]at b;intro l;apply b;cases l;rfl
  split
  ·refine ke _ _ (ky n _ _ _) λv f=>?_;have b:=xM v;split
   ·exact se _ (λu f=>ky n _ _ _) _ _ _
   rename_i e h;rw[h]at b;intro l;apply b;cases l;rfl
  split
  ·exact uS _ (λu f=>ky n _ _ _) _ _ _
  exact uU _ (λu f=>ky n u j f) t _
def Pg.dR:Pe V->Pg Wo
 |⟨.inl q⟩=>.ret q.1
 |⟨.inr (k,c)⟩=>.ask k λw=>(c w).dR
def Pg.sf{σ:Type}(N):∀(p:Pe V) (s:σ),p.dR.run N s=((p.run N s).1.1,(p.run N s).2)
 |⟨.inl _⟩,_=>rfl
 |⟨.inr (_,_)⟩,s=>by simp only[Pg.dR,Pg.run,Pg.ask];exact Pg.sf N _ _
def Fin:Pg Wo->Prop
 |⟨.inl w⟩=>w≠.error 12
 |⟨.inr (_,c)⟩=>c (.error 12)=.ret (.error 12)/\∀w,w≠.error 12->Fin (c w)
def xP:∀p,Good p->Fin p.dR
 |⟨.inl _⟩,h=>h
 |⟨.inr (_,c)⟩,⟨⟨f,b⟩,h2⟩=>⟨by show(c _).dR=_;rw[b];rfl,λw e=>xP (c w) (h2 w e)⟩
end bY
end
namespace bY
abbrev RT:=Except (Nat×Nat) (Nat×List T)
def dh(r:RT)(f:Nat->List T->RT):RT :=match r with
 |.ok (j,b)=>f j b
 |.error e=>.error e
def gf:RT->Except (Nat×Nat) Nat
 |.ok (j,_)=>.ok j
 |.error e=>.error e
def eX(l:a_)(t:a_)(i:Nat)(ts:List T):RT :=if tx l i=t then .ok (fX l i,ts)else .error (3,i)
def nG(l:a_):Option V :=match (tok l).1 with
 |2=>some (vn ((d_ (l.take (tok l).2)).getD 0))
 |3=>some (vw ((l.drop 1).take ((tok l).2-2)))
 |_=>.none
def byteOf(t:a_):Nat:=if t=[109,105,110]then 109 else if t=[109,97,120]then 120 else 64
def iB(l:a_)(k i:Nat)(ts:List T):T :=⟨k,if k=13 then byteOf (tx l i)else 0,if k=3 then tx l i else[],nG (l.drop i),ts⟩
def jb(l:a_)(i:Nat)(ts us:List T):T:=⟨1,((tx l i).headD 0).toNat,[],.none,ts++us⟩
def gM(l:a_)(k i:Nat)(R F W:Nat->RT)(I:Nat->List T->RT):RT :=if k=5 then F i
 else if k=6 then dh (R i) (eX l [41])
 else if k=7 then dh (R i) (eX l [93])
 else if k=8 then(if tx l i=[125]then .ok (fX l i,[])else dh (R i) I)
 else if k=9 then dh (dh (R i) (eX l [116,104,101,110])) λj b=>dh (dh (R j) (eX l [101,108,115,101])) λj e=>dh (F j) λj m=>.ok (j,b++(e++m))
 else if k=10\/k=11\/k=12 then dh (eX l [40] i []) λj _=>dh (R j) (eX l [41])
 else if k=13\/k=14 then dh (eX l [40] i []) λj _=>dh (dh (R j) (eX l [44])) λj b=>dh (dh (R j) (eX l [41])) λj e=>.ok (j,b++e)
 else if k=15\/k=16 then dh (eX l [40] i []) λj _=>dh (dh (R j) (eX l [44])) λj b=>dh (dh (W j) (eX l [41])) λj e=>.ok (j,b++e)
 else .ok (i,[])
def PT(l:a_):Nat->Nat->Nat->Nat->Nat->List T->RT
 |0,_,_,_,_,_=>.error (0,0)
 |n+1,u,e,b,i,r =>
  if u=0 then dh (PT l n 1 e b i []) λj m=>if gq l j [60,61]=true then dh (PT l n 1 e b (fX l j) []) λk p=>.ok (k,[jb l j m p])else .ok (j,m)
  else if u=1 then dh (PT l n 2 e b i []) λj m=>PT l n 4 e b j m
  else if u=2 then dh (PT l n 3 e b i []) λj m=>PT l n 5 e b j m
  else if u=3 then
   (if cu l i b=0 then .error (3,i)else if e=20 then .error (4,i)
   else dh (gM l (cu l i b) (fX l i) (λj=>PT l n 0 (e+1) b j []) (λj=>PT l n 3 (e+1) b j []) (λj=>PT l n 0 (e+1) (b+1) j []) (λj m=>PT l n 6 (e+1) b j m)) λj m=>.ok (j,[iB l (cu l i b) i m]))
  else if u=4 then(if gq l i [43,45]=true then dh (PT l n 2 e b (fX l i) []) λj p=>PT l n 4 e b j [jb l i r p]else .ok (i,r))
  else if u=5 then(if gq l i [42,47]=true then dh (PT l n 3 e b (fX l i) []) λj p=>PT l n 5 e b j [jb l i r p]else .ok (i,r))
  else(if tx l i=[44]then dh (PT l n 0 e b (fX l i) []) λj p=>PT l n 6 e b j (r++p)else eX l [125] i r)
theorem eH(r f g)(h:∀j b,gf (f j b)=g j):gf (dh r f)=andThen (gf r) g:=by
 rcases r with e|⟨j,b⟩
 ·rfl
 exact h j b
def lz(l t i ts):gf (eX l t i ts)=cD l t i:=by
 unfold eX cD;split<;>rfl
def AR(l k i R F W I R' n y m)(B:∀j,gf (R j)=R' j)(hF:∀j,gf (F j)=n j)(C:∀j,gf (W j)=m j)(D:∀j b,gf (I j b)=y j):gf (gM l k i R F W I)=parts l k i R' n y m:=by
 have p:=lz l;have u:∀t j,gf _=andThen (R' j) _:=λt j=>by
  rw[eH _ _ _ (p t),B]
 have G:∀t j,gf _=andThen (m j) _:=λt j=>by
  rw[eH _ _ _ (p t),C]
 have E:∀(r:RT) (b:List T->List T),gf (dh r λj z=>.ok (j,b z))=gf r:=λr b=>by
  rcases r with e|⟨j,z⟩<;>rfl
 unfold gM parts;split
 ·grind
 split
 ·grind
 split
 ·grind
 split
 ·split
  ·rfl
  grind [eH]
 split
 ·rw[eH (g:=λj=>andThen (andThen (R' j) (cD l [101,108,115,101])) n),u];intro j b;rw[eH (g:=n),u]
  simp_all
 split
 ·grind [eH]
 split
 ·rw[eH (g:=λj=>andThen (andThen (R' j) (cD l [44])) λj=>andThen (R' j) _),p];intro j b;rw[eH (g:=λj=>andThen (R' j) _),u]
  simp_all
 split
 ·rw[eH (g:=λj=>andThen (andThen (R' j) (cD l [44])) λj=>andThen (m j) _),p];intro j b;rw[eH (g:=λj=>andThen (m j) _),u]
  simp_all
 rfl
def pj(l):∀n z p u i B,gf (PT l n z p u i B)=P l n z p u i:=by
 intro n
 induction n with
 |zero=>intros;rfl
 |succ n b =>
  intro z p u i B;have C:∀(r:RT) (m:List T->List T),gf (dh r λj y=>.ok (j,m y))=gf r:=λr m=>by
   rcases r with e|⟨j,y⟩<;>rfl
  unfold PT P;split
  ·rw[eH (g:=λj=>if gq l j [60,61]=true then P l n 1 p u (fX l j)else .ok j),b];intro j m;split
   ·rw[C _ (λy=>[jb l j m y]),b]
   rfl
  split
  ·rw[eH (g:=λj=>P l n 4 p u j),b];intro j m;exact b ..
  split
  ·rw[eH (g:=λj=>P l n 5 p u j),b];intro j m;exact b ..
  split
  ·split
   ·rfl
   split
   ·rfl
   rw[C _ (λm=>[iB l _ i m])];exact AR _ _ _ _ _ _ _ _ _ _ _ (λ_=>b ..) (λ_=>b ..) (λ_=>b ..) (λ_ _=>b ..)
  split
  ·split
   ·rw[eH (g:=λj=>P l n 4 p u j),b];intro j m;exact b ..
   rfl
  split
  ·split
   ·rw[eH (g:=λj=>P l n 5 p u j),b];intro j m;exact b ..
   rfl
  split
  ·rw[eH (g:=λj=>P l n 6 p u j),b];intro j m;exact b ..
  exact lz ..
def gZ(l:a_):T :=match PT l (8*l.length+5) 0 0 0 (skip l 0) [] with
 |.ok (_,b)=>b.headD T.none
 |.error _=>T.none
end bY
