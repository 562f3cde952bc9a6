/- Out of: Spec, Gram, Val, W1, W2. -/
import Derived.Lib.Strings
import Derived.Lib.ParseIntB
import Derived.Lib.ItoaNum
import Derived.Lib.Bytealg
import Derived.RowKit
import Derived.Test.YtpekpdimdelncaaGreatDoorProg
import Derived.WalkKit
import Derived.WalkSpells
import Derived.WalkLawsBesides
import Derived.Test.YtpekpdimdelncaaGreatDoorShelf
import Derived.Lib.AppendIntMem
import Derived.Shelf.Strconv.ErrVarParseInt
namespace Go.Proofs.YtpekpdimdelncaaGreatDoor
namespace Lard
def digB (c:Int):Bool:=decide (48≤c) && decide (c≤57)
def letB (c:Int):Bool:=decide (97≤c) && decide (c≤122)
def alB (c:Int):Bool:=letB c || digB c
def isDig (c:UInt8):Bool:=digB c.toNat
def isLet (c:UInt8):Bool:=letB c.toNat
def isAl (c:UInt8):Bool:=alB c.toNat
def lead (p:UInt8→Bool):List UInt8→Nat
 |[]=>0
 |c :: r=>if p c=true then lead p r + 1 else 0
theorem lead_le (p:UInt8→Bool):∀ l,lead p l≤l.length:=by
 intro l
 induction l with
 |nil=>simp [lead]
 |cons c r ih=>simp only [lead]; split <;> simp <;> omega
theorem lead_step (p:UInt8→Bool):∀ (l:List UInt8) (k:Nat) (h:k < l.length),k≤lead p l→p l[k]=true→k + 1≤lead p l:=by
 intro l
 induction l with
 |nil=>intro k h; simp at h
 |cons c r ih =>
  intro k h hk hp
  simp only [lead] at hk ⊢
  cases k with
  |zero=>simp at hp; rw [if_pos hp]; omega
  |succ k =>
   by_cases hc:p c=true
   ·rw [if_pos hc] at hk ⊢
    have:=ih k (by simpa using h) (by omega) (by simpa using hp)
    omega
   ·rw [if_neg hc] at hk; omega
theorem lead_stop (p:UInt8→Bool):∀ (l:List UInt8) (k:Nat),k≤lead p l→(∀ h:k < l.length,p l[k]=false)→lead p l=k:=by
 intro l
 induction l with
 |nil=>intro k hk _; simp [lead] at hk ⊢; omega
 |cons c r ih =>
  intro k hk hs
  simp only [lead] at hk ⊢
  cases k with
  |zero =>
   have:=hs (by simp)
   simp at this
   simp [this]
  |succ k =>
   by_cases hc:p c=true
   ·rw [if_pos hc] at hk ⊢
    rw [ih k (by omega) (fun h=>hs (Nat.succ_lt_succ h))]
   ·rw [if_neg hc] at hk; omega
def termB (l:List UInt8):Bool :=
 l == [105,102] || l == [116,104,101,110] || l == [101,108,115,101] || l == [105,116] || l == [116,114,121] || l == [109,105,110] || l == [109,97,120] || l == [115,105,122,101] || l == [97,116] || l == [101,97,99,104] || l == [115,111,109,101] || l == [115,117,109] || l == [119,111,114,100]
def numOf (l:List UInt8):Option Int :=
 match Lib.parseIntB 64 l with
 |.ok v=>if Lib.itoa v == l then some v else none
 |_=>none
def wordC (c:UInt8):Bool:=decide (32≤(c.toNat:Int)) && decide ((c.toNat:Int)≤126)
def quote:Nat→List UInt8→Option Nat
 |0,_=>none
 |_ + 1,[]=>none
 |n + 1,c :: r=>if c=39 then some 0 else if wordC c=true then (quote n r).map (· + 1) else none
def wordOf:List UInt8→Option Nat
 |c :: r=>if c=39 then quote 31 r else none
 |[]=>none
def signB (c:UInt8):Bool:=decide (0≤Lib.indexByte [40,41,91,93,123,125,44,43,45,42,47,60,61] c)
def wordTok:Option Nat→Nat×Nat
 |some n=>(3,n + 2)
 |none=>(1,0)
def tok:List UInt8→Nat×Nat
 |[]=>(0,0)
 |c :: r =>
  if isDig c=true then (if (numOf ((c :: r).take (lead isDig (c :: r)))).isSome then (2,lead isDig (c :: r)) else (1,0))
  else if isLet c=true then (if termB ((c :: r).take (lead isAl (c :: r)))=true then (5,lead isAl (c :: r)) else if 8 < lead isAl (c :: r) then (1,0) else (4,lead isAl (c :: r)))
  else if c=39 then wordTok (wordOf (c :: r))
  else if signB c=true then (6,1) else (1,0)
theorem tok_cons (l:List UInt8) (c:UInt8) (r:List UInt8) (h:l=c :: r):tok l =
  if isDig c=true then (if (numOf (l.take (lead isDig l))).isSome then (2,lead isDig l) else (1,0))
  else if isLet c=true then (if termB (l.take (lead isAl l))=true then (5,lead isAl l) else if 8 < lead isAl l then (1,0) else (4,lead isAl l))
  else if c=39 then wordTok (wordOf l)
  else if signB c=true then (6,1) else (1,0):=by
 subst h; rfl
def blank (c:UInt8):Bool:=(c.toNat:Int) == 32
def skip (l:List UInt8) (i:Nat):Nat:=i + lead blank (l.drop i)
theorem skip_le (l:List UInt8) (i:Nat) (h:i≤l.length):skip l i≤l.length:=by
 have:=lead_le blank (l.drop i)
 simp only [List.length_drop] at this
 unfold skip; omega
theorem skip_ge (l:List UInt8) (i:Nat):i≤skip l i:=Nat.le_add_right _ _
theorem skip_step (l:List UInt8) (k:Nat) (h:k < l.length) (hb:blank l[k]=true):skip l (k + 1)=skip l k:=by
 unfold skip
 rw [List.drop_eq_getElem_cons h]
 simp only [lead,hb,if_true]
 omega
theorem skip_stop (l:List UInt8) (k:Nat) (h:∀ h:k < l.length,blank l[k]=false):skip l k=k:=by
 unfold skip
 by_cases hk:k < l.length
 ·rw [List.drop_eq_getElem_cons hk]
  simp [lead,h hk]
 ·rw [List.drop_eq_nil_of_le (by omega)]
  simp [lead]
def QuoteAt (l:List UInt8) (k:Nat):Prop:=1≤k∧k≤32∧wordOf l=(quote (32 - k) (l.drop k)).map (· + (k - 1))
theorem quoteAt_start (l:List UInt8) (h:Lib.hasPrefix l [39]=true):QuoteAt l 1:=by
 refine ⟨by omega,by omega,?_⟩
 cases l with
 |nil=>simp [Lib.hasPrefix] at h
 |cons c r =>
  simp [Lib.hasPrefix] at h
  subst h
  simp [wordOf]
theorem wordOf_none (l:List UInt8) (h:Lib.hasPrefix l [39]=false):wordOf l=none:=by
 cases l with
 |nil=>rfl
 |cons c r =>
  simp only [wordOf]
  rw [if_neg (fun e=>by subst e; simp [Lib.hasPrefix] at h)]
theorem quote_end {l:List UInt8} {k:Nat} (h:QuoteAt l k) (hk:l.length≤k∨31 < k):wordOf l=none:=by
 obtain ⟨h1,h2,h3⟩:=h
 rw [h3]
 rcases hk with hk | hk
 ·rw [List.drop_eq_nil_of_le hk]
  cases 32 - k <;> rfl
 ·rw [show 32 - k=0 by omega]
  rfl
theorem quote_hit {l:List UInt8} {k:Nat} (h:QuoteAt l k) (hk:k < l.length) (hk':k≤31) (hc:l[k]=39):wordOf l=some (k - 1):=by
 obtain ⟨h1,h2,h3⟩:=h
 rw [h3,List.drop_eq_getElem_cons hk,show 32 - k=(31 - k) + 1 by omega]
 simp [quote,hc]
theorem quote_bad {l:List UInt8} {k:Nat} (h:QuoteAt l k) (hk:k < l.length) (hk':k≤31) (hc:¬ l[k]=39) (hw:wordC l[k]=false):wordOf l=none:=by
 obtain ⟨h1,h2,h3⟩:=h
 rw [h3,List.drop_eq_getElem_cons hk,show 32 - k=(31 - k) + 1 by omega]
 simp [quote,hc,hw]
theorem quote_next {l:List UInt8} {k:Nat} (h:QuoteAt l k) (hk:k < l.length) (hk':k≤31) (hc:¬ l[k]=39) (hw:wordC l[k]=true):QuoteAt l (k + 1):=by
 obtain ⟨h1,h2,h3⟩:=h
 refine ⟨by omega,by omega,?_⟩
 rw [h3,List.drop_eq_getElem_cons hk,show 32 - k=(31 - k) + 1 by omega,show 32 - (k + 1)=31 - k by omega]
 simp only [quote,hc,if_false,hw,if_true,Option.map_map]
 congr 1
 funext x
 simp
 omega
theorem quote_le:∀ (n:Nat) (l:List UInt8) (k:Nat),quote n l=some k→k < l.length:=by
 intro n
 induction n with
 |zero=>intro l k h; simp [quote] at h
 |succ n ih =>
  intro l k h
  cases l with
  |nil=>simp [quote] at h
  |cons c r =>
   simp only [quote] at h
   split at h
   ·simp at h; subst h; simp
   ·split at h
    ·cases hq:quote n r with
     |none=>rw [hq] at h; simp at h
     |some m=>rw [hq] at h; simp at h; subst h; have:=ih r m hq; simp; omega
    ·simp at h
theorem wordOf_le {l:List UInt8} {n:Nat} (h:wordOf l=some n):n + 2≤l.length:=by
 cases l with
 |nil=>simp [wordOf] at h
 |cons c r =>
  simp only [wordOf] at h
  split at h
  ·have:=quote_le _ _ _ h; simp; omega
  ·simp at h
theorem numOf_none (l:List UInt8) (h:∀ v,Lib.parseIntB 64 l≠.ok v):numOf l=none:=by
 unfold numOf
 split
 ·next v hv=>exact absurd hv (h v)
 ·rfl
theorem parse_range (l:List UInt8) (v:Int) (h:Lib.parseIntB 64 l=.ok v):-9223372036854775808≤v∧v≤9223372036854775807:=by
 have hp:(2:Nat) ^ (64 - 1)=9223372036854775808:=by decide
 cases l with
 |nil=>simp [Lib.parseIntB] at h
 |cons c r =>
  simp only [Lib.parseIntB,hp] at h
  cases hu:Lib.parseUintB 64 (if c.toNat=43∨c.toNat=45 then r else c :: r) with
  |ok u =>
   rw [hu] at h
   simp only at h
   by_cases h1:¬ c.toNat=45∧9223372036854775808≤u
   ·rw [if_pos h1] at h; cases h
   ·rw [if_neg h1] at h
    by_cases h2:c.toNat=45∧9223372036854775808 < u
    ·rw [if_pos h2] at h; cases h
    ·rw [if_neg h2] at h
     injection h with h
     subst h
     split <;> omega
  |_=>rw [hu] at h; cases h
def tx (l:List UInt8) (i:Nat):List UInt8:=(l.drop i).take (tok (l.drop i)).2
def nxt (l:List UInt8) (i:Nat):Nat:=skip l (i + (tok (l.drop i)).2)
def oneB (l:List UInt8) (i:Nat) (signs:List UInt8):Bool :=
 match tx l i with
 |[c]=>(tok (l.drop i)).1 == 6 && decide (0≤Lib.indexByte signs c)
 |_=>false
def termK (t:List UInt8) (its:Nat):Nat :=
 if t=[105,116] then (if 0 < its then 4 else 0)
 else if t=[105,102] then 9
 else if t=[115,105,122,101] then 10
 else if t=[115,117,109] then 11
 else if t=[119,111,114,100] then 12
 else if t=[109,105,110]∨t=[109,97,120]∨t=[97,116] then 13
 else if t=[116,114,121] then 14
 else if t=[101,97,99,104] then 15
 else if t=[115,111,109,101] then 16
 else 0
def signK (t:List UInt8):Nat :=
 if t=[45] then 5 else if t=[40] then 6 else if t=[91] then 7 else if t=[123] then 8 else 0
def kindOf (k:Nat) (t:List UInt8) (its:Nat):Nat :=
 if k=2∨k=3 then 2 else if k=4 then 3 else if k=5 then termK t its else if k=6 then signK t else 0
def kind (l:List UInt8) (i its:Nat):Nat:=kindOf (tok (l.drop i)).1 (tx l i) its
theorem tok_le (l:List UInt8):(tok l).2≤l.length:=by
 cases l with
 |nil=>simp [tok]
 |cons c r =>
  rw [tok_cons (c :: r) c r rfl]
  have h1:=lead_le isDig (c :: r)
  have h2:=lead_le isAl (c :: r)
  split
  ·split <;> simp <;> simp at h1 <;> omega
  ·split
   ·split
    ·exact h2
    ·split
     ·simp
     ·exact h2
   ·split
    ·cases hw:wordOf (c :: r) with
     |none=>simp [wordTok]
     |some n=>have:=wordOf_le hw; simpa [wordTok] using this
    ·split <;> simp
theorem tok_sign (l:List UInt8) (h:(tok l).1=6):∃ c r,l=c :: r∧tok l=(6,1):=by
 cases l with
 |nil=>simp [tok] at h
 |cons c r =>
  refine ⟨c,r,rfl,?_⟩
  rw [tok_cons (c :: r) c r rfl] at h ⊢
  split at h
  ·split at h <;> simp at h
  ·split at h
   ·split at h
    ·simp at h
    ·split at h <;> simp at h
   ·split at h
    ·cases hw:wordOf (c :: r) <;> rw [hw] at h <;> simp [wordTok] at h
    ·split at h
     ·simp_all
     ·simp at h
theorem nxt_le (l:List UInt8) (i:Nat) (h:i≤l.length):nxt l i≤l.length:=by
 apply skip_le
 have:=tok_le (l.drop i)
 simp only [List.length_drop] at this
 omega
theorem tok_in (l:List UInt8) (i:Nat) (h:i≤l.length):i + (tok (l.drop i)).2≤l.length:=by
 have:=tok_le (l.drop i)
 simp only [List.length_drop] at this
 omega
theorem getElem_data (s:ByteArray) (k:Nat) (h:k < s.size):s[k]=s.data.toList[k]'(by simpa using h):=by
 simp [ByteArray.getElem_eq_getElem_data]
end Lard
namespace Lard
def expect (l:List UInt8) (t:List UInt8) (i:Nat):Except (Nat×Nat) Nat :=
 if tx l i=t then .ok (nxt l i) else .error (3,i)
def andThen (r:Except (Nat×Nat) Nat) (f:Nat→Except (Nat×Nat) Nat):Except (Nat×Nat) Nat :=
 match r with
 |.ok j=>f j
 |.error e=>.error e
def parts (l:List UInt8) (k i:Nat) (R F I W:Nat→Except (Nat×Nat) Nat):Except (Nat×Nat) Nat :=
 if k=5 then F i
 else if k=6 then andThen (R i) (expect l [41])
 else if k=7 then andThen (R i) (expect l [93])
 else if k=8 then (if tx l i=[125] then .ok (nxt l i) else andThen (R i) I)
 else if k=9 then andThen (andThen (R i) (expect l [116,104,101,110])) fun j=>andThen (andThen (R j) (expect l [101,108,115,101])) F
 else if k=10∨k=11∨k=12 then andThen (expect l [40] i) fun j=>andThen (R j) (expect l [41])
 else if k=13∨k=14 then andThen (expect l [40] i) fun j=>andThen (andThen (R j) (expect l [44])) fun j=>andThen (R j) (expect l [41])
 else if k=15∨k=16 then andThen (expect l [40] i) fun j=>andThen (andThen (R j) (expect l [44])) fun j=>andThen (W j) (expect l [41])
 else .ok i
def P (l:List UInt8):Nat→Nat→Nat→Nat→Nat→Except (Nat×Nat) Nat
 |0,_,_,_,_=>.error (0,0)
 |n + 1,tag,deep,its,i =>
  if tag=0 then andThen (P l n 1 deep its i) fun j=>if oneB l j [60,61]=true then P l n 1 deep its (nxt l j) else .ok j
  else if tag=1 then andThen (P l n 2 deep its i) fun j=>P l n 4 deep its j
  else if tag=2 then andThen (P l n 3 deep its i) fun j=>P l n 5 deep its j
  else if tag=3 then
   (if kind l i its=0 then .error (3,i) else if deep=20 then .error (4,i)
   else parts l (kind l i its) (nxt l i) (fun j=>P l n 0 (deep + 1) its j) (fun j=>P l n 3 (deep + 1) its j) (fun j=>P l n 6 (deep + 1) its j) (fun j=>P l n 0 (deep + 1) (its + 1) j))
  else if tag=4 then (if oneB l i [43,45]=true then andThen (P l n 2 deep its (nxt l i)) fun j=>P l n 4 deep its j else .ok i)
  else if tag=5 then (if oneB l i [42,47]=true then andThen (P l n 3 deep its (nxt l i)) fun j=>P l n 5 deep its j else .ok i)
  else (if tx l i=[44] then andThen (P l n 0 deep its (nxt l i)) fun j=>P l n 6 deep its j else expect l [125] i)
def endOf (l:List UInt8):Except (Nat×Nat) Nat→Nat×Nat
 |.ok j=>if (tok (l.drop j)).1=0 then (0,0) else (3,j)
 |.error e=>e
def check (l:List UInt8):Nat×Nat :=
 if 200 < l.length then (2,0)
 else endOf l (P l (8 * l.length + 5) 0 0 0 (skip l 0))
def nd (tag:Nat):Nat:=if tag=0 then 4 else if tag=1 then 3 else if tag=2 then 2 else 1
theorem andThen_ok {r:Except (Nat×Nat) Nat} {f:Nat→Except (Nat×Nat) Nat} {k:Nat} (h:andThen r f=.ok k):∃ j,r=.ok j∧f j=.ok k:=by
 cases r with
 |ok j=>exact ⟨j,rfl,h⟩
 |error e=>cases h
theorem expect_ok {l t:List UInt8} {i k:Nat} (h:expect l t i=.ok k):tx l i=t∧k=nxt l i:=by
 unfold expect at h
 split at h
 ·rename_i h1; cases h; exact ⟨h1,rfl⟩
 ·cases h
theorem tx_pos {l:List UInt8} {i:Nat} (h:tx l i≠[]):1≤(tok (l.drop i)).2:=by
 rcases Nat.eq_zero_or_pos (tok (l.drop i)).2 with h0 | h0
 ·exfalso; apply h; rw [tx,h0]; rfl
 ·exact h0
theorem nxt_gt {l:List UInt8} {i:Nat} (h:1≤(tok (l.drop i)).2):i + 1≤nxt l i:=by
 have:=skip_ge l (i + (tok (l.drop i)).2)
 unfold nxt; omega
theorem expect_prog {l t:List UInt8} {i k:Nat} (h:expect l t i=.ok k) (ht:t≠[]) (hi:i≤l.length):i + 1≤k∧k≤l.length:=by
 obtain ⟨h1,rfl⟩:=expect_ok h
 exact ⟨nxt_gt (tx_pos (by rw [h1]; exact ht)),nxt_le l i hi⟩
theorem one_pos {l:List UInt8} {i:Nat} {signs:List UInt8} (h:oneB l i signs=true):1≤(tok (l.drop i)).2:=by
 apply tx_pos
 intro h0
 rw [oneB,h0] at h
 cases h
theorem lead_pos (p:UInt8→Bool) (c:UInt8) (r:List UInt8) (h:p c=true):1≤lead p (c :: r):=by
 simp [lead,h]
theorem tok_pos (l:List UInt8) (h:2≤(tok l).1):1≤(tok l).2:=by
 cases l with
 |nil=>simp [tok] at h
 |cons c r =>
  rw [tok_cons (c :: r) c r rfl] at h ⊢
  by_cases h1:isDig c=true
  ·rw [if_pos h1] at h ⊢
   have:=lead_pos isDig c r h1
   split at h
   ·rename_i h2; rw [if_pos h2]; exact this
   ·simp at h
  ·rw [if_neg h1] at h ⊢
   by_cases h2:isLet c=true
   ·rw [if_pos h2] at h ⊢
    have:=lead_pos isAl c r (by unfold isAl alB; unfold isLet at h2; rw [h2]; rfl)
    split
    ·exact this
    ·rename_i h3
     rw [if_neg h3] at h
     split
     ·rename_i h4; rw [if_pos h4] at h; simp at h
     ·exact this
   ·rw [if_neg h2] at h ⊢
    split
    ·rename_i h3
     rw [if_pos h3] at h
     cases hw:wordOf (c :: r) with
     |none=>rw [hw] at h; simp [wordTok] at h
     |some n=>simp [wordTok]
    ·rename_i h3
     rw [if_neg h3] at h
     split
     ·simp
     ·rename_i h4; rw [if_neg h4] at h; simp at h
theorem kind_pos {l:List UInt8} {i its:Nat} (h:kind l i its≠0):1≤(tok (l.drop i)).2:=by
 apply tok_pos
 unfold kind kindOf at h
 split at h
 ·rename_i h1; omega
 ·split at h
  ·omega
  ·split at h
   ·omega
   ·split at h
    ·omega
    ·exact absurd rfl h
theorem parts_prog {l:List UInt8} {k i j:Nat} {R F I W:Nat→Except (Nat×Nat) Nat} (h:parts l k i R F I W=.ok j) (hi:i≤l.length)
  (hR:∀ a b,R a=.ok b→a≤l.length→a≤b∧b≤l.length) (hF:∀ a b,F a=.ok b→a≤l.length→a≤b∧b≤l.length)
  (hI:∀ a b,I a=.ok b→a≤l.length→a≤b∧b≤l.length) (hW:∀ a b,W a=.ok b→a≤l.length→a≤b∧b≤l.length):i≤j∧j≤l.length:=by
 have hE:∀ (t:List UInt8) (a b:Nat),t≠[]→expect l t a=.ok b→a≤l.length→a≤b∧b≤l.length:=fun t a b ht h ha=>by
  have:=expect_prog h ht ha; omega
 unfold parts at h
 by_cases h5:k=5
 ·rw [if_pos h5] at h; exact hF _ _ h hi
 rw [if_neg h5] at h
 by_cases h6:k=6
 ·rw [if_pos h6] at h
  obtain ⟨a,h1,h2⟩:=andThen_ok h
  have a1:=hR _ _ h1 hi
  have a2:=hE _ _ _ (by simp) h2 a1.2
  omega
 rw [if_neg h6] at h
 by_cases h7:k=7
 ·rw [if_pos h7] at h
  obtain ⟨a,h1,h2⟩:=andThen_ok h
  have a1:=hR _ _ h1 hi
  have a2:=hE _ _ _ (by simp) h2 a1.2
  omega
 rw [if_neg h7] at h
 by_cases h8:k=8
 ·rw [if_pos h8] at h
  by_cases hb:tx l i=[125]
  ·rw [if_pos hb] at h
   cases h
   have:=nxt_gt (tx_pos (l:=l) (i:=i) (by rw [hb]; simp))
   exact ⟨by omega,nxt_le l i hi⟩
  ·rw [if_neg hb] at h
   obtain ⟨a,h1,h2⟩:=andThen_ok h
   have a1:=hR _ _ h1 hi
   have a2:=hI _ _ h2 a1.2
   omega
 rw [if_neg h8] at h
 by_cases h9:k=9
 ·rw [if_pos h9] at h
  obtain ⟨b,h1,h2⟩:=andThen_ok h
  obtain ⟨a,h3,h4⟩:=andThen_ok h1
  obtain ⟨d,h5,h6⟩:=andThen_ok h2
  obtain ⟨c,h7,h8⟩:=andThen_ok h5
  have a1:=hR _ _ h3 hi
  have a2:=hE _ _ _ (by simp) h4 a1.2
  have a3:=hR _ _ h7 a2.2
  have a4:=hE _ _ _ (by simp) h8 a3.2
  have a5:=hF _ _ h6 a4.2
  omega
 rw [if_neg h9] at h
 by_cases h10:k=10∨k=11∨k=12
 ·rw [if_pos h10] at h
  obtain ⟨a,h1,h2⟩:=andThen_ok h
  obtain ⟨b,h3,h4⟩:=andThen_ok h2
  have a1:=hE _ _ _ (by simp) h1 hi
  have a2:=hR _ _ h3 a1.2
  have a3:=hE _ _ _ (by simp) h4 a2.2
  omega
 rw [if_neg h10] at h
 by_cases h13:k=13∨k=14
 ·rw [if_pos h13] at h
  obtain ⟨a,h1,h2⟩:=andThen_ok h
  obtain ⟨c,h3,h4⟩:=andThen_ok h2
  obtain ⟨b,h5,h6⟩:=andThen_ok h3
  obtain ⟨d,h7,h8⟩:=andThen_ok h4
  have a1:=hE _ _ _ (by simp) h1 hi
  have a2:=hR _ _ h5 a1.2
  have a3:=hE _ _ _ (by simp) h6 a2.2
  have a4:=hR _ _ h7 a3.2
  have a5:=hE _ _ _ (by simp) h8 a4.2
  omega
 rw [if_neg h13] at h
 by_cases h15:k=15∨k=16
 ·rw [if_pos h15] at h
  obtain ⟨a,h1,h2⟩:=andThen_ok h
  obtain ⟨c,h3,h4⟩:=andThen_ok h2
  obtain ⟨b,h5,h6⟩:=andThen_ok h3
  obtain ⟨d,h7,h8⟩:=andThen_ok h4
  have a1:=hE _ _ _ (by simp) h1 hi
  have a2:=hR _ _ h5 a1.2
  have a3:=hE _ _ _ (by simp) h6 a2.2
  have a4:=hW _ _ h7 a3.2
  have a5:=hE _ _ _ (by simp) h8 a4.2
  omega
 rw [if_neg h15] at h
 cases h
 exact ⟨Nat.le_refl _,hi⟩
theorem P_prog (l:List UInt8):∀ (n tag deep its i j:Nat),P l n tag deep its i=.ok j→i≤l.length→i + (if tag≤3 then 1 else 0)≤j∧j≤l.length:=by
 intro n
 induction n with
 |zero=>intro tag deep its i j h; simp [P] at h
 |succ n ih =>
  intro tag deep its i j h hi
  have ih0:∀ (tag deep its i j:Nat),P l n tag deep its i=.ok j→i≤l.length→i≤j∧j≤l.length:=fun tag deep its i j h hi=>by
   have:=ih tag deep its i j h hi
   omega
  have ih1:∀ (tag deep its i j:Nat),tag≤3→P l n tag deep its i=.ok j→i≤l.length→i + 1≤j∧j≤l.length:=fun tag deep its i j ht h hi=>by
   have:=ih tag deep its i j h hi
   rw [if_pos ht] at this; exact this
  rw [P] at h
  by_cases t0:tag=0
  ·rw [if_pos t0] at h
   obtain ⟨a,h1,h2⟩:=andThen_ok h
   have a1:=ih1 _ _ _ _ _ (by omega) h1 hi
   subst t0
   split at h2
   ·have a2:=nxt_le l a a1.2
    have a3:=ih0 _ _ _ _ _ h2 a2
    have a4:=skip_ge l (a + (tok (l.drop a)).2)
    have a5:nxt l a=skip l (a + (tok (l.drop a)).2):=rfl
    simp; omega
   ·cases h2; simp; omega
  rw [if_neg t0] at h
  by_cases t1:tag=1
  ·rw [if_pos t1] at h
   obtain ⟨a,h1,h2⟩:=andThen_ok h
   have a1:=ih1 _ _ _ _ _ (by omega) h1 hi
   have a2:=ih0 _ _ _ _ _ h2 a1.2
   subst t1; simp; omega
  rw [if_neg t1] at h
  by_cases t2:tag=2
  ·rw [if_pos t2] at h
   obtain ⟨a,h1,h2⟩:=andThen_ok h
   have a1:=ih1 _ _ _ _ _ (by omega) h1 hi
   have a2:=ih0 _ _ _ _ _ h2 a1.2
   subst t2; simp; omega
  rw [if_neg t2] at h
  by_cases t3:tag=3
  ·rw [if_pos t3] at h
   by_cases hk:kind l i its=0
   ·rw [if_pos hk] at h; cases h
   ·rw [if_neg hk] at h
    split at h
    ·cases h
    ·have a1:=nxt_gt (kind_pos hk)
     have a2:=parts_prog h (nxt_le l i hi) (fun a b=>ih0 _ _ _ a b) (fun a b=>ih0 _ _ _ a b) (fun a b=>ih0 _ _ _ a b) (fun a b=>ih0 _ _ _ a b)
     subst t3; simp; omega
  rw [if_neg t3] at h
  have ht:¬ tag≤3:=by omega
  rw [if_neg ht]
  by_cases t4:tag=4
  ·rw [if_pos t4] at h
   split at h
   ·rename_i ho
    obtain ⟨a,h1,h2⟩:=andThen_ok h
    have a0:=nxt_gt (one_pos ho)
    have a1:=ih0 _ _ _ _ _ h1 (nxt_le l i hi)
    have a2:=ih0 _ _ _ _ _ h2 a1.2
    omega
   ·cases h; omega
  rw [if_neg t4] at h
  by_cases t5:tag=5
  ·rw [if_pos t5] at h
   split at h
   ·rename_i ho
    obtain ⟨a,h1,h2⟩:=andThen_ok h
    have a0:=nxt_gt (one_pos ho)
    have a1:=ih0 _ _ _ _ _ h1 (nxt_le l i hi)
    have a2:=ih0 _ _ _ _ _ h2 a1.2
    omega
   ·cases h; omega
  rw [if_neg t5] at h
  split at h
  ·rename_i ho
   obtain ⟨a,h1,h2⟩:=andThen_ok h
   have a0:=nxt_gt (tx_pos (l:=l) (i:=i) (by rw [ho]; simp))
   have a1:=ih0 _ _ _ _ _ h1 (nxt_le l i hi)
   have a2:=ih0 _ _ _ _ _ h2 a1.2
   omega
  ·have:=expect_prog h (by simp) hi
   omega
end Lard
namespace Lard
structure V where
 x:Sum Int (Sum (List UInt8) (List V))
def vn (i:Int):V:=⟨.inl i⟩
def vw (b:List UInt8):V:=⟨.inr (.inl b)⟩
def vl (l:List V):V:=⟨.inr (.inr l)⟩
def wrap (i:Int):Int:=(i + 9223372036854775808) % 18446744073709551616 - 9223372036854775808
def commas:List (List UInt8)→List UInt8
 |[]=>[]
 |[a]=>a
 |a :: b :: r=>a++44 :: commas (b :: r)
def wr:Nat→V→List UInt8
 |n,v=>match v.x with
  |.inl i=>Lib.itoa i
  |.inr (.inl b)=>39 :: (b++[39])
  |.inr (.inr l)=>match n with
   |0=>[]
   |m + 1=>123 :: (commas (l.map (wr m))++[125])
def nst:Nat→V→Nat
 |n,v=>match v.x with
  |.inl _=>0
  |.inr (.inl _)=>0
  |.inr (.inr l)=>match n with
   |0=>0
   |m + 1=>l.foldl (fun a u=>max a (nst m u)) 0 + 1
def lev:Nat→V→Bool
 |n,v=>match v.x with
  |.inl _=>true
  |.inr (.inl _)=>true
  |.inr (.inr l)=>match n with
   |0=>false
   |m + 1=>l.all (lev m)
def same:Nat→V→V→Bool
 |n,v,u=>match v.x,u.x with
  |.inl i,.inl j=>i == j
  |.inr (.inl a),.inr (.inl b)=>a == b
  |.inr (.inr l),.inr (.inr m)=>match n with
   |0=>false
   |k + 1=>l.length == m.length && (l.zip m).all fun p=>same k p.1 p.2
  |_,_=>false
def numIn (v:V):Except Nat Int :=
 match v.x with
 |.inl i=>.ok i
 |_=>.error 9
def listIn (v:V):Except Nat (List V) :=
 match v.x with
 |.inr (.inr l)=>.ok l
 |_=>.error 9
def listOf (l:List V):Except Nat V :=
 if 12 < l.length∨l.all (lev 2)=false then .error 10 else .ok (vl l)
def bit (b:Bool):V:=vn (if b then 1 else 0)
def nums (x y:V) (f:Int→Int→Except Nat V):Except Nat V :=
 match x.x,y.x with
 |.inl i,.inl j=>f i j
 |_,_=>.error 9
def lessB (a b:List UInt8):Bool:=Op.bytesLess a b
def plus (x y:V):Except Nat V :=
 match x.x,y.x with
 |.inl i,.inl j=>.ok (vn (wrap (i + j)))
 |.inr (.inl a),.inr (.inl b)=>if 30 < a.length + b.length then .error 10 else .ok (vw (a++b))
 |.inr (.inr l),.inr (.inr m)=>listOf (l++m)
 |_,_=>.error 9
def less (x y:V):Except Nat V :=
 match x.x,y.x with
 |.inl i,.inl j=>.ok (bit (decide (i < j)))
 |.inr (.inl a),.inr (.inl b)=>.ok (bit (lessB a b))
 |_,_=>.error 9
def place (i:Int) (n:Nat):Except Nat Nat :=
 if i < 0∨(n:Int)≤i then .error 7 else .ok i.toNat
def atPlace (x y:V):Except Nat V :=
 match y.x with
 |.inl i=>match x.x with
  |.inr (.inl b)=>match place i b.length with
   |.ok k=>.ok (vw ((b.drop k).take 1))
   |.error e=>.error e
  |.inr (.inr l)=>match place i l.length with
   |.ok k=>.ok (l[k]?.getD (vn 0))
   |.error e=>.error e
  |_=>.error 9
 |_=>.error 9
def make (op:Nat) (x y:V):Except Nat V :=
 if op=43 then plus x y
 else if op=45 then nums x y fun i j=>.ok (vn (wrap (i - j)))
 else if op=42 then nums x y fun i j=>.ok (vn (wrap (i * j)))
 else if op=47 then nums x y fun i j=>if j=0 then .error 8 else .ok (vn (wrap (i.tdiv j)))
 else if op=60 then less x y
 else if op=61 then .ok (bit (same 3 x y))
 else if op=109 then nums x y fun i j=>.ok (vn (min i j))
 else if op=120 then nums x y fun i j=>.ok (vn (max i j))
 else atPlace x y
def size (x:V):Except Nat V :=
 match x.x with
 |.inl _=>.error 9
 |.inr (.inl b)=>.ok (vn b.length)
 |.inr (.inr l)=>.ok (vn l.length)
def sumFrom:Int→List V→Except Nat V
 |a,[]=>.ok (vn a)
 |a,v :: r=>match v.x with
  |.inl i=>sumFrom (wrap (a + i)) r
  |_=>.error 9
def sumUp (x:V):Except Nat V :=
 match x.x with
 |.inr (.inr l)=>sumFrom 0 l
 |_=>.error 9
def asWord (x:V):Except Nat V :=
 match x.x with
 |.inl i=>.ok (vw (Lib.itoa i))
 |.inr (.inl b)=>.ok (vw b)
 |_=>.error 9
end Lard
section
set_option maxRecDepth 100000
set_option maxHeartbeats 400000
open Go.RowKit
theorem hide {p:Prop} (h:p):Hid p:=h
theorem isDigit_any (c:Int) (w:World) :
  Calls Tryz.prog 118 #[.int .u8 c] w fun e w'=>e=.returned (.bool (Lard.digB c))∧w'=w:=by
 go_enter Tryz.func118,Tryz.ntmps118
 go_wp2
 all_goals go_ret
 ·exact ⟨by simp [Lard.digB, *],rfl⟩
 ·exact ⟨by simp [Lard.digB]; omega,rfl⟩
theorem isLetter_any (c:Int) (w:World) :
  Calls Tryz.prog 120 #[.int .u8 c] w fun e w'=>e=.returned (.bool (Lard.letB c))∧w'=w:=by
 go_enter Tryz.func120,Tryz.ntmps120
 go_wp2
 all_goals go_ret
 ·exact ⟨by simp [Lard.letB, *],rfl⟩
 ·exact ⟨by simp [Lard.letB]; omega,rfl⟩
theorem letDig_any (c:Int) (w:World) :
  Calls Tryz.prog 156 #[.int .u8 c] w fun e w'=>e=.returned (.bool (Lard.alB c))∧w'=w:=by
 go_enter Tryz.func156,Tryz.ntmps156
 go_wp2_with (first | (go_at_call 118; refine (isDigit_any _ _).mono ?_; rintro e w' ⟨rfl,rfl⟩) | (go_at_call 120; refine (isLetter_any _ _).mono ?_; rintro e w' ⟨rfl,rfl⟩))
 all_goals go_ret
 all_goals exact ⟨by simp [Lard.alB, *],rfl⟩
theorem ext0 (s:ByteArray) {a b:Nat} (h:a=b):Ending.returned (.string (s.extract 0 a))=.returned (.string (s.extract 0 b)):=by rw [h]
theorem leading_dig (s:ByteArray) (w:World) (hs:s.size≤4611686018427387904) :
  Calls Tryz.prog 155 #[.string s,.func (.func 118) #[] #[]] w fun e w'=>e=.returned (.string (s.extract 0 (Lard.lead Lard.isDig s.data.toList)))∧w'=w:=by
 go_enter Tryz.func155,Tryz.ntmps155
 go_wp2_with fail
 go_loop [5] (fun i=>∃ k:Nat,k≤s.size∧i=.int .i64 k∧k≤Lard.lead Lard.isDig s.data.toList) (fun i=>s.size - (intOf i).toNat)
 case atStart=>exact ⟨0,Nat.zero_le _,rfl,Nat.zero_le _⟩
 case round =>
  obtain ⟨k,hk,rfl,hl⟩:=hrel
  by_cases hlt:k < s.size
  ·go_wp2_with (go_at_call 118; refine (isDigit_any _ _).mono ?_; rintro e w' ⟨rfl,rfl⟩)
   ·exact ⟨⟨k + 1,by omega,by go_num,Lard.lead_step _ _ k (by simpa using hlt) hl (by rw [←Lard.getElem_data s k hlt]; assumption)⟩,by simp [intOf]; omega⟩
   ·go_ret
    exact ⟨ext0 s (Lard.lead_stop _ _ k hl (fun _=>by rw [←Lard.getElem_data s k hlt]; assumption)).symm,rfl⟩
  ·go_wp2_with fail
   go_ret
   exact ⟨ext0 s (Lard.lead_stop _ _ k hl (fun h=>absurd (by simpa using h) hlt)).symm,rfl⟩
theorem leading_al (s:ByteArray) (w:World) (hs:s.size≤4611686018427387904) :
  Calls Tryz.prog 155 #[.string s,.func (.func 156) #[] #[]] w fun e w'=>e=.returned (.string (s.extract 0 (Lard.lead Lard.isAl s.data.toList)))∧w'=w:=by
 go_enter Tryz.func155,Tryz.ntmps155
 go_wp2_with fail
 go_loop [5] (fun i=>∃ k:Nat,k≤s.size∧i=.int .i64 k∧k≤Lard.lead Lard.isAl s.data.toList) (fun i=>s.size - (intOf i).toNat)
 case atStart=>exact ⟨0,Nat.zero_le _,rfl,Nat.zero_le _⟩
 case round =>
  obtain ⟨k,hk,rfl,hl⟩:=hrel
  by_cases hlt:k < s.size
  ·go_wp2_with (go_at_call 156; refine (letDig_any _ _).mono ?_; rintro e w' ⟨rfl,rfl⟩)
   ·exact ⟨⟨k + 1,by omega,by go_num,Lard.lead_step _ _ k (by simpa using hlt) hl (by rw [←Lard.getElem_data s k hlt]; assumption)⟩,by simp [intOf]; omega⟩
   ·go_ret
    exact ⟨ext0 s (Lard.lead_stop _ _ k hl (fun _=>by rw [←Lard.getElem_data s k hlt]; assumption)).symm,rfl⟩
  ·go_wp2_with fail
   go_ret
   exact ⟨ext0 s (Lard.lead_stop _ _ k hl (fun h=>absurd (by simpa using h) hlt)).symm,rfl⟩
end
section
set_option maxRecDepth 100000
set_option maxHeartbeats 1000000
open Go.RowKit
structure G (w:World):Prop where
 size:8≤w.heap.size
 tab : Lib.TabIs Tryz.prog w "internal/strconv.uint64pow10" .u64 Lib.pow10Tab
 syn : ∃ tp p, w.var? Tryz.prog "strconv.ErrSyntax" = some #[.iface tp p]
 ran : ∃ tp p, w.var? Tryz.prog "strconv.ErrRange" = some #[.iface tp p]
theorem globSyn : Tryz.prog.globalNamed "strconv.ErrSyntax" = some 4 := by kernel_rfl
theorem globRan : Tryz.prog.globalNamed "strconv.ErrRange" = some 5 := by kernel_rfl
theorem globTab : Tryz.prog.globalNamed "internal/strconv.uint64pow10" = some 1 := by kernel_rfl
theorem G.below {B:Nat} {w w':World} (g:G w) (h:Below B w w') (hB:8≤B):G w':=by
 obtain ⟨h1,h2,⟨a,ha,ha'⟩,⟨b,hb,hb'⟩⟩:=g
 exact ⟨Nat.le_trans h1 h.size,var?_below h globTab (by omega) h2,⟨a,ha,var?_below h globSyn (by omega) ha'⟩,⟨b,hb,var?_below h globRan (by omega) hb'⟩⟩
theorem isTerm_any (s:ByteArray) (w:World) :
  Calls Tryz.prog 157 #[.string s] w fun e w'=>e=.returned (.bool (Lard.termB s.data.toList))∧w'=w:=by
 go_enter Tryz.func157,Tryz.ntmps157
 go_wp2
 all_goals first
  |(exfalso; simp_all; done)
  |(go_ret; exact ⟨by rw [←Lib.toList_data]; simp [Lard.termB, *],rfl⟩)
theorem written_any (n:Int) (w:World) (g:G w) (h0:-9223372036854775808≤n) (h1:n≤9223372036854775807) :
  Calls Tryz.prog 171 #[.int .i64 n] w fun e w'=>e=.returned (.string ⟨(Lib.itoa n).toArray⟩)∧Below w.heap.size w w':=by
 go_enter Tryz.func171,Tryz.ntmps171
 go_wp2_with (go_at_call 211; refine (Tryz.strconv_FormatInt_10 _ h0 h1 _ g.tab).mono ?_; rintro e w' ⟨rfl,k,os,rfl⟩)
 go_ret
 exact ⟨rfl,Lib.below_grow _ _ (Nat.le_refl _) _ _⟩
theorem readNumber_bad (s:ByteArray) (w:World) (g:G w) (hs:s.size≤281474976710656) (h:∀ v,Lib.parseIntB 64 s.data.toList≠.ok v) :
  Calls Tryz.prog 130 #[.string s] w fun e w'=>e=.returned (.tuple #[.int .i64 0,.bool false])∧Below w.heap.size w w':=by
 have hc:Calls Tryz.prog 170 #[.string s,.int .i64 10,.int .i64 64] w fun e w'=>∃ n N,e=.returned (.tuple #[.int .i64 n,.iface 331 (.pointer (some ⟨N,0,none⟩))])∧Below w.heap.size w w':=by
  obtain ⟨a,ha,ha'⟩:=g.syn
  obtain ⟨b,hb,hb'⟩:=g.ran
  rcases hp:Lib.parseIntB 64 s.data.toList with v | _ | _
  ·exact absurd hp (h v)
  ·refine (Any.strconv_ParseInt_10_at64_syntax_var Tryz.laysC174 s hs hp a ha w ha').mono ?_
   rintro e w' ⟨N,rfl,_,_,hB⟩
   exact ⟨_,_,rfl,hB⟩
  ·refine (Any.strconv_ParseInt_10_at64_range_var Tryz.laysC174 s hs hp b hb w hb').mono ?_
   rintro e w' ⟨N,rfl,_,_,hB⟩
   exact ⟨_,_,rfl,hB⟩
 have H:=hide hc
 clear hc h g
 go_enter Tryz.func130,Tryz.ntmps130
 go_wp2_with (go_at_call 170; refine H.out.mono ?_; rintro e w' ⟨n,N,rfl,hB⟩)
 go_ret2
 exact ⟨rfl,hB⟩
theorem readNumber_ok (s:ByteArray) (w:World) (g:G w) (hs:s.size≤281474976710656) (v:Int) (h:Lib.parseIntB 64 s.data.toList=.ok v) (h0:-9223372036854775808≤v) (h1:v≤9223372036854775807) (b:Bool) (hb:(Lib.itoa v == s.data.toList)=b) :
  Calls Tryz.prog 130 #[.string s] w fun e w'=>e=.returned (.tuple #[.int .i64 (if b then v else 0),.bool b])∧Below w.heap.size w w':=by
 have hc:=Tryz.strconv_ParseInt_10_at64_ok s (by omega) v h w
 have H:=hide hc
 have Hb:=hide hb
 clear hc h hb
 go_enter Tryz.func130,Tryz.ntmps130
 go_wp2_with (go_at_call 170; refine H.out.mono ?_; rintro e w' ⟨rfl,hw⟩)
 have hB:Below w.heap.size w w':=by
  rcases hw with rfl | ⟨t,rfl⟩
  ·exact Below.refl _ _
  ·exact Lib.bytesWorld_below _ _ _
 clear hw
 have g':=g.below hB g.size
 have hb':(Lib.itoa v == s.toList)=b:=by
  rw [Lib.toList_data]; exact Hb.out
 clear Hb
 go_wp2_with fail
 refine (written_any v _ g' h0 h1).mono ?_
 rintro e w2 ⟨rfl,hB2⟩
 have hB3:=hB.trans (hB2.mono hB.size)
 cases b
 ·go_wp2_with fail
  go_ret2
  exact ⟨rfl,hB3⟩
 ·go_wp2_with fail
  go_ret2
  exact ⟨rfl,hB3⟩
theorem readNumber_any (s:ByteArray) (w:World) (g:G w) (hs:s.size≤281474976710656) :
  Calls Tryz.prog 130 #[.string s] w fun e w'=>e=.returned (.tuple #[.int .i64 ((Lard.numOf s.data.toList).getD 0),.bool (Lard.numOf s.data.toList).isSome])∧Below w.heap.size w w':=by
 by_cases h:∃ v,Lib.parseIntB 64 s.data.toList=.ok v
 ·obtain ⟨v,h⟩:=h
  have hr:=Lard.parse_range _ _ h
  refine (readNumber_ok s w g hs v h hr.1 hr.2 _ rfl).mono ?_
  rintro e w' ⟨rfl,hB⟩
  refine ⟨?_,hB⟩
  simp only [Lard.numOf,h]
  by_cases hb:(Lib.itoa v == s.data.toList)=true
  ·simp [hb]
  ·simp at hb; simp [hb]
 ·have h':∀ v,Lib.parseIntB 64 s.data.toList≠.ok v:=fun v hv=>h ⟨v,hv⟩
  refine (readNumber_bad s w g hs h').mono ?_
  rintro e w' ⟨rfl,hB⟩
  refine ⟨?_,hB⟩
  rw [Lard.numOf_none _ h']
  rfl
def wordRes (s:ByteArray):Option Nat→Value
 |some n=>.tuple #[.string (s.extract 1 (n + 1)),.bool true]
 |none=>.tuple #[.string ⟨#[]⟩,.bool false]
theorem readWord_any (s:ByteArray) (w:World) (_hs:s.size≤4611686018427387904) :
  Calls Tryz.prog 127 #[.string s] w fun e w'=>e=.returned (wordRes s (Lard.wordOf s.data.toList))∧w'=w:=by
 by_cases hq:Lib.hasPrefix s.data.toList [39]=true
 ·have hq0:=Lard.quoteAt_start _ hq
  go_enter Tryz.func127,Tryz.ntmps127
  go_wp2_with (go_at_call 126; refine (Tryz.strings_HasPrefix _ _ _).mono ?_; rintro e w' ⟨rfl,rfl⟩)
  clear hq
  go_loop [4] (fun i=>∃ k:Nat,i=.int .i64 k∧Lard.QuoteAt s.data.toList k) (fun i=>32 - (intOf i).toNat)
  case atStart=>exact ⟨1,rfl,hq0⟩
  case round =>
   clear hq0
   obtain ⟨k,rfl,hl⟩:=hrel
   have hk1:=hl.1
   have hk2:=hl.2.1
   by_cases hlt:k < s.size∧k≤31
   ·obtain ⟨hlt,hlt'⟩:=hlt
    have ge:=Lard.getElem_data s k hlt
    have GE:=hide ge
    clear ge
    have hln:k < s.data.toList.length:=by simpa using hlt
    by_cases h1:(s[k].toNat:Int)=39
    ·have hr:=Lard.quote_hit hl hln hlt' (by rw [←GE.out]; exact UInt8.toNat_inj.1 (by show s[k].toNat=39; omega))
     have HR:=hide hr
     clear hr
     go_wp2_with fail
     go_ret2
     exact ⟨by rw [HR.out]; simp only [wordRes]; rw [show k - 1 + 1=k by omega]; rfl,rfl⟩
    ·have h1':¬ s.data.toList[k]=39:=by
      rw [←GE.out]; intro e; rw [e] at h1; exact h1 rfl
     by_cases h2:Lard.wordC s[k]=true
     ·have hn:=Lard.quote_next hl hln hlt' h1' (by rw [←GE.out]; exact h2)
      have HN:=hide hn
      have h3:32≤(s[k].toNat:Int)∧(s[k].toNat:Int)≤126:=by simpa [Lard.wordC] using h2
      obtain ⟨h3,h4⟩:=h3
      have h1b:((s[k].toNat:Int) == 39)=false:=by simpa using h1
      clear hn h2 h1 h1'
      go_wp2_with fail
      exact ⟨⟨k + 1,by go_num,HN.out⟩,by simp [intOf]; omega⟩
     ·have h2':Lard.wordC s[k]=false:=by simpa using h2
      have hr:=Lard.quote_bad hl hln hlt' h1' (by rw [←GE.out]; exact h2')
      have HR:=hide hr
      have h3:(s[k].toNat:Int) < 32∨126 < (s[k].toNat:Int):=by
       simp [Lard.wordC] at h2'; omega
      have h1b:((s[k].toNat:Int) == 39)=false:=by simpa using h1
      clear hr h2 h2' h1 h1'
      by_cases h5:(s[k].toNat:Int) < 32
      ·clear h3
       go_wp2_with fail
       go_ret2
       exact ⟨by rw [HR.out]; rfl,rfl⟩
      ·have h6:126 < (s[k].toNat:Int):=by omega
       clear h3
       go_wp2_with fail
       go_ret2
       exact ⟨by rw [HR.out]; rfl,rfl⟩
   ·have hr:=Lard.quote_end hl (by simp at hlt ⊢; omega)
    have HR:=hide hr
    clear hr
    by_cases h5:k < s.size
    ·have h6:¬ k≤31:=fun h=>hlt ⟨h5,h⟩
     clear hlt
     go_wp2_with fail
     go_ret2
     exact ⟨by rw [HR.out]; rfl,rfl⟩
    ·clear hlt
     go_wp2_with fail
     go_ret2
     exact ⟨by rw [HR.out]; rfl,rfl⟩
 ·have hq':Lib.hasPrefix s.data.toList [39]=false:=by simpa using hq
  have HR:=hide (Lard.wordOf_none _ hq')
  clear hq
  go_enter Tryz.func127,Tryz.ntmps127
  go_wp2_with (go_at_call 126; refine (Tryz.strings_HasPrefix _ _ _).mono ?_; rintro e w' ⟨rfl,rfl⟩)
  go_ret2
  exact ⟨by rw [HR.out]; rfl,rfl⟩
end
end Go.Proofs.YtpekpdimdelncaaGreatDoor
