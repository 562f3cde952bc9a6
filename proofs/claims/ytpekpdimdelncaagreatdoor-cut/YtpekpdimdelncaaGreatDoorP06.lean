/- Out of: GT2, GT3, Lar, L1. -/
import Derived.Test.YtpekpdimdelncaaGreatDoorP05
import Derived.Test.YtpekpdimdelncaaGreatDoorP02
import Derived.Laws.IdiomStrings
set_option linter.unusedVariables false
namespace Go.Proofs.YtpekpdimdelncaaGreatDoor
namespace Lard
theorem okT_mk {n:Nat} {b:Bool} {t:T} (h1:1≤t.kind) (h2:t.kind≤16) (h3:t.kind=8∨t.parts.length=partsOf t.kind) (h4:t.parts.length≤200)
  (h5:t.kind=1→t.op∈[43,45,42,47,60,61]) (h6:t.kind=13→t.op∈[109,120,64]) (h7:t.kind=2→t.is.isSome=true) (h8:t.kind=4→b=true)
  (h9:if t.kind=15∨t.kind=16 then okT n b (t.part 0)=true∧okT n true (t.part 1)=true else ∀ u∈t.parts,okT n b u=true):okT (n + 1) b t=true:=by
 rw [okT]
 have e3:(t.kind == 8 || t.parts.length == partsOf t.kind)=true:=by
  rcases h3 with h | h <;> simp [h]
 have e5:(t.kind != 1 || [43,45,42,47,60,61].contains t.op)=true:=by
  by_cases h:t.kind=1
  ·simp only [List.contains_iff_mem.2 (h5 h),Bool.or_true]
  ·simp [h]
 have e6:(t.kind != 13 || [109,120,64].contains t.op)=true:=by
  by_cases h:t.kind=13
  ·simp only [List.contains_iff_mem.2 (h6 h),Bool.or_true]
  ·simp [h]
 have e7:(t.kind != 2 || t.is.isSome)=true:=by
  by_cases h:t.kind=2
  ·simp [h7 h]
  ·simp [h]
 have e8:(t.kind != 4 || b)=true:=by
  by_cases h:t.kind=4
  ·simp [h8 h]
  ·simp [h]
 rw [e3,e5,e6,e7,e8]
 simp only [h1,h2,h4,decide_true,Bool.true_and,Bool.and_true]
 by_cases hk:t.kind=15∨t.kind=16
 ·rw [if_pos hk] at h9 ⊢
  rw [h9.1,h9.2]; rfl
 ·rw [if_neg hk] at h9 ⊢
  rw [List.all_eq_true]
  exact h9
theorem okT_up:∀ {n:Nat} {b:Bool} {t:T},okT n b t=true→okT (n + 1) b t=true
 |0,_,_,h=>by simp [okT] at h
 |n + 1,b,t,h=>by
  rw [okT] at h ⊢
  simp only [Bool.and_eq_true] at h ⊢
  refine ⟨h.1,?_⟩
  have h2:=h.2
  split at h2
  ·rename_i hk
   rw [if_pos hk]
   simp only [Bool.and_eq_true] at h2 ⊢
   exact ⟨okT_up h2.1,okT_up h2.2⟩
  ·rename_i hk
   rw [if_neg hk]
   rw [List.all_eq_true] at h2 ⊢
   exact fun u hu=>okT_up (h2 u hu)
theorem okT_le {n m:Nat} {b:Bool} {t:T} (h:okT n b t=true) (hm:n≤m):okT m b t=true:=by
 induction hm with
 |refl=>exact h
 |step _ ih=>exact okT_up ih
theorem thenT_ok {r:RT} {f:Nat→List T→RT} {x:Nat×List T} (h:thenT r f=.ok x):∃ j ts,r=.ok (j,ts)∧f j ts=.ok x:=by
 rcases r with e | ⟨j,ts⟩
 ·cases h
 ·exact ⟨j,ts,rfl,h⟩
theorem expT_ok {l t:List UInt8} {i k:Nat} {ts us:List T} (h:expT l t i ts=.ok (k,us)) (ht:t≠[]) (hi:i≤l.length):us=ts∧i + 1≤k∧k≤l.length:=by
 have h0:=place_exp l t i ts
 rw [h] at h0
 have h1:=expect_prog h0.symm ht hi
 unfold expT at h
 split at h
 ·cases h; exact ⟨rfl,h1⟩
 ·cases h
def One (l:List UInt8) (m:Nat) (b:Bool) (i j:Nat) (ts:List T):Prop:=i + 1≤j∧j≤l.length∧∃ t,ts=[t]∧okT m b t=true
theorem One.exp {l t:List UInt8} {m:Nat} {b:Bool} {i:Nat} {r:RT} {x:Nat×List T} (hr:∀ j ts,r=.ok (j,ts)→One l m b i j ts) (h:thenT r (expT l t)=.ok x) (ht:t≠[]):One l m b i x.1 x.2:=by
 obtain ⟨j,ts,h1,h2⟩:=thenT_ok h
 obtain ⟨a1,a2,a3⟩:=hr j ts h1
 obtain ⟨k,us⟩:=x
 obtain ⟨rfl,b1,b2⟩:=expT_ok h2 ht a2
 exact ⟨by show i + 1≤k; omega,b2,a3⟩
def Parts (l:List UInt8) (m:Nat) (b:Bool) (k i j:Nat) (ts:List T):Prop :=
 i≤j∧j≤l.length∧(k=8∨ts.length=partsOf k)∧ts.length≤(j - i) + 3∧(k=8→ts.length≤j - i) ∧
  (if k=15∨k=16 then ∃ t u,ts=[t,u]∧okT m b t=true∧okT m true u=true else ∀ u∈ts,okT m b u=true)
theorem parts_ok {l:List UInt8} {m:Nat} {b:Bool} {k i j:Nat} {ts:List T} {R F W:Nat→RT} {I:Nat→List T→RT} (h:partsT l k i R F W I=.ok (j,ts)) (hi:i≤l.length) (hk:2≤k) (hk':k≤16)
  (hR:∀ a j ts,a≤l.length→R a=.ok (j,ts)→One l m b a j ts) (hF:∀ a j ts,a≤l.length→F a=.ok (j,ts)→One l m b a j ts) (hW:∀ a j ts,a≤l.length→W a=.ok (j,ts)→One l m true a j ts)
  (hI:∀ a acc j ts,a≤l.length→(∀ u∈acc,okT m b u=true)→I a acc=.ok (j,ts)→a≤j∧j≤l.length∧ts.length≤acc.length + (j - a)∧∀ u∈ts,okT m b u=true):Parts l m b k i j ts:=by
 have one:∀ k,k≠8→partsOf k=1→¬ (k=15∨k=16)→One l m b i j ts→Parts l m b k i j ts:=fun k h8 h1 hn ⟨a1,a2,t,a3,a4⟩=>by
  subst a3
  refine ⟨by omega,a2,.inr (by simp [h1]),by simp,fun h=>absurd h h8,?_⟩
  rw [if_neg hn]
  intro u hu
  simp at hu
  subst hu
  exact a4
 unfold partsT at h
 split at h
 ·rename_i e; subst e
  exact one 5 (by decide) rfl (by decide) (hF i j ts hi h)
 split at h
 ·rename_i e; subst e
  exact one 6 (by decide) rfl (by decide) (One.exp (fun j ts=>hR i j ts hi) h (by simp))
 split at h
 ·rename_i e; subst e
  exact one 7 (by decide) rfl (by decide) (One.exp (fun j ts=>hR i j ts hi) h (by simp))
 split at h
 ·rename_i e; subst e
  split at h
  ·rename_i hb
   cases h
   have h1:=nxt_gt (tx_pos (l:=l) (i:=i) (by rw [hb]; simp))
   have h2:=nxt_le l i hi
   exact ⟨by omega,h2,.inl rfl,by simp,fun _=>by simp,by simp⟩
  ·obtain ⟨a,us,h1,h2⟩:=thenT_ok h
   obtain ⟨a1,a2,t,rfl,a4⟩:=hR i a us hi h1
   obtain ⟨b1,b2,b3,b4⟩:=hI a _ j ts a2 (by simpa using a4) h2
   simp at b3
   refine ⟨by omega,b2,.inl rfl,by omega,fun _=>by omega,?_⟩
   rw [if_neg (by decide)]
   exact b4
 split at h
 ·rename_i e; subst e
  obtain ⟨a,t1,h1,h2⟩:=thenT_ok h
  obtain ⟨a1,a2,u1,e1,a4⟩:=One.exp (fun j ts=>hR i j ts hi) h1 (by simp)
  obtain ⟨c,t2,h3,h4⟩:=thenT_ok h2
  obtain ⟨c1,c2,u2,e2,c4⟩:=One.exp (fun j ts=>hR a j ts a2) h3 (by simp)
  obtain ⟨d,t3,h5,h6⟩:=thenT_ok h4
  obtain ⟨d1,d2,u3,e3,d4⟩:=hF c d t3 c2 h5
  dsimp only at a1 a2 e1 c1 c2 e2 e3
  cases h6
  subst e1 e2 e3
  refine ⟨by omega,d2,.inr rfl,by simp,fun h=>absurd h (by decide),?_⟩
  rw [if_neg (by decide)]
  intro u hu
  simp at hu
  rcases hu with rfl | rfl | rfl <;> assumption
 split at h
 ·rename_i e
  obtain ⟨a,t1,h1,h2⟩:=thenT_ok h
  obtain ⟨_,a1,a2⟩:=expT_ok h1 (by simp) hi
  obtain ⟨c1,c2,c3⟩:=One.exp (fun j ts=>hR a j ts a2) h2 (by simp)
  dsimp only at c1 c2 c3
  refine one k (by omega) ?_ (by omega) ⟨by omega,c2,c3⟩
  rcases e with rfl | rfl | rfl <;> rfl
 split at h
 ·rename_i e
  obtain ⟨a,t1,h1,h2⟩:=thenT_ok h
  obtain ⟨_,a1,a2⟩:=expT_ok h1 (by simp) hi
  obtain ⟨c,t2,h3,h4⟩:=thenT_ok h2
  obtain ⟨c1,c2,u1,e1,c4⟩:=One.exp (fun j ts=>hR a j ts a2) h3 (by simp)
  obtain ⟨d,t3,h5,h6⟩:=thenT_ok h4
  obtain ⟨d1,d2,u2,e2,d4⟩:=One.exp (fun j ts=>hR c j ts c2) h5 (by simp)
  dsimp only at c1 c2 e1 d1 d2 e2
  cases h6
  subst e1 e2
  refine ⟨by omega,d2,.inr (by rcases e with rfl | rfl <;> rfl),by simp,fun h=>by omega,?_⟩
  rw [if_neg (by omega)]
  intro u hu
  simp at hu
  rcases hu with rfl | rfl <;> assumption
 split at h
 ·rename_i e
  obtain ⟨a,t1,h1,h2⟩:=thenT_ok h
  obtain ⟨_,a1,a2⟩:=expT_ok h1 (by simp) hi
  obtain ⟨c,t2,h3,h4⟩:=thenT_ok h2
  obtain ⟨c1,c2,u1,e1,c4⟩:=One.exp (fun j ts=>hR a j ts a2) h3 (by simp)
  obtain ⟨d,t3,h5,h6⟩:=thenT_ok h4
  obtain ⟨d1,d2,u2,e2,d4⟩:=One.exp (fun j ts=>hW c j ts c2) h5 (by simp)
  dsimp only at c1 c2 e1 d1 d2 e2
  cases h6
  subst e1 e2
  refine ⟨by omega,d2,.inr (by rcases e with rfl | rfl <;> rfl),by simp,fun h=>by omega,?_⟩
  rw [if_pos e]
  exact ⟨u1,u2,rfl,c4,d4⟩
 ·cases h
  have hp:partsOf k=0:=by
   have:k=2∨k=3∨k=4:=by omega
   rcases this with rfl | rfl | rfl <;> rfl
  refine ⟨Nat.le_refl _,hi,.inr (by simp [hp]),by simp,fun h=>by omega,?_⟩
  rw [if_neg (by omega)]
  simp
end Lard
namespace Lard
theorem ixm:∀ (l:List UInt8) (c:UInt8),0≤Lib.indexByte l c→c∈l
 |[],c,h=>by simp [Lib.indexByte] at h
 |b :: l,c,h=>by
  rw [Lib.indexByte] at h
  by_cases hb:(b == c)=true
  ·have:b=c:=by simpa using hb
   subst this; simp
  ·rw [if_neg hb] at h
   split at h
   ·simp at h
   ·rename_i h1
    have h1':Lib.indexByte l c≠-1:=by simpa using h1
    have hge:=Lib.indexByte_ge l c
    exact List.mem_cons_of_mem _ (ixm l c (by omega))
theorem one_op {l signs:List UInt8} {i:Nat} (h:oneB l i signs=true):∃ c,tx l i=[c]∧c∈signs:=by
 unfold oneB at h
 split at h
 ·rename_i c hc
  simp at h
  exact ⟨c,hc,ixm _ _ h.2⟩
 ·cases h
theorem termK_range (t:List UInt8) (its:Nat):∀ x,termK t its=x→(x=0∨(4≤x∧x≤16))∧(x=4→0 < its):=by
 intro x hx
 unfold termK at hx
 split at hx
 ·split at hx <;> omega
 repeat (split at hx; · omega)
 omega
theorem signK_range (t:List UInt8):∀ x,signK t=x→x=0∨(5≤x∧x≤8):=by
 intro x hx
 unfold signK at hx
 repeat (split at hx; · omega)
 omega
theorem kind_both (l:List UInt8) (i its:Nat):∀ x,kind l i its=x→(x=0∨(2≤x∧x≤16))∧(x=4→0 < its):=by
 intro x hx
 unfold kind kindOf at hx
 split at hx
 ·omega
 split at hx
 ·omega
 split at hx
 ·have:=termK_range _ _ _ hx
  exact ⟨by omega,this.2⟩
 split at hx
 ·have:=signK_range _ _ hx
  omega
 ·omega
theorem kind_range {l:List UInt8} {i its:Nat} (h:kind l i its≠0):2≤kind l i its∧kind l i its≤16:=by
 have:=(kind_both l i its _ rfl).1
 omega
theorem kind_it {l:List UInt8} {i its:Nat} (h:kind l i its=4):0 < its:=(kind_both l i its _ rfl).2 h
theorem kind_lit {l:List UInt8} {i its:Nat} (h:kind l i its=2):(isOf (l.drop i)).isSome=true:=by
 unfold kind kindOf at h
 split at h
 ·rename_i hk
  unfold isOf
  rcases hk with hk | hk <;> rw [hk] <;> rfl
 ·exfalso
  split at h
  ·omega
  split at h
  ·have:=termK_range _ _ _ h
   omega
  split at h
  ·have:=signK_range _ _ h
   omega
  ·omega
theorem byteOf_mem (t:List UInt8):byteOf t∈[109,120,64]:=by
 unfold byteOf
 split
 ·simp
 ·split <;> simp
def hT:Nat→Nat
 |0=>0
 |n + 1=>hT n + n + 2
theorem oper_ok {l signs:List UInt8} {i m:Nat} {b:Bool} {t u:T} (h:oneB l i signs=true) (hs:∀ c∈signs,c.toNat∈[43,45,42,47,60,61]) (ht:okT m b t=true) (hu:okT m b u=true):okT (m + 1) b (operT l i [t] [u])=true:=by
 obtain ⟨c,h1,h2⟩:=one_op h
 refine okT_mk (by simp [operT]) (by simp [operT]) (.inr rfl) (by simp [operT]) (fun _=>?_) (by simp [operT]) (by simp [operT]) (by simp [operT]) ?_
 ·simp only [operT,h1,List.headD_cons]
  exact hs c h2
 ·rw [if_neg (by simp [operT])]
  intro x hx
  simp [operT] at hx
  rcases hx with rfl | rfl <;> assumption
theorem node_ok {l:List UInt8} {i its j m:Nat} {ts:List T} (hl:l.length≤200) (hk:kind l i its≠0) (h:Parts l m (decide (0 < its)) (kind l i its) (nxt l i) j ts):okT (m + 1) (decide (0 < its)) (nodeT l (kind l i its) i ts)=true:=by
 have hr:=kind_range hk
 obtain ⟨h1,h2,h3,h4,h5,h6⟩:=h
 have hlen:ts.length≤200:=by
  rcases h3 with h | h
  ·have:=h5 h; omega
  ·rw [h]; unfold partsOf; split
   ·omega
   ·split
    ·omega
    ·split <;> omega
 refine okT_mk (by show 1≤kind l i its; omega) hr.2 h3 hlen (fun h=>?_) (fun h=>?_) (fun h=>kind_lit h) (fun h=>?_) ?_
 ·have:kind l i its=1:=h
  omega
 ·have:kind l i its=13:=h
  simp only [nodeT,this,if_true]
  exact byteOf_mem _
 ·simpa using kind_it h
 ·show if kind l i its=15∨kind l i its=16 then _ else _
  split at h6
  ·rename_i hh
   rw [if_pos hh]
   obtain ⟨t,u,rfl,a1,a2⟩:=h6
   exact ⟨a1,a2⟩
  ·rename_i hh
   rw [if_neg hh]
   exact h6
theorem PT_place {l:List UInt8} {n tag deep its i j:Nat} {acc ts:List T} (h:PT l n tag deep its i acc=.ok (j,ts)) (hi:i≤l.length):i + (if tag≤3 then 1 else 0)≤j∧j≤l.length:=by
 have h0:=place_PT l n tag deep its i acc
 rw [h] at h0
 exact P_prog l n tag deep its i j h0.symm hi
theorem PT_ok (l:List UInt8) (hl:l.length≤200):∀ (n:Nat),
  (∀ tag deep its i acc j ts,tag≤3→i≤l.length→PT l n tag deep its i acc=.ok (j,ts)→One l (hT n) (decide (0 < its)) i j ts) ∧
  (∀ tag deep its i a m j ts,(tag=4∨tag=5)→i≤l.length→hT n≤m→okT m (decide (0 < its)) a=true→PT l n tag deep its i [a]=.ok (j,ts)→∃ t,ts=[t]∧okT (m + n) (decide (0 < its)) t=true) ∧
  (∀ deep its i acc m j ts,i≤l.length→hT n≤m→(∀ u∈acc,okT m (decide (0 < its)) u=true)→PT l n 6 deep its i acc=.ok (j,ts)→ts.length≤acc.length + (j - i)∧∀ u∈ts,okT m (decide (0 < its)) u=true):=by
 have s1:∀ c∈([60,61]:List UInt8),c.toNat∈[43,45,42,47,60,61]:=by decide
 have s2:∀ c∈([43,45]:List UInt8),c.toNat∈[43,45,42,47,60,61]:=by decide
 have s3:∀ c∈([42,47]:List UInt8),c.toNat∈[43,45,42,47,60,61]:=by decide
 intro n
 induction n with
 |zero=>exact ⟨fun _ _ _ _ _ _ _ _ _ h=>by simp [PT] at h,fun _ _ _ _ _ _ _ _ _ _ _ _ h=>by simp [PT] at h,fun _ _ _ _ _ _ _ _ _ _ h=>by simp [PT] at h⟩
 |succ n ih =>
  obtain ⟨ihA,ihB,ihC⟩:=ih
  have hh:hT (n + 1)=hT n + n + 2:=rfl
  refine ⟨?_,?_,?_⟩
  ·intro tag deep its i acc j ts ht hi h
   have hpl:=PT_place h hi
   rw [if_pos ht] at hpl
   refine ⟨hpl.1,hpl.2,?_⟩
   rw [PT] at h
   split at h
   ·obtain ⟨a,us,h1,h2⟩:=thenT_ok h
    obtain ⟨a1,a2,t,rfl,a4⟩:=ihA _ _ _ _ _ _ _ (by omega) hi h1
    split at h2
    ·rename_i ho
     obtain ⟨c,vs,h3,h4⟩:=thenT_ok h2
     obtain ⟨b1,b2,u,rfl,b4⟩:=ihA _ _ _ _ _ _ _ (by omega) (nxt_le l a a2) h3
     cases h4
     exact ⟨_,rfl,okT_le (oper_ok ho s1 a4 b4) (by omega)⟩
    ·cases h2
     exact ⟨t,rfl,okT_le a4 (by omega)⟩
   split at h
   ·obtain ⟨a,us,h1,h2⟩:=thenT_ok h
    obtain ⟨a1,a2,t,rfl,a4⟩:=ihA _ _ _ _ _ _ _ (by omega) hi h1
    obtain ⟨u,e,hu⟩:=ihB _ _ _ _ _ _ _ _ (.inl rfl) a2 (Nat.le_refl _) a4 h2
    exact ⟨u,e,okT_le hu (by omega)⟩
   split at h
   ·obtain ⟨a,us,h1,h2⟩:=thenT_ok h
    obtain ⟨a1,a2,t,rfl,a4⟩:=ihA _ _ _ _ _ _ _ (by omega) hi h1
    obtain ⟨u,e,hu⟩:=ihB _ _ _ _ _ _ _ _ (.inr rfl) a2 (Nat.le_refl _) a4 h2
    exact ⟨u,e,okT_le hu (by omega)⟩
   split at h
   ·split at h
    ·cases h
    ·rename_i hk
     split at h
     ·cases h
     ·obtain ⟨a,us,h1,h2⟩:=thenT_ok h
      have hr:=kind_range hk
      have hp:=parts_ok (m:=hT n) (b:=decide (0 < its)) h1 (nxt_le l i hi) hr.1 hr.2 (fun a j ts ha h=>ihA _ _ _ _ _ _ _ (by omega) ha h) (fun a j ts ha h=>ihA _ _ _ _ _ _ _ (by omega) ha h)
       (fun a j ts ha h=>by have:=ihA _ _ _ _ _ _ _ (by omega) ha h; simpa using this)
       (fun a acc j ts ha hacc h=>by
        have h1:=PT_place h ha
        have h2:=ihC _ _ _ _ _ _ _ ha (Nat.le_refl _) hacc h
        exact ⟨by omega,h1.2,h2.1,h2.2⟩)
      cases h2
      exact ⟨_,rfl,okT_le (node_ok hl hk hp) (by omega)⟩
   ·exfalso; omega
  ·intro tag deep its i a m j ts ht hi hm ha h
   rw [PT] at h
   rw [if_neg (by omega),if_neg (by omega),if_neg (by omega),if_neg (by omega)] at h
   split at h
   ·rename_i e; subst e
    split at h
    ·rename_i ho
     obtain ⟨c,us,h1,h2⟩:=thenT_ok h
     obtain ⟨a1,a2,t,rfl,a4⟩:=ihA _ _ _ _ _ _ _ (by omega) (nxt_le l i hi) h1
     obtain ⟨u,e,hu⟩:=ihB _ _ _ _ _ _ _ _ (.inl rfl) a2 (by omega) (oper_ok ho s2 ha (okT_le a4 (by omega))) h2
     exact ⟨u,e,okT_le hu (by omega)⟩
    ·cases h
     exact ⟨a,rfl,okT_le ha (by omega)⟩
   split at h
   ·rename_i e; subst e
    split at h
    ·rename_i ho
     obtain ⟨c,us,h1,h2⟩:=thenT_ok h
     obtain ⟨a1,a2,t,rfl,a4⟩:=ihA _ _ _ _ _ _ _ (by omega) (nxt_le l i hi) h1
     obtain ⟨u,e,hu⟩:=ihB _ _ _ _ _ _ _ _ (.inr rfl) a2 (by omega) (oper_ok ho s3 ha (okT_le a4 (by omega))) h2
     exact ⟨u,e,okT_le hu (by omega)⟩
    ·cases h
     exact ⟨a,rfl,okT_le ha (by omega)⟩
   ·exfalso; omega
  ·intro deep its i acc m j ts hi hm hacc h
   rw [PT] at h
   rw [if_neg (by omega),if_neg (by omega),if_neg (by omega),if_neg (by omega),if_neg (by omega),if_neg (by omega)] at h
   split at h
   ·rename_i ho
    obtain ⟨c,us,h1,h2⟩:=thenT_ok h
    have a0:=nxt_gt (tx_pos (l:=l) (i:=i) (by rw [ho]; simp))
    obtain ⟨a1,a2,t,rfl,a4⟩:=ihA _ _ _ _ _ _ _ (by omega) (nxt_le l i hi) h1
    have a5:=PT_place h2 a2
    have a6:=ihC _ _ _ _ m _ _ a2 (by omega) (by
     intro u hu
     rcases List.mem_append.1 hu with hu | hu
     ·exact hacc u hu
     ·simp at hu; subst hu
      exact okT_le a4 (by omega)) h2
    refine ⟨?_,a6.2⟩
    have:=a6.1
    simp at this
    omega
   ·obtain ⟨rfl,b1,b2⟩:=expT_ok h (by simp) hi
    exact ⟨by omega,hacc⟩
end Lard
section
namespace Lard
def sameO:Wo→Wo→Bool
 |.ok v,.ok u=>same 3 v u
 |.error c,.error d=>c == d
 |_,_=>false
def isRound:Wo→Bool
 |.ok _=>false
 |.error c=>c == 12
structure Keep where
 worth:Wo
 needs:List (By×Wo)
structure Thing where
 value:V
 tree:Option T
 came:By
 kept:Option Keep
structure Why where
 key:By
 need:By
 was:Wo
 now:Wo
structure LS where
 has:List (By×Thing)
 done:List (By×Wo)
 begun:List By
 ring:List By
 ran:List Why
 jr:List By
def LS.new:LS:=⟨[],[],[],[],[],[]⟩
section
variable {α:Type}
def look (l:List (By×α)) (k:By):Option α:=(l.find? fun p=>p.1 == k).map (·.2)
def del (l:List (By×α)) (k:By):List (By×α):=l.filter fun p=>!(p.1 == k)
def put (l:List (By×α)) (k:By) (a:α):List (By×α) :=
 if (look l k).isSome then l.map fun p=>if p.1 == k then (k,a) else p else l++[(k,a)]
end
/-! The journal. -/
def step32 (s:Nat) (c:UInt8):Nat:=(Nat.xor s c.toNat * 16777619) % 4294967296
def sum32 (l:By):Nat:=l.foldl step32 2166136261
def hexDig (n:Nat):UInt8:=if n < 10 then UInt8.ofNat (48 + n) else UInt8.ofNat (87 + n)
def hex8 (n:Nat):By:=(List.range 8).map fun i=>hexDig (n / 16 ^ (7 - i) % 16)
def line (t:By):By:=t++32 :: (hex8 (sum32 t)++[10])
def brokenW (c:Nat):By :=
 if c=7 then [110,111,110,101] else if c=8 then [110,111,117,103,104,116] else if c=9 then [107,105,110,100] else if c=10 then [108,97,114,103,101] else if c=11 then [115,112,101,110,116] else []
def woText:Wo→By
 |.ok v=>wr 3 v
 |.error c=>brokenW c
def thingText (key:By) (t:Thing):By :=
 match t.tree with
 |.none=>[112,117,116,32]++key++32 :: wr 3 t.value
 |.some _=>[115,101,116,32]++key++32 :: t.came
def needText (n:By×Wo):By:=32 :: (n.1++61 :: woText n.2)
def keepText (key:By) (k:Keep):By:=[107,101,101,112,32]++key++32 :: woText k.worth++k.needs.flatMap needText
def LS.write (s:LS) (t:By):LS:={ s with jr:=s.jr++[t] }
/-! What is brought up to date. -/
def withNeed (ns:List (By×Wo)) (k:By) (w:Wo):List (By×Wo):=if (look ns k).isSome then ns else ns++[(k,w)]
def setKept (l:List (By×Thing)) (k:By) (o:Option Keep):List (By×Thing):=l.map fun p=>if p.1 == k then (p.1,{ p.2 with kept:=o }) else p
def LS.keep (s:LS) (key:By) (k:Keep):LS:={ s with has:=setKept s.has key (some k) }.write (keepText key k)
def LS.lose (s:LS) (key:By):LS:={ s with has:=setKept s.has key none }.write ([108,111,115,101,32]++key)
def keptOf (h:List (By×Thing)) (key:By):Option Keep:=(look h key).bind (·.kept)
def hM (t:T):Nat:=hT (1605 + 0 * t.kind)
def prog (t:T):Pg Wo:=(tr (hM t) t .none 400).worth
section
variable (Br:By→LS→Wo×LS)
def dueL (key:By):List (By×Wo)→LS→Option Why×LS
 |[],s=>(.none,s)
 |(k,w) :: r,s=>if sameO (Br k s).1 w=true then dueL key r (Br k s).2 else (some ⟨key,k,w,(Br k s).1⟩,(Br k s).2)
def needL (k:By) (s:LS×List (By×Wo)):Wo×(LS×List (By×Wo)):=((Br k s.1).1,((Br k s.1).2,withNeed s.2 k (Br k s.1).1))
def ranL (key:By) (q:Wo×(LS×List (By×Wo))):Wo×LS :=
 (q.1,if isRound q.1=true then (if (keptOf q.2.1.has key).isSome then q.2.1.lose key else q.2.1) else q.2.1.keep key ⟨q.1,q.2.2⟩)
def runL (key:By) (t:T) (y:Why) (s:LS):Wo×LS:=ranL key ((prog t).run (needL Br) ({ s with ran:=s.ran++[y] },[]))
def ruleL (key:By) (t:T):Option Keep→LS→Wo×LS
 |.none,s=>runL Br key t ⟨key,[],.error 0,.error 0⟩ s
 |.some k,s=>match dueL Br key k.needs s with
  |(.none,s)=>(k.worth,s)
  |(.some y,s)=>runL Br key t y s
def workL (key:By) (s:LS):Wo×LS :=
 match look s.has key with
 |.none=>(.error 7,s)
 |.some th=>match th.tree with
  |.none=>(.ok th.value,s)
  |.some t=>ruleL Br key t th.kept s
end
def fromKey (l:List By) (k:By):List By:=l.dropWhile fun x=>!(x == k)
def LS.meet (s:LS) (key:By):LS:=if s.ring=[] then { s with ring:=fromKey s.begun key } else s
def bringW (Wk:By→LS→Wo×LS) (key:By) (s:LS):Wo×LS :=
 match look s.done key with
 |.some w=>(w,s)
 |.none =>
  if s.begun.contains key=true then (.error 12,s.meet key)
  else
   ((Wk key { s with begun:=s.begun++[key] }).1,{ (Wk key { s with begun:=s.begun++[key] }).2 with begun:=(Wk key { s with begun:=s.begun++[key] }).2.begun.dropLast,done:=put (Wk key { s with begun:=s.begun++[key] }).2.done key (Wk key { s with begun:=s.begun++[key] }).1 })
def bring:Nat→By→LS→Wo×LS
 |0=>bringW fun _ s=>(.error 11,s)
 |n + 1=>bringW (workL (bring n))
def LS.ask (s:LS) (key:By):Wo×LS:=bring 42 key { s with done:=[],ring:=[],ran:=[] }
def LS.give (s:LS) (key:By) (t:Thing):Nat×LS :=
 if (look s.has key).isNone=true∧40≤s.has.length then (5,s) else (0,{ s with has:=put s.has key t }.write (thingText key t))
def LS.drop (s:LS) (key:By):LS:={ s with has:=del s.has key }.write ([100,114,111,112,32]++key)
/-! Lists of keys. -/
section
variable {α:Type}
theorem look_nil (k:By):look ([]:List (By×α)) k=none:=rfl
theorem look_cons (p:By×α) (l:List (By×α)) (k:By):look (p :: l) k=if p.1=k then some p.2 else look l k:=by
 unfold look
 rw [List.find?_cons]
 by_cases h:p.1=k
 ·simp [h]
 ·have h':(p.1 == k)=false:=beq_eq_false_iff_ne.2 h
  simp only [h',if_neg h]
theorem look_append (l m:List (By×α)) (k:By):look (l++m) k=(look l k).or (look m k):=by
 induction l with
 |nil=>simp [look_nil]
 |cons p l ih =>
  rw [List.cons_append,look_cons,look_cons,ih]
  split
  ·simp
  ·rfl
theorem look_none {l:List (By×α)} {k:By}:look l k=none↔∀ p∈l,p.1≠k:=by
 induction l with
 |nil=>simp [look_nil]
 |cons p l ih =>
  rw [look_cons]
  by_cases h:p.1=k
  ·simp [h]
  ·simp [h,ih]
theorem look_map {β:Type} (f:By×α→By×β) (g:By→α→β) (hf:∀ p,f p=(p.1,g p.1 p.2)) (l:List (By×α)) (k:By):look (l.map f) k=(look l k).map (g k):=by
 induction l with
 |nil=>rfl
 |cons p l ih =>
  rw [List.map_cons,look_cons,look_cons,ih,hf]
  by_cases h:p.1=k
  ·simp [h]
  ·simp [h]
theorem look_put (l:List (By×α)) (k:By) (a:α) (k':By):look (put l k a) k'=if k=k' then some a else look l k':=by
 unfold put
 by_cases hs:(look l k).isSome=true
 ·rw [if_pos hs,look_map _ (fun q b=>if q=k then a else b) (fun p=>?_)]
  ·by_cases h:k=k'
   ·subst h
    obtain ⟨b,hb⟩:=Option.isSome_iff_exists.1 hs
    simp [hb]
   ·rw [if_neg h]
    have h':¬ k'=k:=fun e=>h e.symm
    simp [h']
  ·by_cases h:p.1=k
   ·simp [h]
   ·simp [h]
 ·rw [if_neg hs,look_append,look_cons,look_nil]
  have hn:look l k=none:=by
   cases h:look l k with
   |none=>rfl
   |some b=>rw [h] at hs; simp at hs
  by_cases h:k=k'
  ·subst h; simp [hn]
  ·simp [h]
theorem look_del (l:List (By×α)) (k k':By):look (del l k) k'=if k=k' then none else look l k':=by
 unfold del
 induction l with
 |nil=>simp [look_nil]
 |cons p l ih =>
  rw [List.filter_cons]
  by_cases h:p.1=k
  ·rw [if_neg (by simp [h]),ih,look_cons]
   by_cases h2:k=k'
   ·simp [h2]
   ·have h3:¬ p.1=k':=fun e=>h2 (h.symm.trans e)
    simp [h2,h3]
  ·rw [if_pos (by simp [h]),look_cons,look_cons,ih]
   by_cases h2:k=k'
   ·have h3:¬ p.1=k':=fun e=>h (e.trans h2.symm)
    simp [h2,h3]
   ·simp [h2]
end
theorem look_setKept (l:List (By×Thing)) (k:By) (o:Option Keep) (k':By):look (setKept l k o) k'=if k=k' then (look l k').map fun th=>{ th with kept:=o } else look l k':=by
 unfold setKept
 rw [look_map _ (fun q th=>if q=k then { th with kept:=o } else th) (fun p=>?_)]
 ·by_cases h:k=k'
  ·subst h; simp
  ·have h':¬ k'=k:=fun e=>h e.symm
   simp [h,h']
 ·by_cases h:p.1=k
  ·simp [h]
  ·simp [h]
theorem keptOf_setKept (l:List (By×Thing)) (k:By) (o:Option Keep) (k':By):keptOf (setKept l k o) k'=if k=k' then (look l k').bind fun _=>o else keptOf l k':=by
 unfold keptOf
 rw [look_setKept]
 by_cases h:k=k'
 ·subst h
  simp only [if_true]
  cases look l k <;> rfl
 ·simp only [if_neg h]
end Lard
end
section
set_option maxRecDepth 100000
set_option maxHeartbeats 400000
open Go.RowKit
theorem wrap_u32 (n:Nat) (h:n < 4294967296):IntKind.u32.wrap (n:Int)=n:=by
 have:IntKind.u32.wrap (n:Int)=(n:Int) % 4294967296:=by
  simp [IntKind.wrap,IntKind.bits,IntKind.signed]
 rw [this]
 omega
theorem bits_xor (a b:Nat) (ha:a < 4294967296) (hb:b < 4294967296):bits .xor .u32 (a:Int) (b:Int)=((Nat.xor a b:Nat):Int):=by
 have h:bits .xor .u32 (a:Int) (b:Int)=IntKind.u32.wrap (((BitVec.ofInt 32 (a:Int)) ^^^ (BitVec.ofInt 32 (b:Int))).toNat:Int):=rfl
 rw [h,BitVec.toNat_xor]
 have e:∀ n:Nat,n < 4294967296→(BitVec.ofInt 32 (n:Int)).toNat=n:=fun n hn=>by
  rw [BitVec.toNat_ofInt]
  have:((n:Int) % ((2 ^ 32:Nat):Int))=n:=by
   show (n:Int) % 4294967296=n
   omega
  rw [this]
  rfl
 rw [e a ha,e b hb]
 refine wrap_u32 _ ?_
 exact Nat.xor_lt_two_pow (n:=32) ha hb
theorem step32_lt (n:Nat) (c:UInt8):Lard.step32 n c < 4294967296:=by
 unfold Lard.step32
 exact Nat.mod_lt (Nat.xor n c.toNat * 16777619) (by omega)
theorem foldl_snoc {α β:Type} (f:α→β→α) (a:α) (l:List β) (c:β):List.foldl f a (l++[c])=f (List.foldl f a l) c:=by
 rw [List.foldl_append]
 rfl
theorem sum32_snoc (l:List UInt8) (c:UInt8):Lard.sum32 (l++[c])=Lard.step32 (Lard.sum32 l) c:=foldl_snoc Lard.step32 2166136261 l c
theorem sum32_lt (l:List UInt8):Lard.sum32 l < 4294967296:=by
 rcases List.eq_nil_or_concat l with rfl | ⟨l',a,rfl⟩
 ·simp only [Lard.sum32,List.foldl_nil]
  omega
 ·rw [List.concat_eq_append,sum32_snoc]
  exact step32_lt _ _
theorem take_snocB (s:ByteArray) (k:Nat) (h:k < s.size):s.data.toList.take (k + 1)=s.data.toList.take k++[s[k]]:=by
 rw [List.take_succ_eq_append_getElem (by simpa using h)]; rfl
theorem sum_round (s:ByteArray) (k:Nat) (h:k < s.size):bits .xor .u32 ((Lard.sum32 (s.data.toList.take k):Nat):Int) ((s[k].toNat:Int) % 4294967296) * 16777619 % 4294967296=((Lard.sum32 (s.data.toList.take (k + 1)):Nat):Int):=by
 have hb:s[k].toNat < 256:=s[k].toNat_lt
 rw [take_snocB s k h,sum32_snoc,show ((s[k].toNat:Int) % 4294967296)=(s[k].toNat:Int) by omega,bits_xor _ _ (sum32_lt _) (by omega),Lard.step32]
 generalize Nat.xor (Lard.sum32 (List.take k s.data.toList)) s[k].toNat=x
 omega
theorem lsum_any (s:ByteArray) (w:World) (hs:s.size≤281474976710656) :
  Calls Tryz.prog 138 #[.string s] w fun e w'=>e=.returned (.int .u32 (Lard.sum32 s.data.toList:Int))∧w'=w:=by
 go_enter Tryz.func138,Tryz.ntmps138
 go_wp2
 go_loop [3,7] (fun n i=>∃ k:Nat,k≤s.size∧i=.int .i64 k∧n=.int .u32 (Lard.sum32 (s.data.toList.take k):Int)) (fun _ i=>s.size - (intOf i).toNat)
 case atStart=>exact ⟨0,Nat.zero_le _,rfl,rfl⟩
 case round =>
  obtain ⟨k,hk,rfl,rfl⟩:=hrel
  by_cases hlt:k < s.size
  ·go_wp2
   refine ⟨⟨k + 1,by omega,by go_num,by rw [sum_round s k hlt]⟩,?_⟩
   simp [intOf]; omega
  ·go_wp2
   go_ret
   have e:s.data.toList.take k=s.data.toList:=List.take_of_length_le (by simp; omega)
   exact ⟨congrArg (fun l=>Ending.returned (.int .u32 (Lard.sum32 l:Int))) e,rfl⟩
end
end Go.Proofs.YtpekpdimdelncaaGreatDoor
