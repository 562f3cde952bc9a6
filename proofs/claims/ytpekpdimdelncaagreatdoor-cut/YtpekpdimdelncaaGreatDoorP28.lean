/- Out of: Ef, Sq. -/
import Derived.Test.YtpekpdimdelncaaGreatDoorP26
import Derived.Test.YtpekpdimdelncaaGreatDoorP05
import Derived.Test.YtpekpdimdelncaaGreatDoorP27
import Derived.Test.YtpekpdimdelncaaGreatDoorP22
set_option linter.unusedVariables false
namespace Go.Proofs.YtpekpdimdelncaaGreatDoor
namespace Lard
def L3 (v:V):Prop:=okV 3 v
theorem okV_up:∀ (n:Nat) (v:V),okV n v→okV (n + 1) v
 |n,⟨.inl i⟩,h=>by unfold okV at h ⊢; exact h
 |n,⟨.inr (.inl b)⟩,h=>by unfold okV at h ⊢; exact h
 |0,⟨.inr (.inr l)⟩,h=>by unfold okV at h; cases h
 |n + 1,⟨.inr (.inr l)⟩,h=>by
  unfold okV at h ⊢
  exact ⟨h.1,fun x hx=>okV_up n x (h.2 x hx)⟩
theorem okV_down:∀ (n:Nat) (v:V),okV (n + 1) v→lev n v=true→okV n v
 |n,⟨.inl i⟩,h,_=>by unfold okV at h ⊢; exact h
 |n,⟨.inr (.inl b)⟩,h,_=>by unfold okV at h ⊢; exact h
 |0,⟨.inr (.inr l)⟩,h,h'=>by unfold lev at h'; cases h'
 |n + 1,⟨.inr (.inr l)⟩,h,h'=>by
  unfold okV at h ⊢
  unfold lev at h'
  exact ⟨h.1,fun x hx=>okV_down n x (h.2 x hx) (List.all_eq_true.1 h' x hx)⟩
theorem fine_ok {v:V} (h:L3 v):Fine (.ok v):=fun u hu=>by cases hu; exact h
theorem fine_l3 {w:Wo} (h:Fine w):∀ v,w=.ok v→L3 v:=h
theorem fine_error (c:Nat):Fine (.error c):=fun u hu=>by cases hu
theorem l3_n {i:Int} (h0:-9223372036854775808≤i) (h1:i≤9223372036854775807):L3 (vn i):=by unfold L3 okV; exact ⟨h0,h1⟩
theorem l3_wrap (i:Int):L3 (vn (wrap i)):=l3_n (by unfold wrap; omega) (by unfold wrap; omega)
theorem l3_bit (b:Bool):L3 (bit b):=by unfold bit; exact l3_n (by split <;> omega) (by split <;> omega)
theorem l3_in_n {x:V} {i:Int} (h:L3 x) (hx:x.x=.inl i):-9223372036854775808≤i∧i≤9223372036854775807:=by
 unfold L3 okV at h; rw [hx] at h; exact h
theorem l3_w {b:By} (h0:b.length≤30) (h1:∀ c∈b,wordC c=true∧c≠39):L3 (vw b):=by unfold L3 okV; exact ⟨h0,h1⟩
theorem l3_in_w {x:V} {b:By} (h:L3 x) (hx:x.x=.inr (.inl b)):b.length≤30∧∀ c∈b,wordC c=true∧c≠39:=by
 unfold L3 okV at h; rw [hx] at h; exact h
theorem l3_l {l:List V} (h0:l.length≤12) (h:∀ x∈l,okV 2 x):L3 (vl l):=by unfold L3 okV; exact ⟨h0,h⟩
theorem l3_in {x:V} {l:List V} (h:L3 x) (hx:x.x=.inr (.inr l)):∀ u∈l,L3 u:=by
 unfold L3 okV at h; rw [hx] at h; exact fun u hu=>okV_up 2 u (h.2 u hu)
theorem l3_len {x:V} {l:List V} (h:L3 x) (hx:x.x=.inr (.inr l)):l.length≤12:=by
 unfold L3 okV at h; rw [hx] at h; exact h.1
def PP {α:Type} (A:α→Prop):Pe α→Prop
 |⟨.inl q⟩=>∀ v,q.1=.ok v→A v
 |⟨.inr (k,c)⟩=>isKey k=true∧∀ w,(∀ v,w=.ok v→L3 v)→PP A (c w)
theorem pp_ret {α:Type} {A:α→Prop} {r:Except Nat α} {f:Nat} (h:∀ v,r=.ok v→A v):PP A (.ret (r,f)):=h
theorem pp_then {α β:Type} {A:α→Prop} {B:β→Prop}:∀ (p:Pe α) (k:α→Nat→Pe β),PP A p→(∀ v f,A v→PP B (k v f))→PP B (thenP p k)
 |⟨.inl (.ok a,f)⟩,k,h,hk=>hk a f (h a rfl)
 |⟨.inl (.error e,f)⟩,k,h,hk=>fun v hv=>by cases hv
 |⟨.inr (q,c)⟩,k,h,hk=>⟨h.1,fun w hw=>pp_then (c w) k (h.2 w hw) hk⟩
theorem pp_try {A:V→Prop}:∀ (p:Pe V) (k:Nat→Pe V),PP A p→(∀ f,PP A (k f))→PP A (tryP p k)
 |⟨.inl (.ok a,f)⟩,k,h,hk=>h
 |⟨.inl (.error e,f)⟩,k,h,hk=>by
  unfold tryP
  simp only [Pg.bind]
  by_cases he:e=7∨e=8∨e=9∨e=10
  ·rw [if_pos he]; exact hk f
  ·rw [if_neg he]; exact h
 |⟨.inr (q,c)⟩,k,h,hk=>⟨h.1,fun w hw=>pp_try (c w) k (h.2 w hw) hk⟩
theorem l3_listOf {l:List V} {v:V} (hl:∀ x∈l,L3 x) (h:listOf l=.ok v):L3 v:=by
 unfold listOf at h
 split at h
 ·cases h
 ·rename_i hn
  cases h
  have h2:l.all (lev 2)=true:=by
   cases hb:l.all (lev 2) with
   |true=>rfl
   |false=>exact (hn (.inr hb)).elim
  exact l3_l (by omega) (fun x hx=>okV_down 2 x (hl x hx) (List.all_eq_true.1 h2 x hx))
theorem mem_app {α:Type} {P:α→Prop} {a b:List α} (h:∀ u∈a,P u) (h':∀ u∈b,P u):∀ u∈a++b,P u:=fun u hu=>by
 rcases List.mem_append.1 hu with hu | hu
 ·exact h u hu
 ·exact h' u hu
theorem no_mem {α:Type} {P:α→Prop}:∀ u∈([]:List α),P u:=fun u hu=>by cases hu
theorem one_mem {α:Type} {P:α→Prop} {a:α} (h:P a):∀ u∈[a],P u:=fun u hu=>by rw [List.mem_singleton.1 hu]; exact h
theorem pp_seq {α:Type} (P:α→Nat→Pe V):∀ (l:List α) (acc:List V) (f:Nat),(∀ x∈acc,L3 x)→(∀ a∈l,∀ f,PP L3 (P a f))→PP L3 (seqP P l acc f)
 |[],acc,f,ha,_=>fun v hv=>l3_listOf ha hv
 |a :: r,acc,f,ha,hP=>pp_then _ _ (hP a List.mem_cons_self f) fun v f hv=>pp_seq P r _ f (mem_app ha (one_mem hv)) (fun a ha=>hP a (List.mem_cons_of_mem _ ha))
theorem pp_some (P:V→Nat→Pe V):∀ (l:List V) (acc:List V) (f:Nat),(∀ x∈acc,L3 x)→(∀ x∈l,L3 x)→(∀ a∈l,∀ f,PP L3 (P a f))→PP L3 (someP P l acc f)
 |[],acc,f,ha,_,_=>fun v hv=>l3_listOf ha hv
 |a :: r,acc,f,ha,hl,hP=>pp_then _ _ (hP a List.mem_cons_self f) fun v f _=>by
  have h1:∀ x∈r,L3 x:=fun x hx=>hl x (List.mem_cons_of_mem _ hx)
  have h2:∀ a∈r,∀ f,PP L3 (P a f):=fun a ha=>hP a (List.mem_cons_of_mem _ ha)
  cases h:numIn v with
  |ok i =>
   show PP L3 (if i=0 then _ else _)
   by_cases h0:i=0
   ·rw [if_pos h0]; exact pp_some P r _ f ha h1 h2
   ·rw [if_neg h0]; exact pp_some P r _ f (mem_app ha (one_mem (hl a List.mem_cons_self))) h1 h2
  |error e=>exact fun v hv=>by cases hv
theorem pp_need {k:By} (hk:isKey k=true) (f:Nat):PP L3 (needP k f):=⟨hk,fun w hw v hv=>hw v hv⟩
theorem l3_nums {x y v:V} {g:Int→Int→Except Nat V} (hg:∀ i j u,x.x=.inl i→y.x=.inl j→g i j=.ok u→L3 u) (h:nums x y g=.ok v):L3 v:=by
 unfold nums at h
 split at h
 ·rename_i hi hj; exact hg _ _ _ hi hj h
 ·cases h
theorem l3_make {op:Nat} {x y v:V} (hx:L3 x) (hy:L3 y) (h:make op x y=.ok v):L3 v:=by
 unfold make at h
 split at h
 ·unfold plus at h
  split at h
  ·cases h; exact l3_wrap _
  ·rename_i a b ha hb
   split at h
   ·cases h
   ·cases h; exact l3_w (by rw [List.length_append]; omega) (mem_app (l3_in_w hx ha).2 (l3_in_w hy hb).2)
  ·rename_i a b ha hb
   exact l3_listOf (mem_app (l3_in hx ha) (l3_in hy hb)) h
  ·cases h
 ·split at h
  ·exact l3_nums (fun _ _ _ _ _ h=>by cases h; exact l3_wrap _) h
  ·split at h
   ·exact l3_nums (fun _ _ _ _ _ h=>by cases h; exact l3_wrap _) h
   ·split at h
    ·refine l3_nums (fun _ _ _ _ _ h=>?_) h
     split at h
     ·cases h
     ·cases h; exact l3_wrap _
    ·split at h
     ·unfold less at h
      split at h
      ·cases h; exact l3_bit _
      ·cases h; exact l3_bit _
      ·cases h
     ·split at h
      ·cases h; exact l3_bit _
      ·split at h
       ·refine l3_nums (fun i j u hi hj h=>?_) h
        cases h
        have h1:=l3_in_n hx hi
        have h2:=l3_in_n hy hj
        exact l3_n (by omega) (by omega)
       ·split at h
        ·refine l3_nums (fun i j u hi hj h=>?_) h
         cases h
         have h1:=l3_in_n hx hi
         have h2:=l3_in_n hy hj
         exact l3_n (by omega) (by omega)
        ·unfold atPlace at h
         split at h
         ·split at h
          ·rename_i b hb
           split at h
           ·cases h
            have h1:=l3_in_w hx hb
            exact l3_w (by rw [List.length_take]; omega) (fun c hc=>h1.2 c (List.mem_of_mem_drop (List.mem_of_mem_take hc)))
           ·cases h
          ·rename_i l hl
           split at h
           ·rename_i k hk
            cases h
            cases hg:l[k]? with
            |none=>exact l3_n (by omega) (by omega)
            |some u=>exact l3_in hx hl u (List.mem_of_getElem? hg)
           ·cases h
          ·cases h
         ·cases h
theorem l3_size {x v:V} (hx:L3 x) (h:size x=.ok v):L3 v:=by
 unfold size at h
 split at h
 ·cases h
 ·rename_i b hb; cases h; have:=(l3_in_w hx hb).1; exact l3_n (by omega) (by omega)
 ·rename_i l hl; cases h; have:=l3_len hx hl; exact l3_n (by omega) (by omega)
theorem l3_sumFrom:∀ (l:List V) (a:Int) (v:V),L3 (vn a)→sumFrom a l=.ok v→L3 v
 |[],a,v,ha,h=>by cases h; exact ha
 |u :: r,a,v,ha,h=>by
  unfold sumFrom at h
  split at h
  ·exact l3_sumFrom r _ v (l3_wrap _) h
  ·cases h
theorem l3_sumUp {x v:V} (h:sumUp x=.ok v):L3 v:=by
 unfold sumUp at h
 split at h
 ·exact l3_sumFrom _ _ _ (l3_n (by omega) (by omega)) h
 ·cases h
theorem itoa_word (i:Int):∀ c∈Lib.itoa i,wordC c=true∧c≠39:=fun c hc=>by
 have h0:((List.range 256).all fun n=>!(numC (UInt8.ofNat n)) || (wordC (UInt8.ofNat n) && !(UInt8.ofNat n == 39)))=true:=by decide +kernel
 have h:=List.all_eq_true.1 h0 c.toNat (List.mem_range.2 c.toNat_lt)
 rw [UInt8.ofNat_toNat,itoa_numC i c hc] at h
 simpa using h
theorem dec_len:∀ (k u:Nat),u < 10 ^ (k + 1)→(Lib.decDigits u).length≤k + 1
 |0,u,h=>by
  rw [Lib.decDigits,dif_pos (by omega)]
  simp
 |k + 1,u,h=>by
  rw [Lib.decDigits]
  by_cases hu:u < 10
  ·rw [dif_pos hu]; simp
  ·rw [dif_neg hu,List.length_append]
   have:=dec_len k (u / 10) (by rw [Nat.pow_succ] at h; omega)
   simp
   omega
theorem itoa_len30 {x:Int} (h0:-9223372036854775808≤x) (h1:x≤9223372036854775807):(Lib.itoa x).length≤30:=by
 unfold Lib.itoa
 split
 ·have:=dec_len 19 x.natAbs (by show _ < 100000000000000000000; omega)
  simp
  omega
 ·have:=dec_len 19 x.toNat (by show _ < 100000000000000000000; omega)
  omega
theorem l3_asWord {x v:V} (hx:L3 x) (h:asWord x=.ok v):L3 v:=by
 unfold asWord at h
 split at h
 ·rename_i i hi
  cases h
  have h1:=l3_in_n hx hi
  exact l3_w (itoa_len30 h1.1 h1.2) (itoa_word i)
 ·rename_i b hb; cases h; have:=l3_in_w hx hb; exact l3_w this.1 this.2
 ·cases h
theorem l3_listIn {v:V} {l:List V} (hv:L3 v) (h:listIn v=.ok l):∀ x∈l,L3 x:=by
 unfold listIn at h
 split at h
 ·rename_i l' hl
  cases h
  exact l3_in hv hl
 ·cases h
theorem key_isKey {v:V} {k:By} (hv:L3 v) (h:keyOf v=.ok k):isKey k=true:=by
 obtain ⟨x⟩:=v
 unfold keyOf at h
 unfold isKey
 rcases x with i | b | l
 ·cases h
  have hr:=l3_in_n hv rfl
  simp only [List.head?_cons,List.drop_succ_cons,List.drop_zero,numOf_itoa i hr.1 hr.2]
  simp
 ·simp only at h
  split at h
  ·rename_i hb
   cases h
   simp [hb]
  ·cases h
 ·cases h
theorem pp_first (P:T→Nat→Pe V) (t:T) (f:Nat) (hP:∀ i f,PP L3 (P (t.part i) f)):PP L3 (firstP P t f):=by
 unfold firstP
 refine pp_then _ _ (hP 0 f) fun v f hv=>?_
 split
 ·exact pp_then _ _ (hP 1 f) fun u f hu=>pp_ret fun r hr=>l3_make hv hu hr
 ·split
  ·exact pp_ret fun r hr=>l3_make (l3_n (by omega) (by omega)) hv hr
  ·split
   ·split
    ·rename_i hk
     exact pp_need (key_isKey hv hk) _
    ·exact pp_ret fun r hr=>by cases hr
   ·split
    ·split
     ·split
      ·exact hP 2 f
      ·exact hP 1 f
     ·exact pp_ret fun r hr=>by cases hr
    ·split
     ·exact pp_ret fun r hr=>l3_size hv hr
     ·split
      ·exact pp_ret fun r hr=>l3_sumUp hr
      ·split
       ·exact pp_ret fun r hr=>l3_asWord hv hr
       ·exact pp_ret fun r hr=>by cases hr; exact hv
def lit:Nat→T→Prop
 |0,_=>True
 |n + 1,t=>((∀ v,t.is=some v→L3 v)∧(t.kind=3→isKey t.name=true))∧∀ u∈t.parts,lit n u
theorem lit_part {n:Nat} {t:T} (h:lit (n + 1) t) (i:Nat):lit n (t.part i):=by
 unfold lit at h
 unfold T.part
 cases hg:t.parts[i]? with
 |none =>
  simp only [Option.getD_none]
  cases n <;> simp [lit,T.none]
 |some u=>exact h.2 u (List.mem_of_getElem? hg)
theorem pp_tr:∀ (n:Nat) (t:T) (it:Option V) (f:Nat),lit n t→(∀ v,it=some v→L3 v)→PP L3 (tr n t it f)
 |0,t,it,f,_,_=>fun v hv=>by cases hv
 |n + 1,t,it,f,h,hit=>by
  have hp:∀ i f,PP L3 (tr n (t.part i) it f):=fun i f=>pp_tr n _ it f (lit_part h i) hit
  have hp2:∀ i u f,L3 u→PP L3 (tr n (t.part i) (some u) f):=fun i u f hu=>pp_tr n _ _ f (lit_part h i) (fun v hv=>by cases hv; exact hu)
  unfold tr
  split
  ·exact pp_first _ t f hp
  ·split
   ·exact pp_ret fun r hr=>by cases hr
   ·split
    ·refine pp_ret fun r hr=>?_
     unfold lit at h
     cases hi:t.is with
     |none=>rw [hi] at hr; cases hr
     |some v =>
      rw [hi] at hr
      cases hr
      exact h.1.1 _ hi
    ·split
     ·rename_i h3
      unfold lit at h
      exact pp_need (h.1.2 h3) _
     ·split
      ·refine pp_ret fun r hr=>?_
       cases it with
       |none=>cases hr
       |some v=>cases hr; exact hit _ rfl
      ·split
       ·exact pp_try _ _ (hp 0 _) (fun f=>hp 1 f)
       ·split
        ·refine pp_then _ _ (hp 0 _) fun v f hv=>?_
         cases hl:listIn v with
         |ok l=>exact pp_seq _ l [] f no_mem (fun a ha f=>hp2 1 a f (l3_listIn hv hl a ha))
         |error e=>exact pp_ret fun r hr=>by cases hr
        ·split
         ·refine pp_then _ _ (hp 0 _) fun v f hv=>?_
          cases hl:listIn v with
          |ok l=>exact pp_some _ l [] f no_mem (l3_listIn hv hl) (fun a ha f=>hp2 1 a f (l3_listIn hv hl a ha))
          |error e=>exact pp_ret fun r hr=>by cases hr
         ·split
          ·refine pp_seq _ _ _ _ no_mem (fun a ha f=>pp_tr n a it f ?_ hit)
           unfold lit at h
           exact h.2 a ha
          ·exact pp_first _ t _ hp
theorem clo_worth:∀ (p:Pe V),PP L3 p→Clo p.worth
 |⟨.inl (.ok v,f)⟩,h=>fine_ok (h v rfl)
 |⟨.inl (.error c,f)⟩,h=>fine_error c
 |⟨.inr (k,c)⟩,h=>⟨h.1,fun w hw=>clo_worth (c w) (h.2 w (fine_l3 hw))⟩
theorem clo_prog {t:T} (h:lit (hM t) t):Clo (prog t):=clo_worth _ (pp_tr _ t none 400 h (fun _ hv=>by cases hv))
/-! The trees that a reader makes. -/
def LA (t:T):Prop:=∀ n,lit n t
theorem la_make {t:T} (h1:(∀ v,t.is=some v→L3 v)∧(t.kind=3→isKey t.name=true)) (h2:∀ u∈t.parts,LA u):LA t:=fun n=>by
 cases n with
 |zero=>exact trivial
 |succ n=>exact ⟨h1,fun u hu=>h2 u hu n⟩
theorem tok_word {l:By} (h:(tok l).1=3):∃ n,wordOf l=some n∧(tok l).2=n + 2:=by
 cases l with
 |nil=>cases h
 |cons c r =>
  rw [tok_cons _ c r rfl] at h ⊢
  split at h
  ·split at h <;> cases h
  ·rename_i hd
   rw [if_neg hd]
   split at h
   ·split at h
    ·cases h
    ·split at h <;> cases h
   ·rename_i hl
    rw [if_neg hl]
    split at h
    ·rename_i hc
     rw [if_pos hc]
     cases hw:wordOf (c :: r) with
     |none=>rw [hw] at h; cases h
     |some n=>exact ⟨n,rfl,rfl⟩
    ·split at h <;> cases h
theorem isOf_fine (l:By):∀ v,isOf l=some v→L3 v:=by
 intro v h
 unfold isOf at h
 split at h
 ·cases h
  cases hn:numOf (l.take (tok l).2) with
  |none=>exact l3_n (by show _≤(0:Int); omega) (by show (0:Int)≤_; omega)
  |some i =>
   have:=parse_range _ _ (numOf_some hn).2
   exact l3_n this.1 this.2
 ·rename_i h3
  cases h
  obtain ⟨n,hn,h2⟩:=tok_word h3
  cases l with
  |nil=>cases hn
  |cons c r =>
   simp only [wordOf] at hn
   split at hn
   ·obtain ⟨q1,q2,q3,q4⟩:=quote_some 31 r n hn
    rw [h2]
    have:n + 2 - 2=n:=by omega
    rw [this]
    simp only [List.drop_succ_cons,List.drop_zero]
    exact l3_w (by rw [List.length_take]; omega) q4
   ·cases hn
 ·cases h
theorem lead_take (p:UInt8→Bool):∀ (l:By),lead p (l.take (lead p l))=lead p l
 |[]=>rfl
 |c :: r=>by
  by_cases h:p c=true
  ·have e:lead p (c :: r)=lead p r + 1:=by simp [lead,h]
   rw [e,List.take_succ_cons]
   have e2:lead p (c :: r.take (lead p r))=lead p (r.take (lead p r)) + 1:=by simp [lead,h]
   rw [e2,lead_take p r]
  ·have e:lead p (c :: r)=0:=by simp [lead,h]
   rw [e]
   rfl
theorem name_tx {l:By} (h:(tok l).1=4):isName (l.take (tok l).2)=true:=by
 cases l with
 |nil=>cases h
 |cons c r =>
  have ht:=tok_cons (c :: r) c r rfl
  by_cases h1:isDig c=true
  ·rw [ht,if_pos h1] at h
   split at h <;> cases h
  rw [if_neg h1] at ht
  by_cases h2:isLet c=true
  ·rw [if_pos h2] at ht
   by_cases h3:termB ((c :: r).take (lead isAl (c :: r)))=true
   ·rw [ht,if_pos h3] at h; cases h
   rw [if_neg h3] at ht
   by_cases h4:8 < lead isAl (c :: r)
   ·rw [ht,if_pos h4] at h; cases h
   rw [if_neg h4] at ht
   rw [ht]
   show isName ((c :: r).take (lead isAl (c :: r)))=true
   have hpos:1≤lead isAl (c :: r):=lead_pos isAl c r (by unfold isAl alB; unfold isLet at h2; rw [h2]; rfl)
   obtain ⟨n,hn⟩:∃ n,lead isAl (c :: r)=n + 1:=⟨lead isAl (c :: r) - 1,by omega⟩
   have hlt:=lead_take isAl (c :: r)
   have hle:=lead_le isAl (c :: r)
   rw [hn,List.take_succ_cons] at hlt h3
   rw [hn] at h4 hle
   rw [hn,List.take_succ_cons]
   have ht2:=tok_cons (c :: r.take n) c (r.take n) rfl
   have hlen:(c :: r.take n).length=n + 1:=by
    simp only [List.length_cons,List.length_take] at hle ⊢
    omega
   have htk:(c :: r.take n).take (n + 1)=c :: r.take n:=List.take_of_length_le (by omega)
   rw [if_neg h1,if_pos h2,hlt,htk,if_neg h3,if_neg h4] at ht2
   unfold isName
   rw [ht2,hlen]
   simp
  rw [if_neg h2] at ht
  rw [ht] at h
  by_cases h3:c=39
  ·rw [if_pos h3] at h
   unfold wordTok at h
   split at h <;> cases h
  ·rw [if_neg h3] at h
   split at h <;> cases h
theorem kind_name {l:By} {i its:Nat} (h:kind l i its=3):isKey (tx l i)=true:=by
 have hk:(tok (l.drop i)).1=4:=by
  unfold kind kindOf at h
  split at h
  ·omega
  split at h
  ·assumption
  split at h
  ·have:=(termK_range _ _ _ h).1
   omega
  split at h
  ·have:=signK_range _ _ h
   omega
  ·omega
 unfold isKey tx
 rw [name_tx hk]
 rfl
theorem la_node (l:By) (i its:Nat) (ts:List T) (h:∀ u∈ts,LA u):LA (nodeT l (kind l i its) i ts):=la_make ⟨isOf_fine _,fun h3=>by
 have h3:kind l i its=3:=h3
 show isKey (if kind l i its=3 then tx l i else [])=true
 rw [if_pos h3]
 exact kind_name h3⟩ h
theorem la_oper (l:By) (i:Nat) (ts us:List T) (h:∀ u∈ts,LA u) (h':∀ u∈us,LA u):LA (operT l i ts us):=la_make ⟨(fun _ h=>by cases h),(fun h=>by cases h)⟩ (fun u hu=>by
 rcases List.mem_append.1 hu with hu | hu
 ·exact h u hu
 ·exact h' u hu)
def RTA (r:RT):Prop:=∀ j ts,r=.ok (j,ts)→∀ u∈ts,LA u
theorem rta_ok {j:Nat} {ts:List T} (h:∀ u∈ts,LA u):RTA (.ok (j,ts)):=fun _ _ e=>by cases e; exact h
theorem rta_err {e:Nat×Nat}:RTA (.error e):=fun _ _ h=>by cases h
theorem rta_then {r:RT} {f:Nat→List T→RT} (h:RTA r) (hf:∀ j ts,(∀ u∈ts,LA u)→RTA (f j ts)):RTA (thenT r f):=by
 rcases r with e | ⟨j,ts⟩
 ·exact rta_err
 ·exact hf j ts (h j ts rfl)
theorem rta_exp (l t:By) (i:Nat) (ts:List T) (h:∀ u∈ts,LA u):RTA (expT l t i ts):=by
 unfold expT
 split
 ·exact rta_ok h
 ·exact rta_err
theorem rta_parts (l:By) (k i:Nat) (R F W:Nat→RT) (I:Nat→List T→RT) (hR:∀ j,RTA (R j)) (hF:∀ j,RTA (F j)) (hW:∀ j,RTA (W j)) (hI:∀ j ts,(∀ u∈ts,LA u)→RTA (I j ts)):RTA (partsT l k i R F W I):=by
 unfold partsT
 split
 ·exact hF i
 split
 ·exact rta_then (hR i) (rta_exp l _)
 split
 ·exact rta_then (hR i) (rta_exp l _)
 split
 ·split
  ·exact rta_ok no_mem
  ·exact rta_then (hR i) hI
 split
 ·exact rta_then (rta_then (hR i) (rta_exp l _)) fun j ts h1=>rta_then (rta_then (hR j) (rta_exp l _)) fun j us h2=>rta_then (hF j) fun j vs h3=>rta_ok (mem_app h1 (mem_app h2 h3))
 split
 ·exact rta_then (rta_exp l _ _ _ no_mem) fun j _ _=>rta_then (hR j) (rta_exp l _)
 split
 ·exact rta_then (rta_exp l _ _ _ no_mem) fun j _ _=>rta_then (rta_then (hR j) (rta_exp l _)) fun j ts h1=>rta_then (rta_then (hR j) (rta_exp l _)) fun j us h2=>rta_ok (mem_app h1 h2)
 split
 ·exact rta_then (rta_exp l _ _ _ no_mem) fun j _ _=>rta_then (rta_then (hR j) (rta_exp l _)) fun j ts h1=>rta_then (rta_then (hW j) (rta_exp l _)) fun j us h2=>rta_ok (mem_app h1 h2)
 ·exact rta_ok no_mem
theorem rta_PT (l:By):∀ (n tag deep its i:Nat) (acc:List T),(∀ u∈acc,LA u)→RTA (PT l n tag deep its i acc):=by
 intro n
 induction n with
 |zero=>intros; exact rta_err
 |succ n ih =>
  intro tag deep its i acc hacc
  unfold PT
  split
  ·refine rta_then (ih _ _ _ _ _ no_mem) fun j ts h1=>?_
   split
   ·exact rta_then (ih _ _ _ _ _ no_mem) fun k us h2=>rta_ok (one_mem (la_oper l j ts us h1 h2))
   ·exact rta_ok h1
  split
  ·exact rta_then (ih _ _ _ _ _ no_mem) fun j ts h1=>ih _ _ _ _ _ h1
  split
  ·exact rta_then (ih _ _ _ _ _ no_mem) fun j ts h1=>ih _ _ _ _ _ h1
  split
  ·split
   ·exact rta_err
   split
   ·exact rta_err
   ·exact rta_then (rta_parts l _ _ _ _ _ _ (fun j=>ih _ _ _ _ _ no_mem) (fun j=>ih _ _ _ _ _ no_mem) (fun j=>ih _ _ _ _ _ no_mem) (fun j ts h=>ih _ _ _ _ _ h)) fun j ts h1=>rta_ok (one_mem (la_node l _ _ ts h1))
  split
  ·split
   ·exact rta_then (ih _ _ _ _ _ no_mem) fun j us h1=>ih _ _ _ _ _ (one_mem (la_oper l i acc us hacc h1))
   ·exact rta_ok hacc
  split
  ·split
   ·exact rta_then (ih _ _ _ _ _ no_mem) fun j us h1=>ih _ _ _ _ _ (one_mem (la_oper l i acc us hacc h1))
   ·exact rta_ok hacc
  ·split
   ·exact rta_then (ih _ _ _ _ _ no_mem) fun j us h1=>ih _ _ _ _ _ (mem_app hacc h1)
   ·exact rta_exp l _ _ _ hacc
theorem la_none:LA T.none:=la_make ⟨(fun _ h=>by cases h),(fun h=>by cases h)⟩ (fun u hu=>by cases hu)
theorem la_treeOf (l:By):LA (treeOf l):=by
 unfold treeOf
 cases h:PT l (8 * l.length + 5) 0 0 0 (skip l 0) [] with
 |error e=>exact la_none
 |ok q =>
  obtain ⟨j,ts⟩:=q
  have:=rta_PT l _ _ _ _ _ [] no_mem j ts h
  cases ts with
  |nil=>exact la_none
  |cons t r=>exact this t List.mem_cons_self
theorem clo_treeOf (l:By):Clo (prog (treeOf l)):=clo_prog (la_treeOf l _)
end Lard
namespace Lard
structure Sound (s:LS):Prop where
 ef:EF (srcOf s.has)
 hon:∀ k t kp,srcOf s.has k=some (.inr t)→keptOf s.has k=some kp→Hon (prog t) [] kp.needs kp.worth
 only:∀ k kp,keptOf s.has k=some kp→∃ t,srcOf s.has k=some (.inr t)
 fine:∀ k kp,keptOf s.has k=some kp→∀ q∈kp.needs,Fine q.2
 begun:s.begun=[]
 kb:KB s.has
 len:s.has.length≤40
theorem Sound.new:Sound LS.new where
 ef:=⟨(fun k v h=>by cases h),(fun k t h=>by cases h)⟩
 hon k t kp h:=by cases h
 only k kp h:=by cases h
 fine k kp h:=by cases h
 begun:=rfl
 kb p hp:=by cases hp
 len:=Nat.zero_le _
theorem strip_len {h h':List (By×Thing)} (e:strip h'=strip h):h'.length=h.length:=by
 have:=congrArg List.length e
 unfold strip at this
 simpa using this
theorem src_ruled {h:List (By×Thing)} {k:By} {t:T} (he:srcOf h k=some (.inr t)):k∈ruled h:=by
 unfold srcOf at he
 cases hl:look h k with
 |none=>rw [hl] at he; cases he
 |some th =>
  rw [hl] at he
  cases ht:th.tree with
  |none=>simp only [Option.map_some,ht] at he; cases he
  |some t'=>exact mem_ruled hl (by rw [ht]; rfl)
def LS.fresh (s:LS):LS:={ s with done:=[],ring:=[],ran:=[] }
theorem Sound.inv {s:LS} (h:Sound s):Inv (srcOf s.has) s.fresh where
 src:=rfl
 done k w hk:=by cases hk
 utd k w hk:=by cases hk
 hon:=h.hon
 only:=h.only
 fine:=h.fine
 ring hr:=(hr rfl).elim
 rr k hk:=by cases hk
theorem Sound.bp {s:LS} (h:Sound s) (key:By):BP (srcOf s.has) key s.fresh (s.ask key):=by
 refine bring_ok h.ef (K:=ruled s.has) (fun k t he=>src_ruled he) 42 key s.fresh h.inv ?_ ?_
 ·have:s.fresh.begun=[]:=h.begun
  rw [this]
  trivial
 ·have hb:s.fresh.begun=[]:=h.begun
  unfold Fuel
  rw [hb]
  have h1:=List.length_filter_le (fun k=>!([]:List By).contains k) (ruled s.has)
  have h2:(ruled s.has).length≤s.has.length:=by
   unfold ruled
   rw [List.length_map]
   exact List.length_filter_le _ _
  have:=h.len
  omega
theorem Sound.nst {s:LS} (h:Sound s) (key:By):Nst s.fresh (s.ask key).2 1:=bring_nst 42 key s.fresh h.kb
theorem Sound.ask {s:LS} (h:Sound s) (key:By):Sound (s.ask key).2:=by
 obtain ⟨new,hon,-⟩:=h.bp key
 have hn:=h.nst key
 have hi:=hon.inv
 exact {
  ef:=by rw [hi.src]; exact h.ef
  hon:=fun k t kp h1 h2=>hi.hon k t kp (by rw [←hi.src]; exact h1) h2
  only:=fun k kp h1=>by rw [hi.src]; exact hi.only k kp h1
  fine:=hi.fine
  begun:=hon.begun.trans h.begun
  kb:=hn.kb h.kb
  len:=by rw [strip_len hn.strip]; exact h.len }
theorem Sound.src {s:LS} (h:Sound s) (key:By):srcOf (s.ask key).2.has=srcOf s.has:=by
 obtain ⟨new,hon,-⟩:=h.bp key
 exact hon.inv.src
def FineT (th:Thing):Prop:=th.kept=none∧((th.tree=none∧L3 th.value)∨∃ t,th.tree=some t∧Clo (prog t))
theorem src_put (h:List (By×Thing)) (key:By) (th:Thing) (k:By):srcOf (put h key th) k=if key=k then some (match th.tree with | .none=>.inl th.value | .some t=>.inr t) else srcOf h k:=by
 unfold srcOf
 rw [look_put]
 split <;> rfl
theorem kept_put (h:List (By×Thing)) (key:By) (th:Thing) (hk:th.kept=none) (k:By):keptOf (put h key th) k=if key=k then none else keptOf h k:=by
 unfold keptOf
 rw [look_put]
 split
 ·exact hk
 ·rfl
theorem put_keys {α:Type} {l:List (By×α)} {k:By} {a:α} {p:By×α} (h:p∈put l k a):p=(k,a)∨p∈l:=by
 unfold put at h
 split at h
 ·obtain ⟨q,hq,rfl⟩:=List.mem_map.1 h
  split
  ·exact .inl rfl
  ·exact .inr hq
 ·rcases List.mem_append.1 h with h | h
  ·exact .inr h
  ·exact .inl (List.mem_singleton.1 h)
theorem Sound.put {s:LS} (h:Sound s) {key:By} {th:Thing} (hf:FineT th) (hl:(look s.has key).isSome=true∨s.has.length < 40) (t:By):Sound ({ s with has:=Lard.put s.has key th }.write t) where
 ef:=by
  refine ⟨fun k v hk=>?_,fun k t hk=>?_⟩
  ·have hk:srcOf (Lard.put s.has key th) k=_:=hk
   rw [src_put] at hk
   split at hk
   ·rcases hf.2 with ⟨h1,h2⟩ | ⟨t',h1,h2⟩
    ·rw [h1] at hk; cases hk; exact fine_ok h2
    ·rw [h1] at hk; cases hk
   ·exact h.ef.val k v hk
  ·have hk:srcOf (Lard.put s.has key th) k=_:=hk
   rw [src_put] at hk
   split at hk
   ·rcases hf.2 with ⟨h1,h2⟩ | ⟨t',h1,h2⟩
    ·rw [h1] at hk; cases hk
    ·rw [h1] at hk; cases hk; exact h2
   ·exact h.ef.rule k t hk
 hon k t kp h1 h2:=by
  have h1:srcOf (Lard.put s.has key th) k=_:=h1
  have h2:keptOf (Lard.put s.has key th) k=_:=h2
  rw [kept_put _ _ _ hf.1] at h2
  split at h2
  ·cases h2
  ·rename_i hn
   rw [src_put,if_neg hn] at h1
   exact h.hon k t kp h1 h2
 only k kp h2:=by
  have h2:keptOf (Lard.put s.has key th) k=_:=h2
  rw [kept_put _ _ _ hf.1] at h2
  split at h2
  ·cases h2
  ·rename_i hn
   show ∃ t,srcOf (Lard.put s.has key th) k=_
   rw [src_put,if_neg hn]
   exact h.only k kp h2
 fine k kp h2:=by
  have h2:keptOf (Lard.put s.has key th) k=_:=h2
  rw [kept_put _ _ _ hf.1] at h2
  split at h2
  ·cases h2
  ·exact h.fine k kp h2
 begun:=h.begun
 kb p hp kp hkp:=by
  rcases put_keys hp with rfl | hp
  ·rw [hf.1] at hkp; cases hkp
  ·exact h.kb p hp kp hkp
 len:=by
  show (Lard.put s.has key th).length≤40
  unfold Lard.put
  split
  ·rw [List.length_map]; exact h.len
  ·rename_i hn
   rcases hl with hl | hl
   ·exact (hn hl).elim
   ·rw [List.length_append]; simp; omega
theorem Sound.give {s:LS} (h:Sound s) {key:By} {th:Thing} (hf:FineT th):Sound (s.give key th).2:=by
 unfold LS.give
 split
 ·exact h
 ·rename_i hn
  refine h.put hf ?_ _
  cases hl:look s.has key with
  |some x=>exact .inl rfl
  |none =>
   right
   refine Nat.lt_of_not_le fun h40=>hn ⟨by rw [hl]; rfl,h40⟩
theorem src_del (h:List (By×Thing)) (key k:By):srcOf (del h key) k=if key=k then none else srcOf h k:=by
 unfold srcOf
 rw [look_del]
 split <;> rfl
theorem kept_del (h:List (By×Thing)) (key k:By):keptOf (del h key) k=if key=k then none else keptOf h k:=by
 unfold keptOf
 rw [look_del]
 split <;> rfl
theorem Sound.drop {s:LS} (h:Sound s) (key:By):Sound (s.drop key) where
 ef:=by
  refine ⟨fun k v hk=>?_,fun k t hk=>?_⟩
  ·have hk:srcOf (del s.has key) k=_:=hk
   rw [src_del] at hk
   split at hk
   ·cases hk
   ·exact h.ef.val k v hk
  ·have hk:srcOf (del s.has key) k=_:=hk
   rw [src_del] at hk
   split at hk
   ·cases hk
   ·exact h.ef.rule k t hk
 hon k t kp h1 h2:=by
  have h1:srcOf (del s.has key) k=_:=h1
  have h2:keptOf (del s.has key) k=_:=h2
  rw [kept_del] at h2
  split at h2
  ·cases h2
  ·rename_i hn
   rw [src_del,if_neg hn] at h1
   exact h.hon k t kp h1 h2
 only k kp h2:=by
  have h2:keptOf (del s.has key) k=_:=h2
  rw [kept_del] at h2
  split at h2
  ·cases h2
  ·rename_i hn
   show ∃ t,srcOf (del s.has key) k=_
   rw [src_del,if_neg hn]
   exact h.only k kp h2
 fine k kp h2:=by
  have h2:keptOf (del s.has key) k=_:=h2
  rw [kept_del] at h2
  split at h2
  ·cases h2
  ·exact h.fine k kp h2
 begun:=h.begun
 kb p hp kp hkp:=h.kb p (List.mem_filter.1 hp).1 kp hkp
 len:=Nat.le_trans (List.length_filter_le _ _) h.len
theorem ask_same {s f:LS} (hs:Sound s) (hf:Sound f) (he:srcOf s.has=srcOf f.has) (key:By):(s.ask key).1=(f.ask key).1:=by
 obtain ⟨_,_,h1,_⟩:=hs.bp key
 obtain ⟨_,_,h2,_⟩:=hf.bp key
 rw [he] at h1
 exact h1.det h2
theorem ask_ring {s:LS} (hs:Sound s) (key:By) (h:(s.ask key).1=.error 12):(s.ask key).2.ring≠[]∧Ring (srcOf s.has) (s.ask key).2.ring:=by
 obtain ⟨_,hon,_,h2,_⟩:=hs.bp key
 exact ⟨h2 h,hon.inv.ring (h2 h)⟩
end Lard
end Go.Proofs.YtpekpdimdelncaaGreatDoor
