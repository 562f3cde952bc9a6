/- Out of: Rd, Th2. -/
import Derived.Test.YtpekpdimdelncaaGreatDoorP01
import Derived.Test.YtpekpdimdelncaaGreatDoorP25
import Derived.Test.YtpekpdimdelncaaGreatDoorP16
set_option linter.unusedVariables false
namespace Go.Proofs.YtpekpdimdelncaaGreatDoor
namespace Lard
def numC (c:UInt8):Bool:=c == 45 || isDig c
def rdItems (R:List UInt8→Option (V×List UInt8)):Nat→List UInt8→List V→Option (V×List UInt8)
 |0,_,_=>none
 |k + 1,l,acc=>match R l with
  |none=>none
  |some (v,r)=>match r with
   |[]=>none
   |c :: r=>if c=125 then some (vl (acc++[v]),r) else if c=44 then rdItems R k r (acc++[v]) else none
def rdNum (l:List UInt8):Option (V×List UInt8):=(numOf (l.take (lead numC l))).map fun i=>(vn i,l.drop (lead numC l))
def rdWord (l:List UInt8):Option (V×List UInt8):=(wordOf l).map fun n=>(vw ((l.drop 1).take n),l.drop (n + 2))
def rdList (R:List UInt8→Option (V×List UInt8)) (l:List UInt8):Option (V×List UInt8) :=
 if l.head? = some 125 then some (vl [],l.drop 1) else rdItems R 12 l []
def rdF:Nat→List UInt8→Option (V×List UInt8)
 |n,l=>if l.head? = some 39 then rdWord l else if l.head? = some 123 then (match n with | 0=>none | m + 1=>rdList (rdF m) (l.drop 1)) else rdNum l
def rdV (l:List UInt8):Option V :=
 match rdF 3 l with
 |some (v,[])=>some v
 |_=>none
/-! What is read. -/
def okV:Nat→V→Prop
 |n,v=>match v.x with
  |.inl i=>-9223372036854775808≤i∧i≤9223372036854775807
  |.inr (.inl b)=>b.length≤30∧∀ c∈b,wordC c=true∧c≠39
  |.inr (.inr l)=>match n with
   |0=>False
   |m + 1=>l.length≤12∧∀ u∈l,okV m u
theorem okV_lev:∀ (n:Nat) (v:V),okV n v→lev n v=true
 |n,⟨.inl i⟩,h=>by unfold lev; rfl
 |n,⟨.inr (.inl b)⟩,h=>by unfold lev; rfl
 |0,⟨.inr (.inr l)⟩,h=>by unfold okV at h; exact h.elim
 |n + 1,⟨.inr (.inr l)⟩,h=>by
  unfold okV at h
  unfold lev
  exact List.all_eq_true.2 (fun x hx=>okV_lev n x (h.2 x hx))
theorem numOf_some {l:List UInt8} {i:Int} (h:numOf l=some i):Lib.itoa i=l∧Lib.parseIntB 64 l=.ok i:=by
 unfold numOf at h
 split at h
 ·rename_i v hv
  split at h
  ·rename_i h2
   cases h
   exact ⟨by simpa using h2,hv⟩
  ·cases h
 ·cases h
theorem quote_some:∀ (n:Nat) (l:List UInt8) (k:Nat),quote n l=some k→k < n∧k < l.length∧l[k]? = some 39∧∀ c∈l.take k,wordC c=true∧c≠39
 |0,_,_,h=>by cases h
 |n + 1,[],_,h=>by cases h
 |n + 1,c :: r,k,h=>by
  unfold quote at h
  split at h
  ·rename_i hc
   cases h
   exact ⟨by omega,by simp,by simp [hc],fun c hc=>by simp at hc⟩
  ·rename_i hc
   split at h
   ·rename_i hw
    cases hq:quote n r with
    |none=>rw [hq] at h; cases h
    |some m =>
     rw [hq] at h
     cases h
     obtain ⟨h1,h2,h3,h4⟩:=quote_some n r m hq
     refine ⟨by show m + 1 < n + 1; omega,by show m + 1 < (c :: r).length; simp; omega,by simpa using h3,fun d hd=>?_⟩
     rw [List.take_succ_cons,List.mem_cons] at hd
     rcases hd with rfl | hd
     ·exact ⟨hw,hc⟩
     ·exact h4 d hd
   ·cases h
theorem quote_make:∀ (b r:List UInt8) (n:Nat),b.length < n→(∀ c∈b,wordC c=true∧c≠39)→quote n (b++39 :: r)=some b.length
 |[],r,0,h,_=>by omega
 |[],r,n + 1,_,_=>by simp [quote]
 |c :: b,r,0,h,_=>by simp at h
 |c :: b,r,n + 1,h,hb=>by
  have hc:=hb c List.mem_cons_self
  have:=quote_make b r n (by simp at h; omega) (fun d hd=>hb d (List.mem_cons_of_mem _ hd))
  simp [quote,hc.1,hc.2,this]
theorem val_dec (u:Nat):val (Lib.decDigits u) 0=u:=by
 induction u using Nat.strongRecOn with
 |ind u ih =>
  rw [Lib.decDigits]
  by_cases h:u < 10
  ·rw [dif_pos h]
   show 10 * 0 + ((UInt8.ofNat (48 + u)).toNat - 48)=u
   rw [UInt8.toNat_ofNat']
   omega
  ·rw [dif_neg h,val_snoc,ih (u / 10) (by omega),UInt8.toNat_ofNat']
   omega
theorem dec_isDig (u:Nat):∀ c∈Lib.decDigits u,isDig c=true:=by
 induction u using Nat.strongRecOn with
 |ind u ih =>
  rw [Lib.decDigits]
  have hd:∀ k,k < 10→isDig (UInt8.ofNat (48 + k))=true:=fun k hk=>by
   match k,hk with
   |0,_=>rfl
   |1,_=>rfl
   |2,_=>rfl
   |3,_=>rfl
   |4,_=>rfl
   |5,_=>rfl
   |6,_=>rfl
   |7,_=>rfl
   |8,_=>rfl
   |9,_=>rfl
  by_cases h:u < 10
  ·rw [dif_pos h]
   intro c hc
   rw [List.mem_singleton.1 hc]
   exact hd u h
  ·rw [dif_neg h]
   intro c hc
   rcases List.mem_append.1 hc with hc | hc
   ·exact ih (u / 10) (by omega) c hc
   ·rw [List.mem_singleton.1 hc]
    exact hd _ (by omega)
theorem dec_ne (u:Nat):Lib.decDigits u≠[]:=by
 rw [Lib.decDigits]
 split
 ·simp
 ·simp
theorem parseU_dec (u:Nat) (h:u≤18446744073709551615):Lib.parseUintB 64 (Lib.decDigits u)=.ok u:=by
 unfold Lib.parseUintB
 rw [if_neg (dec_ne u)]
 have:=M_eq (Lib.decDigits u) 0 (dec_isDig u) (by omega)
 rw [val_dec,if_pos h] at this
 exact this
theorem parse_itoa (i:Int) (h0:-9223372036854775808≤i) (h1:i≤9223372036854775807):Lib.parseIntB 64 (Lib.itoa i)=.ok i:=by
 unfold Lib.itoa
 by_cases hn:i < 0
 ·rw [if_pos hn]
  unfold Lib.parseIntB
  have e:(45:UInt8).toNat=45:=rfl
  simp only [e]
  rw [if_pos (.inr trivial),parseU_dec i.natAbs (by omega)]
  simp only
  rw [if_neg (by simp),if_neg (by simp; omega),if_pos trivial]
  congr 1
  omega
 ·rw [if_neg hn]
  cases hd:Lib.decDigits i.toNat with
  |nil=>exact (dec_ne _ hd).elim
  |cons c r =>
   have hc:=dig_bd (dec_isDig i.toNat c (by rw [hd]; simp))
   unfold Lib.parseIntB
   simp only
   rw [if_neg (by omega),←hd,parseU_dec _ (by omega)]
   simp only
   rw [if_neg (by simp; omega),if_neg (by omega),if_neg (by omega)]
   congr 1
   omega
theorem numOf_itoa (i:Int) (h0:-9223372036854775808≤i) (h1:i≤9223372036854775807):numOf (Lib.itoa i)=some i:=by
 unfold numOf
 rw [parse_itoa i h0 h1]
 simp
theorem itoa_numC (i:Int):∀ c∈Lib.itoa i,numC c=true:=by
 unfold Lib.itoa
 intro c hc
 split at hc
 ·rcases List.mem_cons.1 hc with rfl | hc
  ·rfl
  ·unfold numC; rw [dec_isDig _ c hc]; simp
 ·unfold numC; rw [dec_isDig _ c hc]; simp
theorem itoa_ne (i:Int):Lib.itoa i≠[]:=by
 unfold Lib.itoa
 split
 ·simp
 ·exact dec_ne _
theorem lead_app (p:UInt8→Bool):∀ (a r:List UInt8),(∀ c∈a,p c=true)→(∀ c,r.head? = some c→p c=false)→lead p (a++r)=a.length
 |[],[],_,_=>rfl
 |[],c :: r,_,h=>by
  have:=h c rfl
  simp [lead,this]
 |c :: a,r,h,h'=>by
  have hc:=h c List.mem_cons_self
  have:=lead_app p a r (fun d hd=>h d (List.mem_cons_of_mem _ hd)) h'
  simp [lead,hc,this]
def Apart (r:List UInt8):Prop:=∀ c,r.head? = some c→numC c=false
theorem numC_39:numC 39=false:=by decide
theorem numC_123:numC 123=false:=by decide
theorem rdNum_itoa (i:Int) (h0:-9223372036854775808≤i) (h1:i≤9223372036854775807) (r:List UInt8) (hr:Apart r):rdNum (Lib.itoa i++r)=some (vn i,r):=by
 unfold rdNum
 rw [lead_app numC _ _ (itoa_numC i) hr,List.take_left',numOf_itoa i h0 h1,List.drop_left']
 ·rfl
 ·rfl
 ·rfl
theorem head_itoa (i:Int) (r:List UInt8):(Lib.itoa i++r).head? ≠ some 39∧(Lib.itoa i++r).head? ≠ some 123:=by
 cases h:Lib.itoa i with
 |nil=>exact (itoa_ne i h).elim
 |cons c t =>
  have:=itoa_numC i c (by rw [h]; simp)
  simp only [List.cons_append,List.head?_cons]
  refine ⟨fun e=>?_,fun e=>?_⟩
  ·cases e; rw [numC_39] at this; cases this
  ·cases e; rw [numC_123] at this; cases this
theorem rdItems_wr (R:List UInt8→Option (V×List UInt8)) (f:V→List UInt8):∀ (l:List V) (acc:List V) (k:Nat) (r:List UInt8),l≠[]→l.length≤k→(∀ u∈l,∀ r,Apart r→R (f u++r)=some (u,r))→rdItems R k (commas (l.map f)++125 :: r) acc=some (vl (acc++l),r)
 |[],acc,k,r,h,_,_=>(h rfl).elim
 |[u],acc,0,r,_,h,_=>by simp at h
 |[u],acc,k + 1,r,_,_,hR=>by
  have h125:Apart (125 :: r):=fun c hc=>by cases hc; decide
  have:=hR u (by simp) (125 :: r) h125
  simp [commas,rdItems,this]
 |u :: v :: l,acc,0,r,_,h,_=>by simp at h
 |u :: v :: l,acc,k + 1,r,_,hk,hR=>by
  have h44:Apart (44 :: (commas ((v :: l).map f)++125 :: r)):=fun c hc=>by cases hc; decide
  have h1:=hR u (by simp) _ h44
  have ih:=rdItems_wr R f (v :: l) (acc++[u]) k r (by simp) (by simp at hk ⊢; omega) (fun x hx=>hR x (List.mem_cons_of_mem _ hx))
  have e:commas ((u :: v :: l).map f)++125 :: r=f u++44 :: (commas ((v :: l).map f)++125 :: r):=by simp [commas]
  rw [e]
  unfold rdItems
  rw [h1]
  simp only
  rw [if_neg (by decide),if_pos trivial,ih]
  simp
theorem rdF_wr:∀ (n:Nat) (v:V) (r:List UInt8),okV n v→Apart r→rdF n (wr n v++r)=some (v,r)
 |n,⟨.inl i⟩,r,h,hr=>by
  unfold okV at h
  obtain ⟨a,b⟩:=head_itoa i r
  unfold wr rdF
  simp only
  rw [if_neg a,if_neg b]
  exact rdNum_itoa i h.1 h.2 r hr
 |n,⟨.inr (.inl b)⟩,r,h,hr=>by
  unfold okV at h
  have hq:=quote_make b r 31 (by omega) h.2
  unfold wr rdF
  simp only
  have e:(39 :: (b++[39]))++r=39 :: (b++39 :: r):=by simp
  rw [e]
  rw [if_pos (show (39 :: (b++39 :: r)).head? = some 39 from rfl)]
  unfold rdWord wordOf
  simp only [if_true,hq,Option.map_some,List.drop_succ_cons,List.drop_zero]
  rw [List.take_left',←List.drop_drop,List.drop_left']
  ·rfl
  ·rfl
  ·rfl
 |0,⟨.inr (.inr l)⟩,r,h,hr=>by unfold okV at h; exact h.elim
 |n + 1,⟨.inr (.inr l)⟩,r,h,hr=>by
  unfold okV at h
  unfold wr rdF
  simp only
  have e:(123 :: (commas (l.map (wr n))++[125]))++r=123 :: (commas (l.map (wr n))++125 :: r):=by simp
  rw [e,if_neg (by simp),if_pos (show (123 :: (commas (l.map (wr n))++125 :: r)).head? = some 123 from rfl)]
  simp only [List.drop_succ_cons,List.drop_zero]
  unfold rdList
  cases l with
  |nil=>simp [commas,vl]
  |cons u l =>
   have hih:∀ x∈u :: l,∀ r,Apart r→rdF n (wr n x++r)=some (x,r):=fun x hx r hr=>rdF_wr n x r (h.2 x hx) hr
   have hne:(commas ((u :: l).map (wr n))++125 :: r).head? ≠ some 125:=by
    have hw:(wr n u).head? ≠ some 125∧wr n u≠[]:=by
     have hu:=h.2 u (by simp)
     obtain ⟨x⟩:=u
     rcases x with i | b | m
     ·unfold wr
      simp only
      refine ⟨?_,itoa_ne i⟩
      cases hi:Lib.itoa i with
      |nil=>exact (itoa_ne i hi).elim
      |cons c t =>
       have:=itoa_numC i c (by rw [hi]; simp)
       intro e
       cases e
       have h125:numC 125=false:=by decide
       rw [h125] at this
       cases this
     ·unfold wr
      simp
     ·cases n with
      |zero=>unfold okV at hu; exact hu.elim
      |succ n=>unfold wr; simp
    have he:∃ t,commas ((u :: l).map (wr n))++125 :: r=wr n u++t:=by
     cases l with
     |nil=>exact ⟨125 :: r,by simp [commas]⟩
     |cons v l=>exact ⟨44 :: (commas ((v :: l).map (wr n))++125 :: r),by simp [commas]⟩
    obtain ⟨t,ht⟩:=he
    rw [ht]
    cases hc:wr n u with
    |nil=>exact (hw.2 hc).elim
    |cons c q =>
     have:=hw.1
     rw [hc] at this
     simpa using this
   rw [if_neg hne,rdItems_wr (rdF n) (wr n) (u :: l) [] 12 r (by simp) h.1 hih]
   rfl
theorem rdV_wr {v:V} (h:okV 3 v):rdV (wr 3 v)=some v:=by
 have:=rdF_wr 3 v [] h (fun c hc=>by cases hc)
 rw [List.append_nil] at this
 unfold rdV
 rw [this]
theorem rdItems_some (R:List UInt8→Option (V×List UInt8)) (A:V→Prop) (f:V→List UInt8) (hR:∀ l v r,R l=some (v,r)→A v∧l=f v++r):∀ (k:Nat) (l:List UInt8) (acc:List V) (v:V) (r:List UInt8),rdItems R k l acc=some (v,r)→∃ m:List V,m≠[]∧m.length≤k∧v=vl (acc++m)∧(∀ u∈m,A u)∧l=commas (m.map f)++125 :: r
 |0,_,_,_,_,h=>by cases h
 |k + 1,l,acc,v,r,h=>by
  unfold rdItems at h
  cases hl:R l with
  |none=>rw [hl] at h; cases h
  |some q =>
   obtain ⟨u,t⟩:=q
   obtain ⟨hA,rfl⟩:=hR l u t hl
   rw [hl] at h
   cases t with
   |nil=>cases h
   |cons c t =>
    simp only at h
    split at h
    ·rename_i hc
     cases h
     subst hc
     exact ⟨[u],by simp,by simp,rfl,fun x hx=>by rw [List.mem_singleton.1 hx]; exact hA,by simp [commas]⟩
    ·split at h
     ·rename_i hc
      subst hc
      obtain ⟨m,h1,h2,h3,h4,h5⟩:=rdItems_some R A f hR k t (acc++[u]) v r h
      refine ⟨u :: m,by simp,by simp; omega,by rw [h3]; simp,fun x hx=>?_,?_⟩
      ·rcases List.mem_cons.1 hx with rfl | hx
       ·exact hA
       ·exact h4 x hx
      ·cases m with
       |nil=>exact (h1 rfl).elim
       |cons y m=>rw [h5]; simp [commas]
     ·cases h
theorem rdF_some:∀ (n:Nat) (l:List UInt8) (v:V) (r:List UInt8),rdF n l=some (v,r)→okV n v∧l=wr n v++r:=by
 have hleaf:∀ (n:Nat) (l:List UInt8) (v:V) (r:List UInt8),(l.head? = some 39∧rdWord l=some (v,r))∨rdNum l=some (v,r)→okV n v∧l=wr n v++r:=by
  rintro n l v r (⟨hh,h⟩ | h)
  ·unfold rdWord at h
   cases l with
   |nil=>cases hh
   |cons c t =>
    cases hh
    have e:wordOf (39 :: t)=quote 31 t:=by unfold wordOf; exact if_pos rfl
    rw [e] at h
    cases hq:quote 31 t with
    |none=>rw [hq] at h; cases h
    |some k =>
     rw [hq] at h
     cases h
     obtain ⟨h1,h2,h3,h4⟩:=quote_some 31 t k hq
     refine ⟨?_,?_⟩
     ·unfold vw okV
      simp only [List.drop_succ_cons,List.drop_zero]
      exact ⟨by rw [List.length_take]; omega,h4⟩
     ·unfold vw wr
      simp only [List.drop_succ_cons,List.drop_zero]
      have ht:t=t.take k++39 :: t.drop (k + 1):=by
       have h5:t.drop k=39 :: t.drop (k + 1):=by
        have hlt:k < t.length:=h2
        rw [List.drop_eq_getElem_cons hlt]
        rw [List.getElem?_eq_getElem hlt] at h3
        rw [Option.some.inj h3]
       rw [←h5]
       exact (List.take_append_drop k t).symm
      conv=>lhs; rw [ht]
      simp
  ·unfold rdNum at h
   cases hn:numOf (l.take (lead numC l)) with
   |none=>rw [hn] at h; cases h
   |some i =>
    rw [hn] at h
    cases h
    obtain ⟨h1,h2⟩:=numOf_some hn
    refine ⟨?_,?_⟩
    ·unfold vn okV
     exact parse_range _ _ h2
    ·unfold vn wr
     simp only
     rw [h1]
     exact (List.take_append_drop _ l).symm
 intro n
 induction n with
 |zero =>
  intro l v r h
  unfold rdF at h
  split at h
  ·rename_i hh; exact hleaf 0 l v r (.inl ⟨hh,h⟩)
  ·split at h
   ·cases h
   ·exact hleaf 0 l v r (.inr h)
 |succ n ih =>
  intro l v r h
  unfold rdF at h
  split at h
  ·rename_i hh; exact hleaf (n + 1) l v r (.inl ⟨hh,h⟩)
  ·split at h
   ·rename_i hh
    cases l with
    |nil=>cases hh
    |cons c t =>
     cases hh
     simp only [List.drop_succ_cons,List.drop_zero] at h
     unfold rdList at h
     split at h
     ·rename_i h125
      cases h
      cases t with
      |nil=>cases h125
      |cons d t =>
       cases h125
       refine ⟨?_,?_⟩
       ·unfold vl okV
        exact ⟨by simp,fun u hu=>by cases hu⟩
       ·unfold vl wr
        simp [commas]
     ·obtain ⟨m,h1,h2,h3,h4,h5⟩:=rdItems_some (rdF n) (okV n) (wr n) (fun l v r h=>ih l v r h) 12 t [] v r h
      subst h3
      refine ⟨?_,?_⟩
      ·unfold vl okV
       exact ⟨by simpa using h2,by simpa using h4⟩
      ·unfold vl wr
       rw [h5]
       simp
   ·exact hleaf (n + 1) l v r (.inr h)
theorem rdV_some {l:List UInt8} {v:V} (h:rdV l=some v):okV 3 v∧l=wr 3 v:=by
 unfold rdV at h
 split at h
 ·rename_i u hu
  cases h
  obtain ⟨h1,h2⟩:=rdF_some 3 l v [] hu
  exact ⟨h1,by rw [h2,List.append_nil]⟩
 ·cases h
end Lard
section
namespace Lard
def Fine (w:Wo):Prop:=∀ v,w=.ok v→okV 3 v
def isKey (k:By):Bool:=isName k || (k.head? == some 107 && (numOf (k.drop 1)).isSome)
theorem zip_self_all {α:Type} (p:α×α→Bool):∀ (l:List α),((l.zip l).all p)=l.all fun x=>p (x,x)
 |[]=>rfl
 |a :: l=>by simp only [List.zip_cons_cons,List.all_cons,zip_self_all p l]
theorem same_self:∀ (n:Nat) (v:V),same n v v=lev n v
 |n,⟨.inl i⟩=>by unfold same lev; simp
 |n,⟨.inr (.inl b)⟩=>by unfold same lev; simp
 |0,⟨.inr (.inr l)⟩=>by unfold same lev; rfl
 |n + 1,⟨.inr (.inr l)⟩=>by
  unfold same lev
  simp only [beq_self_eq_true,Bool.true_and]
  rw [zip_self_all]
  congr 1
  funext x
  exact same_self n x
theorem Fine.same {w:Wo} (h:Fine w):sameO w w=true:=by
 cases w with
 |ok v=>show Lard.same 3 v v=true; rw [same_self]; exact okV_lev 3 v (h v rfl)
 |error c=>simp [sameO]
def Clo:Pg Wo→Prop
 |⟨.inl w⟩=>Fine w
 |⟨.inr (k,c)⟩=>isKey k=true∧∀ w,Fine w→Clo (c w)
structure EF (e:Src):Prop where
 val:∀ k v,e k=some (.inl v)→Fine (.ok v)
 rule:∀ k t,e k=some (.inr t)→Clo (prog t)
theorem same_eq:∀ (n:Nat) (v u:V),same n v u=true→v=u
 |n,⟨.inl i⟩,⟨.inl j⟩,h=>by unfold same at h; simp at h; rw [h]
 |n,⟨.inl i⟩,⟨.inr (.inl b)⟩,h=>by unfold same at h; simp at h
 |n,⟨.inl i⟩,⟨.inr (.inr b)⟩,h=>by unfold same at h; simp at h
 |n,⟨.inr (.inl i)⟩,⟨.inl j⟩,h=>by unfold same at h; simp at h
 |n,⟨.inr (.inl i)⟩,⟨.inr (.inl j)⟩,h=>by unfold same at h; simp at h; rw [h]
 |n,⟨.inr (.inl i)⟩,⟨.inr (.inr j)⟩,h=>by unfold same at h; simp at h
 |n,⟨.inr (.inr i)⟩,⟨.inl j⟩,h=>by unfold same at h; simp at h
 |n,⟨.inr (.inr i)⟩,⟨.inr (.inl j)⟩,h=>by unfold same at h; simp at h
 |0,⟨.inr (.inr i)⟩,⟨.inr (.inr j)⟩,h=>by unfold same at h; simp at h
 |n + 1,⟨.inr (.inr l)⟩,⟨.inr (.inr m)⟩,h=>by
  unfold same at h
  simp only [Bool.and_eq_true,beq_iff_eq,List.all_eq_true] at h
  obtain ⟨h1,h2⟩:=h
  have:l=m:=by
   apply List.ext_getElem? 
   intro i
   rcases Nat.lt_or_ge i l.length with hi | hi
   ·have hm:i < m.length:=by omega
    rw [List.getElem?_eq_getElem hi,List.getElem?_eq_getElem hm]
    have h3:=h2 (l[i],m[i]) (by
     apply List.mem_of_getElem? (i:=i)
     rw [List.getElem?_zip_eq_some]
     exact ⟨List.getElem?_eq_getElem hi,List.getElem?_eq_getElem hm⟩)
    rw [same_eq n l[i] m[i] h3]
   ·rw [List.getElem?_eq_none hi,List.getElem?_eq_none (by omega)]
  rw [this]
theorem sameO_eq {a b:Wo} (h:sameO a b=true):a=b:=by
 cases a <;> cases b <;> simp [sameO] at h
 ·rw [h]
 ·rw [same_eq _ _ _ h]
theorem Rn.fine {O:By→Wo→Prop} (h:∀ k u,O k u→Fine u):∀ (p:Pg Wo) (w:Wo),Rn O p w→Clo p→Fine w
 |⟨.inl _⟩,_,hp,hc=>hp.1 ▸ hc
 |⟨.inr (k,c)⟩,w,⟨u,h1,h2⟩,hc=>Rn.fine h (c u) w h2 (hc.2 u (h k u h1))
variable {e:Src}
theorem Wn.fine (he:EF e):∀ {n:Nat} {k:By} {w:Wo},Wn e n k w→Fine w:=by
 have hb:∀ {k w},Base e k w→Fine w:=by
  intro k w h
  rcases h with ⟨_,rfl⟩ | ⟨v,h,rfl⟩
  ·exact fun v hv=>by cases hv
  ·exact he.val k v h
 intro n
 induction n with
 |zero=>intro k w h; exact hb h
 |succ n ih =>
  intro k w h
  rcases h with h | ⟨t,h1,h2⟩
  ·exact hb h
  ·exact Rn.fine (fun k u h=>ih h) _ _ h2 (he.rule k t h1)
theorem W.fine (he:EF e) {k:By} {w:Wo}:W e k w→Fine w
 |⟨_,h⟩=>h.fine he
/-! Up to date. -/
def UtdN (e:Src) (h:List (By×Thing)):Nat→By→Prop
 |0,k=>∀ t,e k≠some (.inr t)
 |n + 1,k=>(∀ t,e k≠some (.inr t))∨∃ t kp,e k=some (.inr t)∧keptOf h k=some kp∧∀ q∈kp.needs,W e q.1 q.2∧UtdN e h n q.1
def Utd (e:Src) (h:List (By×Thing)) (k:By):Prop:=∃ n,UtdN e h n k
theorem UtdN.up {h:List (By×Thing)}:∀ {n:Nat} {k:By},UtdN e h n k→UtdN e h (n + 1) k
 |0,_,hu=>.inl hu
 |n + 1,k,hu=>by
  rcases hu with hu | ⟨t,kp,h1,h2,h3⟩
  ·exact .inl hu
  ·exact .inr ⟨t,kp,h1,h2,fun q hq=>⟨(h3 q hq).1,UtdN.up (h3 q hq).2⟩⟩
theorem UtdN.le {h:List (By×Thing)} {n m:Nat} {k:By} (hu:UtdN e h n k) (hm:n≤m):UtdN e h m k:=by
 induction hm with
 |refl=>exact hu
 |step _ ih=>exact ih.up
theorem utd_none {h:List (By×Thing)} {k:By} (hk:∀ t,e k≠some (.inr t)):Utd e h k:=⟨0,hk⟩
theorem utd_all {h:List (By×Thing)}:∀ (l:List (By×Wo)),(∀ q∈l,Utd e h q.1)→∃ n,∀ q∈l,UtdN e h n q.1
 |[],_=>⟨0,fun q hq=>by simp at hq⟩
 |q :: l,hl=>by
  obtain ⟨n,hn⟩:=hl q List.mem_cons_self
  obtain ⟨m,hm⟩:=utd_all l (fun q hq=>hl q (List.mem_cons_of_mem _ hq))
  refine ⟨max n m,fun q' hq=>?_⟩
  rcases List.mem_cons.1 hq with rfl | hq
  ·exact hn.le (Nat.le_max_left _ _)
  ·exact (hm q' hq).le (Nat.le_max_right _ _)
theorem utd_rule {h:List (By×Thing)} {k:By} {t:T} {kp:Keep} (h1:e k=some (.inr t)) (h2:keptOf h k=some kp) (h3:∀ q∈kp.needs,W e q.1 q.2∧Utd e h q.1):Utd e h k:=by
 obtain ⟨n,hn⟩:=utd_all kp.needs (fun q hq=>(h3 q hq).2)
 exact ⟨n + 1,.inr ⟨t,kp,h1,h2,fun q hq=>⟨(h3 q hq).1,hn q hq⟩⟩⟩
theorem Utd.rule {h:List (By×Thing)} {k:By} {t:T} (hu:Utd e h k) (h1:e k=some (.inr t)):∃ kp,keptOf h k=some kp∧∀ q∈kp.needs,W e q.1 q.2∧Utd e h q.1:=by
 obtain ⟨n,hn⟩:=hu
 cases n with
 |zero=>exact (hn t h1).elim
 |succ n =>
  rcases hn with hn | ⟨t',kp,h1',h2,h3⟩
  ·exact (hn t h1).elim
  ·exact ⟨kp,h2,fun q hq=>⟨(h3 q hq).1,n,(h3 q hq).2⟩⟩
theorem utd_same {h h':List (By×Thing)} (hs:∀ k,Utd e h k→keptOf h' k=keptOf h k) {k:By} (hu:Utd e h k):Utd e h' k:=by
 obtain ⟨n,hn⟩:=hu
 have:∀ n k,UtdN e h n k→UtdN e h' n k:=by
  intro n
  induction n with
  |zero=>intro k hk; exact hk
  |succ n ih =>
   intro k hk
   have hu:Utd e h k:=⟨n + 1,hk⟩
   rcases hk with hk | ⟨t,kp,h1,h2,h3⟩
   ·exact .inl hk
   ·exact .inr ⟨t,kp,h1,(hs k hu).trans h2,fun q hq=>⟨(h3 q hq).1,ih _ (h3 q hq).2⟩⟩
 exact ⟨n,this n k hn⟩
/-! A larder in an Ask. -/
structure Inv (e:Src) (s:LS):Prop where
 src:srcOf s.has=e
 done:∀ k w,look s.done k=some w→Is e k w
 utd:∀ k w,look s.done k=some w→w≠.error 12→Utd e s.has k
 hon:∀ k t kp,e k=some (.inr t)→keptOf s.has k=some kp→Hon (prog t) [] kp.needs kp.worth
 only:∀ k kp,keptOf s.has k=some kp→∃ t,e k=some (.inr t)
 fine:∀ k kp,keptOf s.has k=some kp→∀ q∈kp.needs,Fine q.2
 ring:s.ring≠[]→Ring e s.ring
 rr:∀ k,look s.done k=some (.error 12)→s.ring≠[]
def WhyOk (e:Src) (y:Why):Prop:=(y.need=[]∧y.was=.error 0∧y.now=.error 0)∨(Is e y.need y.now∧sameO y.now y.was=false∧Fine y.was)
def Lns (e:Src) (h:List (By×Thing)) (jr:List By) (h':List (By×Thing)) (jr':List By):Prop :=
 ∀ P:List (By×Thing)→List By→Prop,P h jr →
  (∀ {h1:List (By×Thing)} {jr1:List By} {key:By} {t:T} {kp:Keep},P h1 jr1→e key=some (.inr t)→Hon (prog t) [] kp.needs kp.worth→(∀ q∈kp.needs,W e q.1 q.2)→W e key kp.worth→P (setKept h1 key (some kp)) (jr1++[keepText key kp])) →
  (∀ {h1:List (By×Thing)} {jr1:List By} {key:By} {kp:Keep},P h1 jr1→keptOf h1 key=some kp→P (setKept h1 key none) (jr1++[[108,111,115,101,32]++key]))→P h' jr'
theorem Lns.refl {h:List (By×Thing)} {jr:List By}:Lns e h jr h jr:=fun P a b c=>a
theorem Lns.keep {h h1:List (By×Thing)} {jr jr1:List By} {key:By} {t:T} {kp:Keep} (hl:Lns e h jr h1 jr1) (h3:e key=some (.inr t)) (h4:Hon (prog t) [] kp.needs kp.worth) (h5:∀ q∈kp.needs,W e q.1 q.2) (h6:W e key kp.worth):Lns e h jr (setKept h1 key (some kp)) (jr1++[keepText key kp]) :=
 fun P a b c=>b (hl P a b c) h3 h4 h5 h6
theorem Lns.lose {h h1:List (By×Thing)} {jr jr1:List By} {key:By} {kp:Keep} (hl:Lns e h jr h1 jr1) (h3:keptOf h1 key=some kp):Lns e h jr (setKept h1 key none) (jr1++[[108,111,115,101,32]++key]) :=
 fun P a b c=>c (hl P a b c) h3
theorem Lns.trans {h h1 h2:List (By×Thing)} {j j1 j2:List By} (a:Lns e h j h1 j1) (b:Lns e h1 j1 h2 j2):Lns e h j h2 j2 :=
 b (fun h2 j2=>Lns e h j h2 j2) a (fun ih h3 h4 h5 h6=>ih.keep h3 h4 h5 h6) (fun ih h3=>ih.lose h3)
def Wd (h:List (By×Thing)) (y:Why):Prop:=y.need=[]∨∃ kp,keptOf h y.key=some kp∧(y.need,y.was)∈kp.needs
structure On (e:Src) (s s':LS) (new:List Why):Prop where
 inv:Inv e s'
 begun:s'.begun=s.begun
 done:∀ k w,look s.done k=some w→look s'.done k=some w
 ring:s.ring≠[]→s'.ring=s.ring
 ran:s'.ran=s.ran++new
 why:∀ y∈new,WhyOk e y
 old:∀ y∈new,look s.done y.key=none∧y.key ∉ s.begun∧¬ Utd e s.has y.key∧∃ w,look s'.done y.key=some w
 nodup:(new.map (·.key)).Nodup
 chg:∀ k,(∀ y∈new,y.key≠k)→look s'.has k=look s.has k
 quiet:new=[]→s'.has=s.has∧s'.jr=s.jr
 was:∀ y∈new,Wd s.has y
 jr:Lns e s.has s.jr s'.has s'.jr
theorem On.refl {s:LS} (h:Inv e s):On e s s [] :=
 ⟨h,rfl,fun _ _ h=>h,fun _=>rfl,by simp,fun _ h=>by simp at h,fun _ h=>by simp at h,by simp,fun _ _=>rfl,fun _=>⟨rfl,rfl⟩,fun _ h=>by simp at h,.refl⟩
theorem On.kept {s s':LS} {new:List Why} (h:On e s s' new) {k:By} (hk:Utd e s.has k):keptOf s'.has k=keptOf s.has k:=by
 unfold keptOf
 rw [h.chg k (fun y hy he=>(h.old y hy).2.2.1 (he ▸ hk))]
theorem On.utd {s s':LS} {new:List Why} (h:On e s s' new) {k:By} (hk:Utd e s.has k):Utd e s'.has k :=
 utd_same (fun _ hu=>h.kept hu) hk
theorem On.trans {s s1 s2:LS} {n1 n2:List Why} (h:On e s s1 n1) (h':On e s1 s2 n2):On e s s2 (n1++n2) where
 inv:=h'.inv
 begun:=h'.begun.trans h.begun
 done k w hk:=h'.done k w (h.done k w hk)
 ring hr:=(h'.ring (by rw [h.ring hr]; exact hr)).trans (h.ring hr)
 ran:=by rw [h'.ran,h.ran,List.append_assoc]
 why y hy:=(List.mem_append.1 hy).elim (h.why y) (h'.why y)
 old y hy:=by
  rcases List.mem_append.1 hy with hy | hy
  ·obtain ⟨h1,h2,h3,w,h4⟩:=h.old y hy
   exact ⟨h1,h2,h3,w,h'.done _ _ h4⟩
  ·obtain ⟨h1,h2,h3,h4⟩:=h'.old y hy
   refine ⟨?_,h.begun ▸ h2,fun hu=>h3 (h.utd hu),h4⟩
   cases hd:look s.done y.key with
   |none=>rfl
   |some w=>rw [h.done _ _ hd] at h1; cases h1
 nodup:=by
  rw [List.map_append,List.nodup_append]
  refine ⟨h.nodup,h'.nodup,?_⟩
  intro a ha b hb hab
  obtain ⟨y,hy,rfl⟩:=List.mem_map.1 ha
  obtain ⟨z,hz,rfl⟩:=List.mem_map.1 hb
  obtain ⟨_,_,_,w,hw⟩:=h.old y hy
  have:=(h'.old z hz).1
  rw [←hab,hw] at this
  cases this
 chg k hk:=(h'.chg k (fun y hy=>hk y (List.mem_append_right _ hy))).trans (h.chg k (fun y hy=>hk y (List.mem_append_left _ hy)))
 quiet hn:=by
  obtain ⟨h1,h2⟩:=List.append_eq_nil_iff.1 hn
  obtain ⟨a,b⟩:=h.quiet h1
  obtain ⟨c,d⟩:=h'.quiet h2
  exact ⟨c.trans a,d.trans b⟩
 was y hy:=by
  rcases List.mem_append.1 hy with hy | hy
  ·exact h.was y hy
  ·rcases h'.was y hy with h0 | ⟨kp,h1,h2⟩
   ·exact .inl h0
   ·refine .inr ⟨kp,?_,h2⟩
    rw [←h1]
    unfold keptOf
    rw [h.chg y.key (fun z hz e=>by
     obtain ⟨_,_,_,w,hw⟩:=h.old z hz
     have:=(h'.old y hy).1
     rw [←e,hw] at this
     cases this)]
 jr:=h.jr.trans h'.jr
def BP (e:Src) (key:By) (s:LS) (q:Wo×LS):Prop :=
 ∃ new,On e s q.2 new∧Is e key q.1∧(q.1=.error 12→q.2.ring≠[])∧(q.1≠.error 12→Utd e q.2.has key∧∀ y∈new,Utd e q.2.has y.key)∧(Utd e s.has key→new=[])∧(key∈s.begun∨look q.2.done key=some q.1)
def Fuel (K:List By) (b:List By) (n:Nat):Prop:=(K.filter fun k=>!b.contains k).length < n
theorem fuel_next {K b:List By} {n:Nat} {key:By} (h:Fuel K b (n + 1)) (hk:key∈K) (hb:key ∉ b):Fuel K (b++[key]) n:=by
 unfold Fuel at *
 have:(K.filter fun k=>!(b++[key]).contains k).length < (K.filter fun k=>!b.contains k).length:=by
  have h2:(K.filter fun k=>!(b++[key]).contains k)=(K.filter fun k=>!b.contains k).filter fun k=>!(k == key):=by
   rw [List.filter_filter]
   apply List.filter_congr
   intro x _
   by_cases hx:x=key
   ·simp [hx]
   ·simp [hx]
  rw [h2]
  apply List.length_filter_lt_length_iff_exists.2
  exact ⟨key,List.mem_filter.2 ⟨hk,by simp [hb]⟩,by simp⟩
 omega
section
structure Res (e:Src) (key:By) (p:Pg Wo):Prop where
 down:∀ n w,Wn e (n + 1) key w→Rn (Wn e n) p w
 up:∀ w,Rn (W e) p w→W e key w
 asks:∀ k',Asks e p k'→Nxt e key k'
theorem Res.start {key:By} {t:T} (h:e key=some (.inr t)):Res e key (prog t) where
 down n w hw:=by
  rcases hw with hw | ⟨t',h1,h2⟩
  ·exact (Base.noRule hw h).elim
  ·rw [h] at h1; cases h1; exact h2
 up w hw:=W.rule h hw
 asks k' ha:=⟨t,h,ha⟩
theorem Res.step {key k:By} {c:Wo→Pg Wo} {u:Wo} (h:Res e key ⟨.inr (k,c)⟩) (hu:W e k u):Res e key (c u) where
 down n w hw:=by
  obtain ⟨u',h1,h2⟩:=h.down n w hw
  obtain rfl:=W.det ⟨n,h1⟩ hu
  exact h2
 up w hw:=h.up w ⟨u,hu,hw⟩
 asks k' ha:=h.asks k' (.inr ⟨u,hu,ha⟩)
theorem Res.no {key k:By} {c:Wo→Pg Wo} (h:Res e key ⟨.inr (k,c)⟩) (hk:∀ u,¬ W e k u):∀ w,¬ W e key w:=by
 rintro w ⟨n,hn⟩
 obtain ⟨u,h1,_⟩:=h.down n w hn.up
 exact hk u ⟨n,h1⟩
def Brings (e:Src) (Br:By→LS→Wo×LS) (b:List By):Prop:=∀ k s,Inv e s→s.begun=b→Lnk (Nxt e) (b++[k])→BP e k s (Br k s)
theorem run_ok (he:EF e) {Br:By→LS→Wo×LS} {b:List By} {key:By} (hB:Brings e Br (b++[key])) (hl:Lnk (Nxt e) (b++[key])) :
  ∀ (p:Pg Wo) (s:LS) (acc:List (By×Wo)),Inv e s→s.begun=b++[key]→Res e key p→Fin p→(∀ q∈acc,W e q.1 q.2∧Utd e s.has q.1∧Fine q.2) →
  ∃ new,On e s (p.run (needL Br) (s,acc)).2.1 new ∧
   (((p.run (needL Br) (s,acc)).1=.error 12∧(p.run (needL Br) (s,acc)).2.1.ring≠[]∧∀ u,¬ W e key u) ∨
    ((p.run (needL Br) (s,acc)).1≠.error 12∧W e key (p.run (needL Br) (s,acc)).1∧Hon p acc (p.run (needL Br) (s,acc)).2.2 (p.run (needL Br) (s,acc)).1∧(∀ q∈(p.run (needL Br) (s,acc)).2.2,W e q.1 q.2∧Utd e (p.run (needL Br) (s,acc)).2.1.has q.1∧Fine q.2)∧∀ y∈new,Utd e (p.run (needL Br) (s,acc)).2.1.has y.key)):=by
 intro p
 induction p using Pg.ind with
 |h1 w =>
  intro s acc hi hb hr hf ha
  have h12:w≠.error 12:=hf
  exact ⟨[],On.refl hi,.inr ⟨h12,hr.up w ⟨rfl,h12⟩,⟨rfl,h12,rfl⟩,ha,fun _ h=>by simp at h⟩⟩
 |h2 k c ih =>
  intro s acc hi hb hr hf ha
  have hrun:(Pg.ask k c).run (needL Br) (s,acc)=(c (Br k s).1).run (needL Br) ((Br k s).2,withNeed acc k (Br k s).1):=rfl
  rw [hrun]
  have hlk:Lnk (Nxt e) (b++[key]++[k]):=lnk_snoc b key k hl (hr.asks k (.inl rfl))
  obtain ⟨new,hon,his,h12,hne,hq,hd⟩:=hB k s hi hb hlk
  generalize Br k s=q at hon his h12 hne hd ⊢
  obtain ⟨u,s1⟩:=q
  simp only at hon his h12 hne hd ⊢
  by_cases hu:u=.error 12
  ·subst hu
   have hc:c (.error 12)=.ret (.error 12):=hf.1
   rw [hc]
   exact ⟨new,hon,.inl ⟨rfl,h12 rfl,hr.no (fun u hw=>his.no hw)⟩⟩
  ·have hw:=his.w hu
   obtain ⟨hu1,hu2⟩:=hne hu
   have hacc:∀ q∈withNeed acc k u,W e q.1 q.2∧Utd e s1.has q.1∧Fine q.2:=by
    intro q hq
    have h1:q∈acc∨q=(k,u):=by
     unfold withNeed at hq
     split at hq
     ·exact .inl hq
     ·rcases List.mem_append.1 hq with hq | hq
      ·exact .inl hq
      ·exact .inr (List.mem_singleton.1 hq)
    rcases h1 with h1 | rfl
    ·exact ⟨(ha q h1).1,hon.utd (ha q h1).2.1,(ha q h1).2.2⟩
    ·exact ⟨hw,hu1,hw.fine he⟩
   obtain ⟨new2,hon2,hcase⟩:=ih u s1 (withNeed acc k u) hon.inv (hon.begun.trans hb) (hr.step hw) (hf.2 u hu) hacc
   refine ⟨new++new2,hon.trans hon2,?_⟩
   rcases hcase with hcase | ⟨g1,g2,g3,g4,g5⟩
   ·exact .inl hcase
   ·refine .inr ⟨g1,g2,?_,g4,fun y hy=>?_⟩
    ·unfold withNeed at g3 ⊢
     cases hlk:look acc k with
     |some u0 =>
      rw [hlk] at g3
      have:u0=u:=(ha _ (look_mem hlk)).1.det hw
      subst this
      exact .inl ⟨u0,hlk,by simpa using g3⟩
     |none =>
      rw [hlk] at g3
      exact .inr ⟨hlk,u,hu,by simpa using g3⟩
    ·rcases List.mem_append.1 hy with hy | hy
     ·exact hon2.utd (hu2 y hy)
     ·exact g5 y hy
theorem due_ok {Br:By→LS→Wo×LS} {b:List By} {key:By} {t:T} {kp:Keep} (hB:Brings e Br (b++[key])) (hl:Lnk (Nxt e) (b++[key])) (ht:e key=some (.inr t)) (hh:Hon (prog t) [] kp.needs kp.worth) (hfi:∀ q∈kp.needs,Fine q.2) :
  ∀ (rest pre:List (By×Wo)) (s:LS),kp.needs=pre++rest→Inv e s→s.begun=b++[key]→(∀ q∈pre,W e q.1 q.2∧Utd e s.has q.1) →
  ∃ new,On e s (dueL Br key rest s).2 new∧((∀ u,W e key u→∀ y∈new,Utd e (dueL Br key rest s).2.has y.key))∧((∀ q∈rest,W e q.1 q.2∧Utd e s.has q.1)→(dueL Br key rest s).1=none∧new=[]) ∧
   (((dueL Br key rest s).1=none∧∀ q∈kp.needs,W e q.1 q.2∧Utd e (dueL Br key rest s).2.has q.1) ∨
    ∃ y,(dueL Br key rest s).1=some y∧y.key=key∧Is e y.need y.now∧sameO y.now y.was=false∧(y.need,y.was)∈kp.needs)
 |[],pre,s,hn,hi,hb,hp=>by
  rw [List.append_nil] at hn
  exact ⟨[],On.refl hi,fun _ _ _ h=>by simp at h,fun _=>⟨rfl,rfl⟩,.inl ⟨rfl,hn ▸ hp⟩⟩
 |(k,w) :: rest,pre,s,hn,hi,hb,hp=>by
  have hask:Asks e (prog t) k:=Hon.next (hn ▸ hh) (Nat.zero_le _) (fun q hq=>(hp q hq).1)
  have hlk:Lnk (Nxt e) (b++[key]++[k]):=lnk_snoc b key k hl ⟨t,ht,hask⟩
  obtain ⟨new,hon,his,h12,hne,hq,hd⟩:=hB k s hi hb hlk
  have hdue:dueL Br key ((k,w) :: rest) s=if sameO (Br k s).1 w=true then dueL Br key rest (Br k s).2 else (some ⟨key,k,w,(Br k s).1⟩,(Br k s).2):=rfl
  rw [hdue]
  generalize Br k s=q at hon his h12 hne hd ⊢
  obtain ⟨u,s1⟩:=q
  simp only at hon his h12 hne hd ⊢
  have hin:(k,w)∈kp.needs:=by rw [hn]; simp
  have hkeyW:∀ v,W e key v→u≠.error 12:=by
   rintro v ⟨n,hv⟩ rfl
   obtain ⟨m,w',_,hw'⟩:=Nxt.down ⟨t,ht,hask⟩ hv
   exact his.no ⟨m,hw'⟩
  by_cases hs:sameO u w=true
  ·rw [if_pos hs]
   obtain rfl:=sameO_eq hs
   have hu:u≠.error 12:=hh.needs12 (fun _ h=>by simp at h) _ hin
   obtain ⟨hu1,hu2⟩:=hne hu
   have hp':∀ q∈pre++[(k,u)],W e q.1 q.2∧Utd e s1.has q.1:=by
    intro q hq
    rcases List.mem_append.1 hq with hq | hq
    ·exact ⟨(hp q hq).1,hon.utd (hp q hq).2⟩
    ·rw [List.mem_singleton.1 hq]; exact ⟨his.w hu,hu1⟩
   obtain ⟨new2,hon2,g1,g2,g3⟩:=due_ok hB hl ht hh hfi rest (pre++[(k,u)]) s1 (by rw [hn]; simp) hon.inv (hon.begun.trans hb) hp'
   refine ⟨new++new2,hon.trans hon2,fun v hv y hy=>?_,fun hall=>?_,g3⟩
   ·rcases List.mem_append.1 hy with hy | hy
    ·exact hon2.utd (hu2 y hy)
    ·exact g1 v hv y hy
   ·have hk:=hq (hall (k,u) List.mem_cons_self).2
    obtain ⟨h5,h6⟩:=g2 (fun q hq=>⟨(hall q (List.mem_cons_of_mem _ hq)).1,hon.utd (hall q (List.mem_cons_of_mem _ hq)).2⟩)
    exact ⟨h5,by rw [hk,h6]; rfl⟩
  ·rw [if_neg hs]
   refine ⟨new,hon,fun v hv y hy=>(hne (hkeyW v hv)).2 y hy,fun hall=>?_,.inr ⟨_,rfl,rfl,his,by simpa using hs,hin⟩⟩
   exfalso
   obtain ⟨h1,h2⟩:=hall (k,w) List.mem_cons_self
   have:u=w:=his.det (.inl h1)
   subst this
   exact hs (hfi _ hin).same
end
end Lard
end
end Go.Proofs.YtpekpdimdelncaaGreatDoor
