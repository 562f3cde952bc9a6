/- Out of: Th3. -/
import Derived.Test.YtpekpdimdelncaaGreatDoorP26
set_option linter.unusedVariables false
namespace Go.Proofs.YtpekpdimdelncaaGreatDoor
section
namespace Lard
variable {e:Src}
theorem srcOf_setKept (h:List (By×Thing)) (k:By) (o:Option Keep):srcOf (setKept h k o)=srcOf h:=by
 funext k'
 unfold srcOf
 rw [look_setKept]
 by_cases hk:k=k'
 ·rw [if_pos hk]
  cases look h k' <;> rfl
 ·rw [if_neg hk]
theorem look_src {h:List (By×Thing)} {k:By} {th:Thing} (hl:look h k=some th):srcOf h k=some (match th.tree with | .none=>.inl th.value | .some t=>.inr t):=by
 unfold srcOf; rw [hl]; rfl
structure Mid (e:Src) (s:LS) (key:By) (r:Wo) (s4:LS) (new:List Why):Prop where
 inv:Inv e s4
 begun:s4.begun=s.begun++[key]
 done:∀ k w,look s.done k=some w→look s4.done k=some w
 ring:s.ring≠[]→s4.ring=s.ring
 ran:s4.ran=s.ran++new
 why:∀ y∈new,WhyOk e y
 old:∀ y∈new,look s.done y.key=none∧y.key ∉ s.begun∧¬ Utd e s.has y.key∧(y.key=key∨∃ w,look s4.done y.key=some w)
 nodup:(new.map (·.key)).Nodup
 chg:∀ k,(∀ y∈new,y.key≠k)→look s4.has k=look s.has k
 quiet:new=[]→s4.has=s.has∧s4.jr=s.jr
 is:Is e key r
 r12:r=.error 12→s4.ring≠[]
 utd:r≠.error 12→Utd e s4.has key∧∀ y∈new,Utd e s4.has y.key
 q:Utd e s.has key→new=[]
 was:∀ y∈new,Wd s.has y
 jr:Lns e s.has s.jr s4.has s4.jr
theorem Mid.finish {s s4:LS} {key:By} {r:Wo} {new:List Why} (hd:look s.done key=none) (h:Mid e s key r s4 new) :
  BP e key s (r,{ s4 with begun:=s4.begun.dropLast,done:=put s4.done key r }):=by
 have hbe:s4.begun.dropLast=s.begun:=by rw [h.begun]; simp
 refine ⟨new,⟨⟨h.inv.src,fun k w hk=>?_,fun k w hk h12=>?_,h.inv.hon,h.inv.only,h.inv.fine,h.inv.ring,fun k hk=>?_⟩,hbe,fun k w hk=>?_,h.ring,h.ran,h.why,fun y hy=>?_,h.nodup,h.chg,h.quiet,h.was,h.jr⟩,h.is,h.r12,h.utd,h.q,.inr ?_⟩
 ·rw [look_put] at hk
  split at hk
  ·rename_i h1; cases hk; subst h1; exact h.is
  ·exact h.inv.done k w hk
 ·rw [look_put] at hk
  split at hk
  ·rename_i h1; cases hk; subst h1; exact (h.utd h12).1
  ·exact h.inv.utd k w hk h12
 ·rw [look_put] at hk
  split at hk
  ·rename_i h1; cases hk; exact h.r12 rfl
  ·exact h.inv.rr k hk
 ·rw [look_put]
  split
  ·rename_i h1; subst h1; rw [hd] at hk; cases hk
  ·exact h.done k w hk
 ·obtain ⟨h1,h2,h3,h4⟩:=h.old y hy
  refine ⟨h1,h2,h3,?_⟩
  rw [look_put]
  split
  ·exact ⟨r,rfl⟩
  ·rename_i h5
   rcases h4 with h4 | h4
   ·exact (h5 h4.symm).elim
   ·exact h4
 ·rw [look_put,if_pos rfl]
theorem mid_on {s s4:LS} {key:By} {r:Wo} {new:List Why} (h:On e { s with begun:=s.begun++[key] } s4 new) (his:Is e key r) (h12:r=.error 12→s4.ring≠[]) (hu:r≠.error 12→Utd e s4.has key∧∀ y∈new,Utd e s4.has y.key) (hq:Utd e s.has key→new=[]):Mid e s key r s4 new where
 inv:=h.inv
 begun:=h.begun
 done:=h.done
 ring:=h.ring
 ran:=h.ran
 why:=h.why
 old y hy:=by
  obtain ⟨h1,h2,h3,h4⟩:=h.old y hy
  exact ⟨h1,fun h5=>h2 (List.mem_append_left _ h5),h3,.inr h4⟩
 nodup:=h.nodup
 chg:=h.chg
 quiet:=h.quiet
 is:=his
 r12:=h12
 utd:=hu
 q:=hq
 was:=h.was
 jr:=h.jr
theorem Inv.ranBy {s:LS} (h:Inv e s) (r:List Why):Inv e { s with ran:=r }:=⟨h.src,h.done,h.utd,h.hon,h.only,h.fine,h.ring,h.rr⟩
theorem Inv.begunBy {s:LS} (h:Inv e s) (r:List By):Inv e { s with begun:=r }:=⟨h.src,h.done,h.utd,h.hon,h.only,h.fine,h.ring,h.rr⟩
theorem Inv.setKept {s:LS} {key:By} {o:Option Keep} {j:List By} (h:Inv e s) (hn:¬ Utd e s.has key) (ho:∀ kp,o=some kp→∀ t,e key=some (.inr t)→Hon (prog t) [] kp.needs kp.worth) (hr:∃ t,e key=some (.inr t)) (hf:∀ kp,o=some kp→∀ q∈kp.needs,Fine q.2) :
  Inv e { s with has:=setKept s.has key o,jr:=j } where
 src:=(srcOf_setKept _ _ _).trans h.src
 done:=h.done
 utd k w hk h12:=by
  refine utd_same (fun k hu=>?_) (h.utd k w hk h12)
  show keptOf (Lard.setKept s.has key o) k=_
  rw [keptOf_setKept,if_neg (fun (h0:key=k)=>hn (h0 ▸ hu))]
 hon k t kp hk hkp:=by
  have hkp:keptOf (Lard.setKept s.has key o) k=some kp:=hkp
  rw [keptOf_setKept] at hkp
  split at hkp
  ·rename_i h1
   subst h1
   cases hl:look s.has key with
   |none=>rw [hl] at hkp; cases hkp
   |some th=>rw [hl] at hkp; exact ho kp hkp t hk
  ·exact h.hon k t kp hk hkp
 only k kp hkp:=by
  have hkp:keptOf (Lard.setKept s.has key o) k=some kp:=hkp
  rw [keptOf_setKept] at hkp
  split at hkp
  ·rename_i h1
   subst h1
   exact hr
  ·exact h.only k kp hkp
 fine k kp hkp:=by
  have hkp:keptOf (Lard.setKept s.has key o) k=some kp:=hkp
  rw [keptOf_setKept] at hkp
  split at hkp
  ·rename_i h1
   subst h1
   cases hl:look s.has key with
   |none=>rw [hl] at hkp; cases hkp
   |some th=>rw [hl] at hkp; exact hf kp hkp
  ·exact h.fine k kp hkp
 ring:=h.ring
 rr:=h.rr
theorem ran_ok (he:EF e) {Br:By→LS→Wo×LS} {s s2:LS} {key:By} {t:T} {y:Why} {new1:List Why} (hB:Brings e Br (s.begun++[key])) (hl:Lnk (Nxt e) (s.begun++[key])) (ht:e key=some (.inr t)) (hd:look s.done key=none) (hkb:key ∉ s.begun)
  (h1:On e { s with begun:=s.begun++[key] } s2 new1) (hy:y.key=key) (hwhy:WhyOk e y) (hwas:Wd s.has y) (hnu:∀ h,keptOf h key=keptOf s.has key→¬ Utd e h key) (hnew1:∀ u,W e key u→∀ z∈new1,Utd e s2.has z.key) :
  ∃ new,Mid e s key (runL Br key t y s2).1 (runL Br key t y s2).2 new:=by
 unfold runL
 have hsz:∀ z∈new1,z.key≠key:=fun z hz hk=>(h1.old z hz).2.1 (by rw [hk]; simp)
 obtain ⟨new2,hon,hcase⟩:=run_ok he hB hl (prog t) { s2 with ran:=s2.ran++[y] } [] (h1.inv.ranBy _) h1.begun (Res.start ht) (fin_prog t) (fun _ h=>by simp at h)
 generalize (prog t).run (needL Br) ({ s2 with ran:=s2.ran++[y] },[])=q at hon hcase ⊢
 obtain ⟨r,s4,ns⟩:=q
 simp only at hon hcase
 have hs4z:∀ z∈new2,z.key≠key:=fun z hz hk=>(hon.old z hz).2.1 (by show z.key∈s2.begun; rw [h1.begun,hk]; simp)
 have hlook:look s4.has key=look s.has key:=(hon.chg key hs4z).trans (h1.chg key hsz)
 have hk4:keptOf s4.has key=keptOf s.has key:=by unfold keptOf; rw [hlook]
 have hnu4:¬ Utd e s4.has key:=hnu _ hk4
 have hset:∀ (o:Option Keep) (k:By),k≠key→look (setKept s4.has key o) k=look s4.has k:=fun o k hk=>by rw [look_setKept,if_neg (fun e=>hk e.symm)]
 have build:∀ (s5:LS),(∀ k,k≠key→look s5.has k=look s4.has k)→s5.done=s4.done→s5.begun=s4.begun→s5.ring=s4.ring→s5.ran=s4.ran→Inv e s5→Is e key r→(r=.error 12→s5.ring≠[])→(r≠.error 12→Utd e s5.has key∧(∀ z∈new2,Utd e s4.has z.key))→Lns e s4.has s4.jr s5.has s5.jr→Mid e s key r s5 (new1++[y]++new2):=by
  intro s5 hsame hdone hbegun hring5 hran hinv his h12 hu hjr
  have hup:∀ k,Utd e s4.has k→Utd e s5.has k:=fun k hk=>utd_same (fun k hu=>by
   unfold keptOf; rw [hsame k (fun (h0:k=key)=>hnu4 (h0 ▸ hu))]) hk
  exact {
   inv:=hinv
   begun:=by rw [hbegun]; exact hon.begun.trans h1.begun
   done:=fun k w hk=>by rw [hdone]; exact hon.done k w (h1.done k w hk)
   ring:=fun hr=>by
    rw [hring5]
    have:=h1.ring hr
    exact (hon.ring (by show s2.ring≠[]; rw [this]; exact hr)).trans this
   ran:=by
    rw [hran,hon.ran]
    show s2.ran++[y]++new2=_
    rw [h1.ran]
    simp
   why:=fun z hz=>by
    rcases List.mem_append.1 hz with hz | hz
    ·rcases List.mem_append.1 hz with hz | hz
     ·exact h1.why z hz
     ·rw [List.mem_singleton.1 hz]; exact hwhy
    ·exact hon.why z hz
   old:=fun z hz=>by
    rcases List.mem_append.1 hz with hz | hz
    ·rcases List.mem_append.1 hz with hz | hz
     ·obtain ⟨g1,g2,g3,w,g4⟩:=h1.old z hz
      exact ⟨g1,fun h=>g2 (List.mem_append_left _ h),g3,.inr ⟨w,by rw [hdone]; exact hon.done _ _ g4⟩⟩
     ·rw [List.mem_singleton.1 hz,hy]
      exact ⟨hd,hkb,hnu _ rfl,.inl rfl⟩
    ·obtain ⟨g1,g2,g3,g4⟩:=hon.old z hz
     refine ⟨?_,fun h=>g2 (by show z.key∈s2.begun; rw [h1.begun]; exact List.mem_append_left _ h),fun hu=>g3 (h1.utd hu),.inr (by rw [hdone]; exact g4)⟩
     cases hdz:look s.done z.key with
     |none=>rfl
     |some w=>rw [show look s2.done z.key=some w from h1.done _ _ hdz] at g1; cases g1
   nodup:=by
    rw [List.map_append,List.map_append,List.nodup_append,List.nodup_append]
    refine ⟨⟨h1.nodup,by simp,?_⟩,hon.nodup,?_⟩
    ·intro a ha b hb hab
     obtain ⟨z,hz,rfl⟩:=List.mem_map.1 ha
     simp at hb
     exact hsz z hz (hab.trans (hb.trans hy))
    ·intro a ha b hb hab
     obtain ⟨x,hx,rfl⟩:=List.mem_map.1 hb
     rcases List.mem_append.1 ha with ha | ha
     ·obtain ⟨z,hz,rfl⟩:=List.mem_map.1 ha
      obtain ⟨_,_,_,w,hw⟩:=h1.old z hz
      have:=(hon.old x hx).1
      rw [show look s2.done x.key=some w by rw [←hab]; exact hw] at this
      cases this
     ·simp at ha
      exact hs4z x hx (hab.symm.trans (ha.trans hy))
   chg:=fun k hk=>by
    have hkk:k≠key:=fun h=>hk y (by simp) (hy.trans h.symm)
    rw [hsame k hkk]
    exact (hon.chg k (fun z hz=>hk z (by simp [hz]))).trans (h1.chg k (fun z hz=>hk z (by simp [hz])))
   quiet:=fun h=>by simp at h
   is:=his
   r12:=h12
   utd:=fun h12=>by
    obtain ⟨g1,g2⟩:=hu h12
    refine ⟨g1,fun z hz=>?_⟩
    rcases List.mem_append.1 hz with hz | hz
    ·rcases List.mem_append.1 hz with hz | hz
     ·exact hup _ (hon.utd (hnew1 r (his.w h12) z hz))
     ·rw [List.mem_singleton.1 hz,hy]; exact g1
    ·exact hup _ (g2 z hz)
   q:=fun hu=>(hnu _ rfl hu).elim
   was:=fun z hz=>by
    rcases List.mem_append.1 hz with hz | hz
    ·rcases List.mem_append.1 hz with hz | hz
     ·exact h1.was z hz
     ·rw [List.mem_singleton.1 hz]; exact hwas
    ·rcases hon.was z hz with h0 | ⟨kp,g1,g2⟩
     ·exact .inl h0
     ·refine .inr ⟨kp,?_,g2⟩
      rw [←g1]
      show keptOf s.has z.key=keptOf s2.has z.key
      unfold keptOf
      rw [h1.chg z.key (fun x hx e=>by
       obtain ⟨_,_,_,w,hw⟩:=h1.old x hx
       have:=(hon.old z hz).1
       rw [show look s2.done z.key=some w by rw [←e]; exact hw] at this
       cases this)]
   jr:=(Lns.trans (h1:=s2.has) (j1:=s2.jr) h1.jr hon.jr).trans hjr }
 rcases hcase with ⟨rfl,hring,hno⟩ | ⟨hr,hW,hH,hns,hnew2⟩
 ·have h12:isRound (.error 12:Wo)=true:=rfl
  simp only [ranL,h12,if_true]
  by_cases hk:(keptOf s4.has key).isSome=true
  ·rw [if_pos hk]
   obtain ⟨kp,hkp⟩:=Option.isSome_iff_exists.1 hk
   refine ⟨_,build _ (fun k hk=>hset none k hk) rfl rfl rfl rfl ?_ (.inr ⟨rfl,hno⟩) (fun _=>hring) (fun h=>(h rfl).elim) (Lns.refl.lose hkp)⟩
   exact hon.inv.setKept hnu4 (fun _ h=>by cases h) ⟨t,ht⟩ (fun _ h=>by cases h)
  ·rw [if_neg hk]
   refine ⟨_,build s4 (fun _ _=>rfl) rfl rfl rfl rfl hon.inv (.inr ⟨rfl,hno⟩) (fun _=>hring) (fun h=>(h rfl).elim) .refl⟩
 ·have h12:isRound r=false:=by
   cases r with
   |ok v=>rfl
   |error c=>exact beq_eq_false_iff_ne.2 (fun h=>hr (by rw [h]))
  simp only [ranL,h12]
  refine ⟨_,build _ (fun k hk=>hset (some ⟨r,ns⟩) k hk) rfl rfl rfl rfl ?_ (.inl hW) (fun h=>(hr h).elim) (fun _=>⟨?_,hnew2⟩) (Lns.refl.keep ht hH (fun q hq=>(hns q hq).1) hW)⟩
  ·refine hon.inv.setKept hnu4 (fun kp h t' ht'=>?_) ⟨t,ht⟩ (fun kp h=>?_)
   ·cases h; rw [ht] at ht'; cases ht'; exact hH
   ·cases h; exact fun q hq=>(hns q hq).2.2
  ·have hth:∃ th,look s4.has key=some th:=by
    cases hl4:look s4.has key with
    |some th=>exact ⟨th,rfl⟩
    |none =>
     have:=congrFun hon.inv.src key
     unfold srcOf at this
     rw [show look s4.has key=none from hl4,ht] at this
     cases this
   obtain ⟨th,hth⟩:=hth
   refine utd_rule ht (kp:=⟨r,ns⟩) ?_ (fun q hq=>⟨(hns q hq).1,?_⟩)
   ·show keptOf (setKept s4.has key _) key=_
    rw [keptOf_setKept,if_pos rfl,hth]; rfl
   ·refine utd_same (fun k hu=>?_) (hns q hq).2.1
    show keptOf (setKept s4.has key _) k=_
    rw [keptOf_setKept,if_neg (fun (h0:key=k)=>hnu4 (h0 ▸ hu))]
theorem bring_ok (he:EF e) {K:List By} (hK:∀ k t,e k=some (.inr t)→k∈K):∀ (n:Nat) (key:By) (s:LS),Inv e s→Lnk (Nxt e) (s.begun++[key])→Fuel K s.begun n→BP e key s (bring n key s)
 |0,_,_,_,_,h=>by unfold Fuel at h; omega
 |n + 1,key,s,hi,hl,hf=>by
  show BP e key s (bringW (workL (bring n)) key s)
  unfold bringW
  cases hd:look s.done key with
  |some w =>
   simp only
   exact ⟨[],On.refl hi,hi.done key w hd,fun h=>hi.rr key (h ▸ hd),fun h=>⟨hi.utd key w hd h,fun _ h=>by simp at h⟩,fun _=>rfl,.inr hd⟩
  |none =>
   simp only
   by_cases hb:s.begun.contains key=true
   ·rw [if_pos hb]
    have hmem:key∈s.begun:=by simpa using hb
    obtain ⟨h1,h2⟩:=ring_met hl hmem
    have hne:(s.meet key).ring≠[]:=by
     unfold LS.meet
     split
     ·obtain ⟨k,r,h3,_⟩:=h1; show fromKey s.begun key≠[]; rw [h3]; simp
     ·assumption
    refine ⟨[],?_,.inr ⟨rfl,h2⟩,fun _=>hne,fun h=>(h rfl).elim,fun _=>rfl,.inl hmem⟩
    unfold LS.meet
    split
    ·rename_i h3
     exact { inv:=⟨hi.src,hi.done,hi.utd,hi.hon,hi.only,hi.fine,fun _=>h1,fun k hk=>(hi.rr k hk h3).elim⟩,begun:=rfl,done:=fun _ _ h=>h,ring:=fun h=>(h h3).elim,ran:=by simp,why:=fun _ h=>by simp at h,old:=fun _ h=>by simp at h,nodup:=by simp,chg:=fun _ _=>rfl,quiet:=fun _=>⟨rfl,rfl⟩,was:=fun _ h=>by simp at h,jr:=.refl }
    ·exact On.refl hi
   ·rw [if_neg hb]
    have hkb:key ∉ s.begun:=by simpa using hb
    suffices h:∃ new,Mid e s key (workL (bring n) key { s with begun:=s.begun++[key] }).1 (workL (bring n) key { s with begun:=s.begun++[key] }).2 new by
     obtain ⟨new,h⟩:=h
     exact h.finish hd
    have hi1:Inv e { s with begun:=s.begun++[key] }:=hi.begunBy _
    unfold workL
    cases hlk:look s.has key with
    |none =>
     have hek:e key=none:=by rw [←hi.src]; unfold srcOf; rw [hlk]; rfl
     have hnr:∀ t,e key≠some (.inr t):=fun t h=>by rw [hek] at h; cases h
     exact ⟨[],mid_on (On.refl hi1) (.inl ⟨0,.inl ⟨hek,rfl⟩⟩) (fun h=>by cases h) (fun _=>⟨utd_none hnr,fun _ h=>by simp at h⟩) (fun _=>rfl)⟩
    |some th =>
     have hsrc:=look_src hlk
     rw [hi.src] at hsrc
     cases htr:th.tree with
     |none =>
      rw [htr] at hsrc
      have hnr:∀ t,e key≠some (.inr t):=fun t h=>by rw [hsrc] at h; cases h
      simp only [htr]
      exact ⟨[],mid_on (On.refl hi1) (.inl ⟨0,.inr ⟨th.value,hsrc,rfl⟩⟩) (fun h=>by cases h) (fun _=>⟨utd_none hnr,fun _ h=>by simp at h⟩) (fun _=>rfl)⟩
     |some t =>
      rw [htr] at hsrc
      simp only [htr]
      have hB:Brings e (bring n) (s.begun++[key]):=fun k s' hi' hb' hl'=>bring_ok he hK n k s' hi' (hb' ▸ hl') (hb' ▸ fuel_next hf (hK key t hsrc) hkb)
      have hko:keptOf s.has key=th.kept:=by unfold keptOf; rw [hlk]; rfl
      cases hkp:th.kept with
      |none =>
       rw [hkp] at hko
       have hnu:∀ h,keptOf h key=keptOf s.has key→¬ Utd e h key:=by
        intro h hh hu
        obtain ⟨kp,h1,_⟩:=hu.rule hsrc
        rw [hh,hko] at h1
        cases h1
       exact ran_ok he hB hl hsrc hd hkb (On.refl hi1) rfl (.inl ⟨rfl,rfl,rfl⟩) (.inl rfl) hnu (fun _ _ _ h=>by simp at h)
      |some kp =>
       rw [hkp] at hko
       have hhon:=hi.hon key t kp hsrc hko
       have hfin:=hi.fine key kp hko
       obtain ⟨new,hon,hnew,hq,hcase⟩:=due_ok hB hl hsrc hhon hfin kp.needs [] { s with begun:=s.begun++[key] } rfl hi1 rfl (fun _ h=>by simp at h)
       have hdue:ruleL (bring n) key t (some kp) { s with begun:=s.begun++[key] }=match dueL (bring n) key kp.needs { s with begun:=s.begun++[key] } with | (.none,s)=>(kp.worth,s) | (.some y,s)=>runL (bring n) key t y s:=rfl
       rw [hdue]
       have hq':Utd e s.has key→(dueL (bring n) key kp.needs { s with begun:=s.begun++[key] }).1=none∧new=[]:=fun hu=>by
        obtain ⟨kp',h1,h2⟩:=hu.rule hsrc
        rw [hko] at h1
        cases h1
        exact hq h2
       clear hq
       generalize dueL (bring n) key kp.needs { s with begun:=s.begun++[key] }=q at hon hnew hq' hcase ⊢
       obtain ⟨o,s2⟩:=q
       simp only at hon hnew hq' hcase
       rcases hcase with ⟨rfl,hall⟩ | ⟨y,rfl,hyk,his,hsame,hin⟩
       ·have hW:W e key kp.worth:=W.rule hsrc (hhon.all (fun q hq=>(hall q hq).1))
        have hk2:keptOf s2.has key=some kp:=by
         have:look s2.has key=look s.has key:=hon.chg key (fun z hz h=>(hon.old z hz).2.1 (by rw [h]; simp))
         unfold keptOf at hko ⊢; rw [this,hko]
        exact ⟨new,mid_on hon (.inl hW) (fun h=>(hhon.not12 h).elim) (fun _=>⟨utd_rule hsrc hk2 hall,hnew _ hW⟩) (fun hu=>(hq' hu).2)⟩
       ·have hnu:∀ h,keptOf h key=keptOf s.has key→¬ Utd e h key:=by
         intro h hh hu
         obtain ⟨kp',h1,h2⟩:=hu.rule hsrc
         rw [hh,hko] at h1
         cases h1
         have h3:=(h2 _ hin).1
         have h4:y.now=y.was:=his.det (.inl h3)
         rw [h4] at hsame
         rw [(hfin _ hin).same] at hsame
         cases hsame
        exact ran_ok he hB hl hsrc hd hkb hon hyk (.inr ⟨his,hsame,hfin _ hin⟩) (.inr ⟨kp,by rw [hyk]; exact hko,hin⟩) hnu hnew
end Lard
end
end Go.Proofs.YtpekpdimdelncaaGreatDoor
