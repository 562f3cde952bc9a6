/- Out of: Bg, L14. -/
import Derived.Test.YtpekpdimdelncaaGreatDoorP06
import Derived.Test.YtpekpdimdelncaaGreatDoorP08
import Derived.Test.YtpekpdimdelncaaGreatDoorP17
set_option linter.unusedVariables false
set_option linter.unusedSimpArgs false
namespace Go.Proofs.YtpekpdimdelncaaGreatDoor
section
namespace Lard
def strip (h:List (By×Thing)):List (By×Thing):=h.map fun p=>(p.1,{ p.2 with kept:=none })
def ruled (h:List (By×Thing)):List By:=(h.filter fun p=>p.2.tree.isSome).map (·.1)
theorem ruled_strip (h:List (By×Thing)):ruled (strip h)=ruled h:=by
 unfold ruled strip
 rw [List.filter_map,List.map_map]
 rfl
theorem look_strip (h:List (By×Thing)) (k:By):look (strip h) k=(look h k).map fun th=>{ th with kept:=none } :=
 look_map (fun p:By×Thing=>(p.1,({ p.2 with kept:=none }:Thing))) (fun _ (th:Thing)=>({ th with kept:=none }:Thing)) (fun _=>rfl) h k
theorem strip_setKept (h:List (By×Thing)) (k:By) (o:Option Keep):strip (setKept h k o)=strip h:=by
 unfold strip setKept
 rw [List.map_map]
 refine List.map_congr_left (fun p _=>?_)
 simp only [Function.comp_def]
 split <;> rfl
theorem look_mem' {α:Type}:∀ {l:List (By×α)} {k:By} {a:α},look l k=some a→(k,a)∈l
 |[],_,_,h=>by cases h
 |p :: l,k,a,h=>by
  rw [look_cons] at h
  by_cases hp:p.1=k
  ·rw [if_pos hp] at h; cases h; subst hp; exact List.mem_cons_self
  ·rw [if_neg hp] at h; exact List.mem_cons_of_mem _ (look_mem' h)
theorem mem_ruled {h:List (By×Thing)} {k:By} {th:Thing} (hl:look h k=some th) (ht:th.tree.isSome=true):k∈ruled h :=
 List.mem_map.2 ⟨(k,th),List.mem_filter.2 ⟨look_mem' hl,ht⟩,rfl⟩
def Rs (s:LS):Nat:=((ruled s.has).filter fun k=>(look s.done k).isNone).length
def KB (h:List (By×Thing)):Prop:=∀ p∈h,∀ kp,p.2.kept=some kp→kp.needs.length≤401
structure Nst (s s':LS) (c:Nat):Prop where
 strip:strip s'.has=strip s.has
 kb:KB s.has→KB s'.has
 begun:s'.begun=s.begun
 mono:∀ k,(look s.done k).isSome=true→(look s'.done k).isSome=true
 dn:∀ k∈s.begun,look s'.done k=look s.done k
 psi:s'.done.length + 1000 * Rs s'≤s.done.length + 1000 * Rs s + c
 ran:s'.ran.length + Rs s'≤s.ran.length + Rs s
theorem Nst.refl (s:LS) (c:Nat):Nst s s c:=⟨rfl,id,rfl,fun _ h=>h,fun _ _=>rfl,by omega,by omega⟩
theorem Nst.trans {s s1 s2:LS} {c d:Nat} (h:Nst s s1 c) (h':Nst s1 s2 d):Nst s s2 (c + d) :=
 ⟨h'.strip.trans h.strip,fun k=>h'.kb (h.kb k),h'.begun.trans h.begun,fun k hk=>h'.mono k (h.mono k hk),fun k hk=>(h'.dn k (h.begun ▸ hk)).trans (h.dn k hk),by have:=h.psi; have:=h'.psi; omega,by have:=h.ran; have:=h'.ran; omega⟩
theorem Nst.le {s s1:LS} {c d:Nat} (h:Nst s s1 c) (hd:c≤d):Nst s s1 d:={ h with psi:=by have:=h.psi; omega }
theorem Nst.ruled {s s1:LS} {c:Nat} (h:Nst s s1 c):ruled s1.has=ruled s.has:=by rw [←ruled_strip,h.strip,ruled_strip]
theorem rs_same {s s':LS} (h1:strip s'.has=strip s.has) (h2:s'.done=s.done):Rs s'=Rs s:=by
 unfold Rs
 rw [←ruled_strip s'.has,h1,ruled_strip,h2]
theorem rs_put (s:LS) (k:By) (w:Wo):Rs { s with done:=put s.done k w }≤Rs s:=by
 unfold Rs
 have h2:((ruled s.has).filter fun x=>(look (put s.done k w) x).isNone)=((ruled s.has).filter fun x=>(look s.done x).isNone).filter fun x=>!(x == k):=by
  rw [List.filter_filter]
  apply List.filter_congr
  intro x _
  rw [look_put]
  by_cases hx:k=x
  ·subst hx; simp
  ·have:¬ x=k:=fun e=>hx e.symm
   simp [hx,this]
 show (List.filter (fun x=>(look (put s.done k w) x).isNone) (ruled s.has)).length≤_
 rw [h2]
 exact List.length_filter_le _ _
theorem rs_put_lt (s:LS) (k:By) (w:Wo) (hk:k∈ruled s.has) (hn:look s.done k=none):Rs { s with done:=put s.done k w } + 1≤Rs s:=by
 unfold Rs
 have h2:((ruled s.has).filter fun x=>(look (put s.done k w) x).isNone)=((ruled s.has).filter fun x=>(look s.done x).isNone).filter fun x=>!(x == k):=by
  rw [List.filter_filter]
  apply List.filter_congr
  intro x _
  rw [look_put]
  by_cases hx:k=x
  ·subst hx; simp
  ·have:¬ x=k:=fun e=>hx e.symm
   simp [hx,this]
 show (List.filter (fun x=>(look (put s.done k w) x).isNone) (ruled s.has)).length + 1≤_
 rw [h2]
 apply List.length_filter_lt_length_iff_exists.2
 exact ⟨k,List.mem_filter.2 ⟨hk,by rw [hn]; rfl⟩,by simp⟩
theorem put_len {α:Type} (l:List (By×α)) (k:By) (a:α):(put l k a).length≤l.length + 1:=by
 unfold put
 split <;> simp
theorem kb_setKept {h:List (By×Thing)} {k:By} {o:Option Keep} (hk:KB h) (ho:∀ kp,o=some kp→kp.needs.length≤401):KB (setKept h k o):=by
 intro p hp kp hkp
 obtain ⟨q,hq,rfl⟩:=List.mem_map.1 hp
 by_cases h1:q.1=k
 ·rw [if_pos (by simp [h1])] at hkp
  exact ho kp hkp
 ·rw [if_neg (by simp [h1])] at hkp
  exact hk q hq kp hkp
section
variable {Br:By→LS→Wo×LS}
theorem due_nst (hB:∀ k s,KB s.has→Nst s (Br k s).2 1) (key:By):∀ (l:List (By×Wo)) (s:LS),KB s.has→Nst s (dueL Br key l s).2 l.length
 |[],s,_=>Nst.refl s 0
 |(k,w) :: r,s,hkb=>by
  unfold dueL
  split
  ·exact ((hB k s hkb).trans (due_nst hB key r _ ((hB k s hkb).kb hkb))).le (by simp; omega)
  ·exact (hB k s hkb).le (by simp)
theorem withNeed_len (ns:List (By×Wo)) (k:By) (w:Wo):(withNeed ns k w).length≤ns.length + 1:=by
 unfold withNeed
 split <;> simp
theorem run_nst (hB:∀ k s,KB s.has→Nst s (Br k s).2 1):∀ (p:Pe V) (f:Nat) (s:LS) (ns:List (By×Wo)),KB s.has→Sp p f→Nst s (p.worth.run (needL Br) (s,ns)).2.1 f∧(p.worth.run (needL Br) (s,ns)).2.2.length≤ns.length + f
 |⟨.inl q⟩,f,s,ns,_,h=>⟨Nst.refl s f,by show ns.length≤_; omega⟩
 |⟨.inr (k,c)⟩,f,s,ns,hkb,h=>by
  obtain ⟨h1,h2⟩:=run_nst hB (c (Br k s).1) (f - 1) (Br k s).2 (withNeed ns k (Br k s).1) ((hB k s hkb).kb hkb) (h.2 _)
  have hl:=withNeed_len ns k (Br k s).1
  have h3:=h.1
  refine ⟨((hB k s hkb).trans h1).le (by omega),?_⟩
  show ((c (Br k s).1).worth.run (needL Br) ((Br k s).2,withNeed ns k (Br k s).1)).2.2.length≤_
  omega
structure Own (s s':LS):Prop where
 strip:strip s'.has=strip s.has
 kb:KB s.has→KB s'.has
 begun:s'.begun=s.begun
 mono:∀ k,(look s.done k).isSome=true→(look s'.done k).isSome=true
 dn:∀ k∈s.begun,look s'.done k=look s.done k
 psi:s'.done.length + 1000 * Rs s'≤s.done.length + 1000 * Rs s + 801
 ran:s'.ran.length + Rs s'≤s.ran.length + Rs s + 1
theorem own_run (hB:∀ k s,KB s.has→Nst s (Br k s).2 1) (key:By) (t:T) (y:Why) (s s0:LS) (hkb:KB s.has) (h0:Nst s0 s 401):Own s0 (runL Br key t y s).2:=by
 unfold runL
 obtain ⟨h1,h2⟩:=run_nst hB (tr (hM t) t none 400) 400 { s with ran:=s.ran++[y] } [] hkb (sp_tr _ _ _ _)
 have hp:prog t=(tr (hM t) t none 400).worth:=rfl
 rw [←hp] at h1 h2
 generalize (prog t).run (needL Br) ({ s with ran:=s.ran++[y] },[])=q at h1 h2
 obtain ⟨r,s4,ns⟩:=q
 simp only at h1 h2
 have hsame:Rs { s with ran:=s.ran++[y] }=Rs s:=rs_same rfl rfl
 -- whatever is kept
 have fin:∀ s5:LS,Lard.strip s5.has=Lard.strip s4.has→s5.done=s4.done→s5.begun=s4.begun→s5.ran=s4.ran→(KB s4.has→KB s5.has)→Own s0 s5:=by
  intro s5 e1 e2 e3 e4 e5
  have hr5:Rs s5=Rs s4:=rs_same e1 e2
  exact {
   strip:=e1.trans (h1.strip.trans h0.strip)
   kb:=fun k=>e5 (h1.kb (h0.kb k))
   begun:=e3.trans (h1.begun.trans h0.begun)
   mono:=fun k hk=>by rw [e2]; exact h1.mono k (h0.mono k hk)
   dn:=fun k hk=>by rw [e2]; exact (h1.dn k (by show k∈s.begun; rw [h0.begun]; exact hk)).trans (h0.dn k hk)
   psi:=by
    rw [e2,hr5]
    have a:=h1.psi
    have b:=h0.psi
    rw [hsame] at a
    have a:s4.done.length + 1000 * Rs s4≤s.done.length + 1000 * Rs s + 400:=a
    omega
   ran:=by
    rw [e4,hr5]
    have a:=h1.ran
    have b:=h0.ran
    rw [hsame] at a
    have a:s4.ran.length + Rs s4≤(s.ran++[y]).length + Rs s:=a
    rw [List.length_append] at a
    simp only [List.length_cons,List.length_nil] at a
    omega }
 unfold ranL
 simp only
 split
 ·split
  ·exact fin _ (strip_setKept _ _ _) rfl rfl rfl (fun h=>kb_setKept h (fun _ e=>by cases e))
  ·exact fin _ rfl rfl rfl rfl id
 ·exact fin _ (strip_setKept _ _ _) rfl rfl rfl (fun h=>kb_setKept h (fun kp e=>by cases e; show ns.length≤401; simp at h2; omega))
end
theorem bringW_nst {Wk:By→LS→Wo×LS} (hW:∀ key s,KB s.has→(look s.has key=none→(Wk key s).2=s)∧(∀ th,look s.has key=some th→(th.tree=none∧(Wk key s).2=s)∨(th.tree.isSome=true∧Own s (Wk key s).2))) (key:By) (s:LS) (hkb:KB s.has):Nst s (bringW Wk key s).2 1:=by
 unfold bringW
 cases hd:look s.done key with
 |some w=>exact Nst.refl s 1
 |none =>
  simp only
  by_cases hb:s.begun.contains key=true
  ·rw [if_pos hb]
   simp only
   unfold LS.meet
   split
   ·exact ⟨rfl,id,rfl,fun _ h=>h,fun _ _=>rfl,by show _≤_; have:Rs { s with ring:=fromKey s.begun key }=Rs s:=rs_same rfl rfl; rw [this]; simp,by have:Rs { s with ring:=fromKey s.begun key }=Rs s:=rs_same rfl rfl; rw [this]; simp⟩
   ·exact Nst.refl s 1
  ·rw [if_neg hb]
   have hnb:key ∉ s.begun:=by simpa using hb
   simp only
   -- nothing but the key itself is noted
   have leaf:∀ r,Nst s { s with begun:=(s.begun++[key]).dropLast,done:=put s.done key r } 1:=by
    intro r
    have hr:Rs { s with begun:=(s.begun++[key]).dropLast,done:=put s.done key r }≤Rs s:=rs_put s key r
    have hl:=put_len s.done key r
    refine ⟨rfl,id,by simp,fun k hk=>?_,fun k hk=>?_,by show (put s.done key r).length + _≤_; omega,by show s.ran.length + _≤_; omega⟩
    ·show (look (put s.done key r) k).isSome=true
     rw [look_put]
     split
     ·rfl
     ·exact hk
    ·show look (put s.done key r) k=_
     rw [look_put,if_neg (fun (e:key=k)=>hnb (e ▸ hk))]
   obtain ⟨h1,h2⟩:=hW key { s with begun:=s.begun++[key] } hkb
   cases hl:look s.has key with
   |none =>
    rw [h1 hl]
    exact leaf _
   |some th =>
    rcases h2 th hl with ⟨_,h3⟩ | ⟨ht,h3⟩
    ·rw [h3]; exact leaf _
    ·generalize Wk key { s with begun:=s.begun++[key] }=q at h3
     obtain ⟨r,s4⟩:=q
     simp only at h3 ⊢
     have hk4:look s4.done key=none:=(h3.dn key (by show key∈s.begun++[key]; simp)).trans hd
     have hrul:key∈ruled s4.has:=by
      rw [←ruled_strip,h3.strip,ruled_strip]
      exact mem_ruled hl ht
     have hs0:Rs { s with begun:=s.begun++[key] }=Rs s:=rs_same rfl rfl
     have hr:Rs { s4 with begun:=s4.begun.dropLast,done:=put s4.done key r } + 1≤Rs s4:=rs_put_lt s4 key r hrul hk4
     have hlen:=put_len s4.done key r
     have hps:=h3.psi
     have hra:=h3.ran
     rw [hs0] at hps hra
     have hps:s4.done.length + 1000 * Rs s4≤s.done.length + 1000 * Rs s + 801:=hps
     have hra:s4.ran.length + Rs s4≤s.ran.length + Rs s + 1:=hra
     refine ⟨h3.strip,h3.kb,?_,fun k hk=>?_,fun k hk=>?_,by show (put s4.done key r).length + _≤_; omega,by show s4.ran.length + _≤_; omega⟩
     ·show s4.begun.dropLast=_
      rw [h3.begun]
      simp
     ·show (look (put s4.done key r) k).isSome=true
      rw [look_put]
      split
      ·rfl
      ·exact h3.mono k hk
     ·show look (put s4.done key r) k=_
      rw [look_put,if_neg (fun (e:key=k)=>hnb (e ▸ hk))]
      exact h3.dn k (by show k∈s.begun++[key]; exact List.mem_append_left _ hk)
theorem bring_nst:∀ (n:Nat) (key:By) (s:LS),KB s.has→Nst s (bring n key s).2 1
 |0,key,s,hkb=>by
  refine bringW_nst (fun key s hk=>⟨fun _=>rfl,fun th hl=>?_⟩) key s hkb
  cases ht:th.tree with
  |none=>exact .inl ⟨rfl,rfl⟩
  |some t=>exact .inr ⟨rfl,rfl,id,rfl,fun _ h=>h,fun _ _=>rfl,by show s.done.length + 1000 * Rs s≤_; omega,by show s.ran.length + Rs s≤_; omega⟩
 |n + 1,key,s,hkb=>by
  refine bringW_nst (fun key s hk=>⟨fun hl=>?_,fun th hl=>?_⟩) key s hkb
  ·unfold workL; rw [hl]
  ·have hw:(workL (bring n) key s)=match th.tree with | .none=>(.ok th.value,s) | .some t=>ruleL (bring n) key t th.kept s:=by unfold workL; rw [hl]; rfl
   rw [hw]
   cases ht:th.tree with
   |none =>
    exact .inl ⟨rfl,rfl⟩
   |some t =>
    refine .inr ⟨rfl,?_⟩
    show Own s (ruleL (bring n) key t th.kept s).2
    have hB:∀ k s,KB s.has→Nst s (bring n k s).2 1:=fun k s hk=>bring_nst n k s hk
    cases hkp:th.kept with
    |none=>exact own_run hB key t ⟨key,[],.error 0,.error 0⟩ s s hk (Nst.refl s 401)
    |some kp =>
     have h401:kp.needs.length≤401:=hk _ (look_mem' hl) kp hkp
     have hd:=due_nst hB key kp.needs s hk
     show Own s (ruleL (bring n) key t (some kp) s).2
     have hdue:ruleL (bring n) key t (some kp) s=match dueL (bring n) key kp.needs s with | (.none,s)=>(kp.worth,s) | (.some y,s)=>runL (bring n) key t y s:=rfl
     rw [hdue]
     generalize dueL (bring n) key kp.needs s=q at hd
     obtain ⟨o,s2⟩:=q
     simp only at hd
     cases o with
     |none=>exact ⟨hd.strip,hd.kb,hd.begun,hd.mono,hd.dn,by have:=hd.psi; show s2.done.length + 1000 * Rs s2≤_; omega,by have:=hd.ran; show s2.ran.length + Rs s2≤_; omega⟩
     |some y=>exact own_run hB key t y s2 s (hd.kb hk) (hd.le h401)
end Lard
end
section
set_option maxRecDepth 100000
set_option maxHeartbeats 1000000
open Go.RowKit Go.Shelf
theorem needInfo:(Tryz.prog.info? 133).map (fun i=>(i.zero,i.size,i.bytes))=some (some (.agg #[.string ⟨#[]⟩,.int .i64 0,.nilIface]),3,40):=by kernel_rfl
theorem NeedsAt.len {w:World} {ns:List (List UInt8×Lard.Wo)} {sl:Value} (h:NeedsAt w ns sl):∃ o c,sl=.slice o ns.length c:=by
 obtain ⟨o,c,h,_⟩:=h.cell
 exact ⟨o,c,h⟩
theorem NeedsAt.snoc {w w':World} {ns:List (List UInt8×Lard.Wo)} {sl sl':Value} {n:List UInt8×Lard.Wo} {x y:Value} (h:NeedsAt w ns sl) (hst:Stay w w') (hown:∀ qs:List (Value×Value×Value),w.ownsRow 8 133 3 sl ns.length (qs.flatMap cells3)→w'.ownsRow 8 133 3 sl' (ns.length + 1) (qs.flatMap cells3++[str n.1,x,y])) (hn:n.1.length≤200) (hw:IsW w n.2 (.agg #[x,y])):NeedsAt w' (ns++[n]) sl':=by
 obtain ⟨qs,h1,h2,h3⟩:=h
 refine ⟨qs++[(str n.1,x,y)],?_,by simp [h2],fun i m q hm hq=>?_⟩
 ·have:=hown qs h1
  rw [List.length_append,List.flatMap_append]
  simpa [cells3] using this
 ·rcases Nat.lt_or_ge i ns.length with hi | hi
  ·rw [List.getElem?_append_left hi] at hm
   rw [List.getElem?_append_left (by omega)] at hq
   exact ⟨(h3 i m q hm hq).1,(h3 i m q hm hq).2.1,(h3 i m q hm hq).2.2.st hst⟩
  ·rw [List.getElem?_append_right hi] at hm
   rw [List.getElem?_append_right (by omega)] at hq
   have hi0:i - ns.length=0:=by
    have:=(List.getElem?_eq_some_iff.1 hm).1
    simp at this
    omega
   rw [hi0] at hm
   rw [h2,hi0] at hq
   simp at hm hq
   subst hm hq
   exact ⟨rfl,hn,hw.st hst⟩
structure Rw (w w':World) (sl sl':Value):Prop where
 os:w'.os=w.os
 tape:w'.tape=w.tape
 output:w'.output=w.output
 size:w.heap.size≤w'.heap.size
 block:∀ k,k < w.heap.size→sl.ownBlock≠some k→w'.heap[k]? = w.heap[k]?
 old:∀ k,sl.ownBlock=some k→∃ cs fz,w'.heap[k]? = some (.cells cs 133 fz)
 loc:∀ k,sl'.ownBlock=some k→sl.ownBlock=some k∨w.heap.size≤k
 stay:Stay w w'
theorem Rw.below {w w':World} {sl:Value} (h:Below w.heap.size w w') (hs:∀ k,sl.ownBlock=some k→∃ cs fz,w.heap[k]? = some (.cells cs 133 fz)):Rw w w' sl sl :=
 ⟨h.os,h.tape,h.output,h.size,fun k hk _=>h.block k hk,fun k hk=>by obtain ⟨cs,fz,h1⟩:=hs k hk; exact ⟨cs,fz,(h.block k (lt_of_some h1)).trans h1⟩,fun k hk=>.inl hk,Stay.below h⟩
theorem NeedsAt.typed {w:World} {ns:List (List UInt8×Lard.Wo)} {sl:Value} (h:NeedsAt w ns sl):∀ k,sl.ownBlock=some k→∃ cs fz,w.heap[k]? = some (.cells cs 133 fz):=by
 obtain ⟨qs,h1,_⟩:=h
 exact fun k hk=>row_typed h1 hk
theorem withNeed_any (w:World) (ns:List (List UInt8×Lard.Wo)) (sl:Value) (key:ByteArray) (r:Lard.Wo) (x:Value) (g:G w) (h:NeedsAt w ns sl) (hn:ns.length≤500) (hk:key.size≤200) (hx:IsW w r x) :
  Calls Tryz.prog 163 #[sl,.string key,x] w fun e w'=>∃ sl',e=.returned sl'∧NeedsAt w' (Lard.withNeed ns key.data.toList r) sl'∧Rw w w' sl sl':=by
 obtain ⟨c,y,rfl,hy⟩:=hx.form
 obtain ⟨o,cp,rfl⟩:=h.len
 have hmf:∀ (fn:Fn) (first cap:Array Value) (w:World),(Instr.makeFunc fn first cap).run Tryz.prog w=.ok (.func fn first cap) w:=fun _ _ _ _=>rfl
 have hB2:Below w.heap.size w ((w.alloc (.cells #[.string key] 9)).alloc (.cells #[.int .i64 c,y] 113)):=((Below.refl _ _).alloc (Nat.le_refl _) _).alloc (by simp) _
 have hN2:NeedsAt ((w.alloc (.cells #[.string key] 9)).alloc (.cells #[.int .i64 c,y] 113)) ns (.slice o ns.length cp):=h.st (fun k hk cs fz hb=>(hB2.block k (lt_of_some hb)).trans hb) (Stay.below hB2)
 have ck:((w.alloc (.cells #[.string key] 9)).alloc (.cells #[.int .i64 c,y] 113)).cell? ⟨w.heap.size,0,none⟩=some (.string key):=by simp [go_sem]
 have ck1:((w.alloc (.cells #[.string key] 9)).alloc (.cells #[.int .i64 c,y] 113)).cell? ⟨w.heap.size + 1,0,none⟩=some (.int .i64 c):=by simp [go_sem]
 have ck2:((w.alloc (.cells #[.string key] 9)).alloc (.cells #[.int .i64 c,y] 113)).cell? ⟨w.heap.size + 1,1,none⟩=some y:=by simp [go_sem]
 have HK:=hide (fun (w3:World) (hB:Below ((w.alloc (.cells #[.string key] 9)).alloc (.cells #[.int .i64 c,y] 113)).heap.size ((w.alloc (.cells #[.string key] 9)).alloc (.cells #[.int .i64 c,y] 113)) w3)=>show w3.cell? ⟨w.heap.size,0,none⟩=some (.string key)∧w3.cell? ⟨w.heap.size + 1,0,none⟩=some (.int .i64 c)∧w3.cell? ⟨w.heap.size + 1,1,none⟩=some y from ⟨(hB.cell (p:=⟨w.heap.size,0,none⟩) (by show w.heap.size < _; simp; omega)).trans ck,(hB.cell (p:=⟨w.heap.size + 1,0,none⟩) (by show w.heap.size + 1 < _; simp)).trans ck1,(hB.cell (p:=⟨w.heap.size + 1,1,none⟩) (by show w.heap.size + 1 < _; simp)).trans ck2⟩)
 have HCF:=hide (containsFunc_any _ ns _ key w.heap.size hN2 (by omega) ck)
 clear ck ck1 ck2
 cases hl:(Lard.look ns key.data.toList).isSome with
 |true =>
  have hwn:Lard.withNeed ns key.data.toList r=ns:=by unfold Lard.withNeed; rw [if_pos hl]
  rw [hwn]
  have HF:=hide (fun (w3:World) (hB3:Below w.heap.size w w3)=>show NeedsAt w3 ns (.slice o ns.length cp)∧Rw w w3 (.slice o ns.length cp) (.slice o ns.length cp) from ⟨h.st (fun k hk cs fz hb=>(hB3.block k (lt_of_some hb)).trans hb) (Stay.below hB3),Rw.below hB3 h.typed⟩)
  rw [hl] at HCF
  clear h hx hwn hl hN2
  rcases hy with rfl | ⟨t,a,rfl⟩
  all_goals
   go_enter Tryz.func163,Tryz.ntmps163
   go_wp2_with fail
   refine HCF.out.mono ?_
   rintro e w3 ⟨rfl,hB3⟩
   have hf:=HF.out w3 (hB2.trans (hB3.mono (by simp; omega)))
   clear HCF HF HK
   go_wp2_with fail
   go_ret
   exact ⟨_,rfl,hf⟩
 |false =>
  have hwn:Lard.withNeed ns key.data.toList r=ns++[(key.data.toList,r)]:=by unfold Lard.withNeed; rw [if_neg (by simp [hl])]
  rw [hwn]
  have HF:=hide (fun (w3:World) (hB3:Below w.heap.size w w3)=>show ∃ g' cap w4,(Builtin.append_ #[129,129] 129 #[.slice o ns.length cp,.slice (some ⟨w3.heap.size,0,none⟩) 1 1]).run Tryz.prog (w3.alloc (.cells #[.string key,.int .i64 c,y] 133))=.ok (.slice (some ⟨g',0,none⟩) (ns.length + 1) cap) w4∧NeedsAt w4 (ns++[(key.data.toList,r)]) (.slice (some ⟨g',0,none⟩) (ns.length + 1) cap)∧Rw w w4 (.slice o ns.length cp) (.slice (some ⟨g',0,none⟩) (ns.length + 1) cap) from by
   have hB4:Below w.heap.size w (w3.alloc (.cells #[.string key,.int .i64 c,y] 133)):=hB3.alloc hB3.size _
   have hN4:=h.st (fun k hk cs fz hb=>(hB4.block k (lt_of_some hb)).trans hb) (Stay.below hB4)
   have hW4:=hx.st (Stay.below hB4)
   obtain ⟨qs,q1,q2,q3⟩:=hN4
   have hnew:=heap_alloc_new w3 (.cells #[.string key,.int .i64 c,y] 133)
   obtain ⟨g',cap,w4,hr,ho,hg,hloc,hold⟩:=append_row 129 129 133 _ 3 40 Tryz.underlying129 needInfo rfl (by decide) _ ns.length (qs.flatMap cells3) q1 ⟨w3.heap.size,0,none⟩ 1 [str key.data.toList,.int .i64 c,y] rfl (fun j u hj=>by
    rw [addr_add,Nat.zero_add]
    simp only [World.cell?,hnew]
    match j,hj with
    |0,hj=>simp at hj; rw [←hj,str_bytes]; rfl
    |1,hj=>simp at hj; rw [←hj]; rfl
    |2,hj=>simp at hj; rw [←hj]; rfl) (fun u hu=>by
    rcases hy with rfl | ⟨t,a,rfl⟩ <;> (simp at hu; rcases hu with rfl | rfl | rfl <;> rfl)) (by omega) (by unfold maxLen; omega) (Nat.le_trans g.size hB4.size)
   have htn:Tn 133 (w3.alloc (.cells #[.string key,.int .i64 c,y] 133)) w4 (Value.ownBlock (.slice o ns.length cp)):=⟨hg,fun b hb=>row_typed q1 hb⟩
   have hst4:Stay _ w4:=htn.stay (.inr (.inr (.inr (.inr (.inr (.inr rfl))))))
   refine ⟨g',cap,w4,hr,NeedsAt.snoc (n:=(key.data.toList,r)) ⟨qs,q1,q2,q3⟩ hst4 (fun qs' hq'=>?_) (by rw [←size_data]; exact hk) hW4,?_⟩
   ·have:qs'.flatMap cells3=qs.flatMap cells3:=by
     have a1:=q1.2
     have a2:=hq'.2
     rcases a1 with ⟨a1,b1⟩ | ⟨g1,cap1,cur1,a1,_,c1,_,_,_,d1⟩
     ·have e1:qs.flatMap cells3=[]:=List.eq_nil_of_length_eq_zero (by rw [q1.1,b1])
      have e2:qs'.flatMap cells3=[]:=List.eq_nil_of_length_eq_zero (by rw [hq'.1,b1])
      rw [e1,e2]
     ·rcases a2 with ⟨a2,b2⟩ | ⟨g2,cap2,cur2,a2,_,c2,_,_,_,d2⟩
      ·rw [a2] at a1; cases a1
      ·rw [a1] at a2
       cases a2
       rw [c1] at c2
       cases c2
       rw [←d1,←d2]
    rw [this]
    exact ho
   ·exact {
     os:=hg.os.trans hB4.os
     tape:=hg.tape.trans hB4.tape
     output:=hg.output.trans hB4.output
     size:=Nat.le_trans hB4.size hg.size
     block:=fun k hk hne=>(hg.block k (Nat.lt_of_lt_of_le hk hB4.size) (fun e=>hne e.symm)).trans (hB4.block k hk)
     old:=hold
     loc:=fun k hk=>by
      cases hk
      rcases hloc with hloc | hloc
      ·exact .inl hloc
      ·right
       rw [hloc]
       exact hB4.size
     stay:=(Stay.below hB4).trans hst4 })
  rw [hl] at HCF
  have HB2:=hide hB2
  clear h hx hwn hl hN2 hB2
  rcases hy with rfl | ⟨t,a,rfl⟩
  all_goals
   go_enter Tryz.func163,Tryz.ntmps163
   go_wp2_with fail
   refine HCF.out.mono ?_
   rintro e w3 ⟨rfl,hB3⟩
   have hB3':Below w.heap.size w w3:=HB2.out.trans (hB3.mono (by simp; omega))
   obtain ⟨k0,k1,k2⟩:=HK.out w3 hB3
   obtain ⟨g',cap,w4,hr,hN,hR⟩:=HF.out w3 hB3'
   have HN:=hide hN
   have HR:=hide hR
   clear HCF HF HK hN hR hB3 hB3'
   go_wp2_with (at_builtin; refine wpList_run_append _ rfl _ _ _ _ rfl _ _ _ _ rfl rfl hr ?_)
   go_ret
   exact ⟨_,rfl,HN.out,HR.out⟩
end
end Go.Proofs.YtpekpdimdelncaaGreatDoor
