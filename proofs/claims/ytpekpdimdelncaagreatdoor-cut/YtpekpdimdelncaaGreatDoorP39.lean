/- Out of: Jr, Al, Rp. -/
import Derived.Test.YtpekpdimdelncaaGreatDoorP26
import Derived.Test.YtpekpdimdelncaaGreatDoorP06
import Derived.Test.YtpekpdimdelncaaGreatDoorP38
import Derived.Test.YtpekpdimdelncaaGreatDoorP36
set_option linter.unusedVariables false
namespace Go.Proofs.YtpekpdimdelncaaGreatDoor
namespace Lard
def brk:List Nat→By→Option (Nat×By)
 |[],_=>none
 |c :: r,l=>if (brokenW c).isPrefixOf l=true then some (c,l.drop (brokenW c).length) else brk r l
def rdWo (l:By):Option (Wo×By) :=
 match brk [7,8,9,10,11] l with
 |some (c,r)=>some (.error c,r)
 |none=>(rdF 3 l).map fun q=>(.ok q.1,q.2)
def rdNeed (l:By):Option ((By×Wo)×By) :=
 if l.head? = some 32∧isKey ((l.drop 1).takeWhile fun c=>!(c == 61))=true then (rdWo ((l.drop 1).drop (((l.drop 1).takeWhile fun c=>!(c == 61)).length + 1))).map fun q=>(((l.drop 1).takeWhile fun c=>!(c == 61),q.1),q.2) else none
def rdNeeds:Nat→By→List (By×Wo)→Option (List (By×Wo))
 |0,_,_=>none
 |n + 1,l,acc=>if l=[] then some acc else match rdNeed l with
  |none=>none
  |some (q,r)=>if (look acc q.1).isSome=true then none else rdNeeds n r (acc++[q])
def rdKeep (l:By):Option Keep :=
 match rdWo l with
 |none=>none
 |some (w,r)=>(rdNeeds (r.length + 1) r []).map fun ns=>⟨w,ns⟩
def okWo:Wo→Prop
 |.ok v=>okV 3 v
 |.error c=>7≤c∧c≤11
theorem wr_head (v:V) (h:okV 3 v) (r:By):∃ c t,wr 3 v++r=c :: t∧(c=39∨c=123∨numC c=true):=by
 obtain ⟨x⟩:=v
 rcases x with i | b | l
 ·unfold wr
  simp only
  cases hi:Lib.itoa i with
  |nil=>exact (itoa_ne i hi).elim
  |cons c t=>exact ⟨c,t++r,rfl,.inr (.inr (itoa_numC i c (by rw [hi]; simp)))⟩
 ·unfold wr
  exact ⟨39,_,rfl,.inl rfl⟩
 ·unfold wr
  exact ⟨123,_,rfl,.inr (.inl rfl)⟩
theorem brk_no {l:By} (h:∀ c,l.head? = some c→c≠110∧c≠107∧c≠108∧c≠115):brk [7,8,9,10,11] l=none:=by
 cases l with
 |nil=>rfl
 |cons c t =>
  obtain ⟨h1,h2,h3,h4⟩:=h c rfl
  have e1:(110 == c)=false:=beq_eq_false_iff_ne.2 (Ne.symm h1)
  have e2:(107 == c)=false:=beq_eq_false_iff_ne.2 (Ne.symm h2)
  have e3:(108 == c)=false:=beq_eq_false_iff_ne.2 (Ne.symm h3)
  have e4:(115 == c)=false:=beq_eq_false_iff_ne.2 (Ne.symm h4)
  simp [brk,brokenW,List.isPrefixOf,e1,e2,e3,e4]
theorem rdWo_text (w:Wo) (h:okWo w) (r:By) (hr:Apart r):rdWo (woText w++r)=some (w,r):=by
 cases w with
 |ok v =>
  have hv:okV 3 v:=h
  have hn:brk [7,8,9,10,11] (wr 3 v++r)=none:=by
   obtain ⟨c,t,h1,h2⟩:=wr_head v hv r
   refine brk_no (fun d hd=>?_)
   rw [h1] at hd
   cases hd
   refine ⟨fun e=>?_,fun e=>?_,fun e=>?_,fun e=>?_⟩ <;> subst e <;> rcases h2 with h2 | h2 | h2 <;> first | exact absurd h2 (by decide) | exact absurd h2 (by decide)
  unfold rdWo woText
  simp only
  rw [hn]
  simp only
  rw [rdF_wr 3 v r hv hr]
  rfl
 |error c =>
  obtain ⟨h1,h2⟩:7≤c∧c≤11:=h
  have:c=7∨c=8∨c=9∨c=10∨c=11:=by omega
  rcases this with rfl | rfl | rfl | rfl | rfl <;> simp [rdWo,woText,brk,brokenW,List.isPrefixOf]
theorem lead_all (p:UInt8→Bool):∀ (l:By),lead p l=l.length→∀ c∈l,p c=true
 |[],_,c,hc=>by cases hc
 |d :: l,h,c,hc=>by
  unfold lead at h
  split at h
  ·rename_i hd
   rcases List.mem_cons.1 hc with rfl | hc
   ·exact hd
   ·exact lead_all p l (by simpa using h) c hc
  ·simp at h
theorem name_al {k:By} (h:isName k=true):k≠[]∧k.length≤8∧∀ c∈k,isAl c=true:=by
 unfold isName at h
 simp only [Bool.and_eq_true,beq_iff_eq] at h
 obtain ⟨h1,h2⟩:=h
 cases k with
 |nil=>cases h1
 |cons c r =>
  refine ⟨by simp,?_⟩
  rw [tok_cons (c :: r) c r rfl] at h1 h2
  split at h1
  ·split at h1 <;> cases h1
  ·rename_i hd
   rw [if_neg hd] at h2
   split at h1
   ·rename_i hl
    rw [if_pos hl] at h2
    split at h1
    ·cases h1
    ·rename_i ht
     rw [if_neg ht] at h2
     split at h1
     ·cases h1
     ·rename_i h8
      rw [if_neg h8] at h2
      have h2:lead isAl (c :: r)=(c :: r).length:=h2
      exact ⟨by omega,lead_all isAl _ h2⟩
   ·rename_i hl
    split at h1
    ·cases hw:wordOf (c :: r) with
     |none=>rw [hw] at h1; cases h1
     |some n=>rw [hw] at h1; cases h1
    ·split at h1 <;> cases h1
theorem al_no {c:UInt8} (h:isAl c=true):c≠61∧c≠10∧c≠32 :=
 ⟨fun e=>by subst e; exact absurd h (by decide),fun e=>by subst e; exact absurd h (by decide),fun e=>by subst e; exact absurd h (by decide)⟩
theorem numC_no {c:UInt8} (h:numC c=true):c≠61∧c≠10∧c≠32 :=
 ⟨fun e=>by subst e; exact absurd h (by decide),fun e=>by subst e; exact absurd h (by decide),fun e=>by subst e; exact absurd h (by decide)⟩
theorem key_bytes {k:By} (h:isKey k=true):∀ c∈k,c≠61∧c≠10∧c≠32:=by
 unfold isKey at h
 rw [Bool.or_eq_true] at h
 rcases h with h | h
 ·exact fun c hc=>al_no ((name_al h).2.2 c hc)
 ·simp only [Bool.and_eq_true,beq_iff_eq] at h
  obtain ⟨h1,h2⟩:=h
  cases k with
  |nil=>cases h1
  |cons c t =>
   cases h1
   intro d hd
   rcases List.mem_cons.1 hd with rfl | hd
   ·decide
   ·obtain ⟨i,hi⟩:=Option.isSome_iff_exists.1 h2
    have he:=(numOf_some hi).1
    simp only [List.drop_succ_cons,List.drop_zero] at he
    exact numC_no (itoa_numC i d (by rw [he]; exact hd))
theorem takeWhile_app (p:UInt8→Bool):∀ (a:By) (c:UInt8) (r:By),(∀ x∈a,p x=true)→p c=false→(a++c :: r).takeWhile p=a
 |[],c,r,_,h=>by simp [h]
 |x :: a,c,r,ha,h=>by
  have:=takeWhile_app p a c r (fun y hy=>ha y (List.mem_cons_of_mem _ hy)) h
  simp [ha x List.mem_cons_self,this]
theorem rdNeed_text (q:By×Wo) (hk:isKey q.1=true) (hw:okWo q.2) (r:By) (hr:Apart r):rdNeed (needText q++r)=some (q,r):=by
 have e:needText q++r=32 :: (q.1++61 :: (woText q.2++r)):=by simp [needText]
 rw [e]
 have ht:(q.1++61 :: (woText q.2++r)).takeWhile (fun c=>!(c == 61))=q.1:=takeWhile_app _ _ _ _ (fun c hc=>by have:=(key_bytes hk c hc).1; simpa using this) (by decide)
 unfold rdNeed
 simp only [List.head?_cons,List.drop_succ_cons,List.drop_zero]
 rw [ht,if_pos ⟨trivial,hk⟩]
 have hd:(q.1++61 :: (woText q.2++r)).drop (q.1.length + 1)=woText q.2++r:=by
  rw [←List.drop_drop,List.drop_left']
  ·rfl
  ·rfl
 rw [hd,rdWo_text q.2 hw r hr]
 rfl
theorem apart_needs (ns:List (By×Wo)):Apart (ns.flatMap needText):=by
 intro c hc
 cases ns with
 |nil=>cases hc
 |cons q ns =>
  simp [needText] at hc
  subst hc
  decide
theorem rdNeeds_text:∀ (ns acc:List (By×Wo)) (n:Nat),ns.length < n→(∀ q∈ns,isKey q.1=true∧okWo q.2)→((acc++ns).map (·.1)).Nodup→rdNeeds n (ns.flatMap needText) acc=some (acc++ns)
 |[],acc,0,h,_,_=>by simp at h
 |[],acc,n + 1,_,_,_=>by simp [rdNeeds]
 |q :: ns,acc,0,h,_,_=>by simp at h
 |q :: ns,acc,n + 1,h,hq,hn=>by
  have h1:=rdNeed_text q (hq q List.mem_cons_self).1 (hq q List.mem_cons_self).2 (ns.flatMap needText) (apart_needs ns)
  have e:(q :: ns).flatMap needText=needText q++ns.flatMap needText:=by simp
  have hne:needText q++ns.flatMap needText≠[]:=by simp [needText]
  unfold rdNeeds
  rw [e,if_neg hne,h1]
  simp only
  have hl:look acc q.1=none:=look_none.2 (fun p hp he=>by
   rw [List.map_append,List.nodup_append] at hn
   exact hn.2.2 p.1 (List.mem_map.2 ⟨p,hp,rfl⟩) q.1 (by simp) he)
  rw [hl,if_neg (by simp)]
  have:=rdNeeds_text ns (acc++[q]) n (by simp at h; omega) (fun x hx=>hq x (List.mem_cons_of_mem _ hx)) (by simpa using hn)
  rw [this]
  simp
theorem needs_len (ns:List (By×Wo)):ns.length≤(ns.flatMap needText).length:=by
 induction ns with
 |nil=>simp
 |cons q ns ih =>
  have e:(q :: ns).flatMap needText=needText q++ns.flatMap needText:=by simp
  rw [e,List.length_append]
  have:1≤(needText q).length:=by simp [needText]
  rw [List.length_cons]
  omega
theorem rdKeep_text (k:Keep) (hw:okWo k.worth) (hn:∀ q∈k.needs,isKey q.1=true∧okWo q.2) (hd:(k.needs.map (·.1)).Nodup):rdKeep (woText k.worth++k.needs.flatMap needText)=some k:=by
 unfold rdKeep
 rw [rdWo_text k.worth hw _ (apart_needs _)]
 simp only
 rw [rdNeeds_text k.needs [] _ (by have:=needs_len k.needs; omega) hn (by simpa using hd)]
 rfl
end Lard
section
namespace Lard
structure Alk (s q:LS):Prop where
 has:∀ k,look s.has k=look q.has k
 done:s.done=q.done
 begun:s.begun=q.begun
 ring:s.ring=q.ring
 ran:s.ran=q.ran
theorem Alk.refl (s:LS):Alk s s:=⟨fun _=>rfl,rfl,rfl,rfl,rfl⟩
def Both {α:Type} (a b:α×LS):Prop:=a.1=b.1∧Alk a.2 b.2
section
variable {s q:LS}
theorem Alk.kept (h:Alk s q) (k:By):keptOf s.has k=keptOf q.has k:=by unfold keptOf; rw [h.has]
theorem Alk.setKept (h:Alk s q) (key:By) (o:Option Keep) (j1 j2:List By):Alk { s with has:=Lard.setKept s.has key o,jr:=j1 } { q with has:=Lard.setKept q.has key o,jr:=j2 } where
 has k:=by
  show look (Lard.setKept s.has key o) k=look (Lard.setKept q.has key o) k
  rw [look_setKept,look_setKept,h.has]
 done:=h.done
 begun:=h.begun
 ring:=h.ring
 ran:=h.ran
variable {Br:By→LS→Wo×LS}
theorem due_alk (hB:∀ k s q,Alk s q→Both (Br k s) (Br k q)) (key:By):∀ (l:List (By×Wo)) (s q:LS),Alk s q→Both (dueL Br key l s) (dueL Br key l q)
 |[],s,q,h=>⟨rfl,h⟩
 |(k,w) :: r,s,q,h=>by
  have hb:=hB k s q h
  unfold dueL
  rw [hb.1]
  split
  ·exact due_alk hB key r _ _ hb.2
  ·exact ⟨rfl,hb.2⟩
theorem prog_alk (hB:∀ k s q,Alk s q→Both (Br k s) (Br k q)) (p:Pg Wo):∀ (s q:LS) (ns:List (By×Wo)),Alk s q→(p.run (needL Br) (s,ns)).1=(p.run (needL Br) (q,ns)).1∧(p.run (needL Br) (s,ns)).2.2=(p.run (needL Br) (q,ns)).2.2∧Alk (p.run (needL Br) (s,ns)).2.1 (p.run (needL Br) (q,ns)).2.1 :=
 Pg.ind (P:=fun p=>∀ (s q:LS) (ns:List (By×Wo)),Alk s q→(p.run (needL Br) (s,ns)).1=(p.run (needL Br) (q,ns)).1∧(p.run (needL Br) (s,ns)).2.2=(p.run (needL Br) (q,ns)).2.2∧Alk (p.run (needL Br) (s,ns)).2.1 (p.run (needL Br) (q,ns)).2.1) (fun a s q ns h=>⟨rfl,rfl,h⟩) (fun k f ih s q ns h=>by
  have hb:=hB k s q h
  have:=ih (Br k s).1 (Br k s).2 (Br k q).2 (withNeed ns k (Br k s).1) hb.2
  show ((f (Br k s).1).run (needL Br) ((Br k s).2,withNeed ns k (Br k s).1)).1=((f (Br k q).1).run (needL Br) ((Br k q).2,withNeed ns k (Br k q).1)).1∧((f (Br k s).1).run (needL Br) ((Br k s).2,withNeed ns k (Br k s).1)).2.2=((f (Br k q).1).run (needL Br) ((Br k q).2,withNeed ns k (Br k q).1)).2.2∧Alk ((f (Br k s).1).run (needL Br) ((Br k s).2,withNeed ns k (Br k s).1)).2.1 ((f (Br k q).1).run (needL Br) ((Br k q).2,withNeed ns k (Br k q).1)).2.1
  rw [←hb.1]
  exact this) p
theorem ran_alk (key:By) {a b:Wo×(LS×List (By×Wo))} (h1:a.1=b.1) (h2:a.2.2=b.2.2) (h:Alk a.2.1 b.2.1):Both (ranL key a) (ranL key b):=by
 obtain ⟨r,s,ns⟩:=a
 obtain ⟨r',q,ns'⟩:=b
 have h1:r=r':=h1
 have h2:ns=ns':=h2
 subst h1 h2
 have h:Alk s q:=h
 refine ⟨rfl,?_⟩
 show Alk (if isRound r=true then (if (keptOf s.has key).isSome then s.lose key else s) else s.keep key ⟨r,ns⟩) (if isRound r=true then (if (keptOf q.has key).isSome then q.lose key else q) else q.keep key ⟨r,ns⟩)
 rw [h.kept]
 split
 ·split
  ·exact h.setKept key none _ _
  ·exact h
 ·exact h.setKept key _ _ _
theorem run_alk (hB:∀ k s q,Alk s q→Both (Br k s) (Br k q)) (key:By) (t:T) (y:Why) {s q:LS} (h:Alk s q):Both (runL Br key t y s) (runL Br key t y q):=by
 unfold runL
 obtain ⟨h1,h2,h3⟩:=prog_alk hB (prog t) { s with ran:=s.ran++[y] } { q with ran:=q.ran++[y] } [] ⟨h.has,h.done,h.begun,h.ring,by show s.ran++[y]=q.ran++[y]; rw [h.ran]⟩
 exact ran_alk key h1 h2 h3
theorem work_alk (hB:∀ k s q,Alk s q→Both (Br k s) (Br k q)) (key:By) (s q:LS) (h:Alk s q):Both (workL Br key s) (workL Br key q):=by
 unfold workL
 rw [h.has]
 cases look q.has key with
 |none=>exact ⟨rfl,h⟩
 |some th =>
  simp only
  cases th.tree with
  |none=>exact ⟨rfl,h⟩
  |some t =>
   simp only
   cases th.kept with
   |none=>exact run_alk hB key t _ h
   |some k =>
    have hd:=due_alk hB key k.needs s q h
    have e:∀ s,ruleL Br key t (some k) s=match dueL Br key k.needs s with | (.none,s)=>(k.worth,s) | (.some y,s)=>runL Br key t y s:=fun _=>rfl
    rw [e,e]
    generalize dueL Br key k.needs s=a at hd
    generalize dueL Br key k.needs q=b at hd
    obtain ⟨o,s1⟩:=a
    obtain ⟨o',q1⟩:=b
    obtain ⟨h1,h2⟩:=hd
    have h1:o=o':=h1
    subst h1
    cases o with
    |none=>exact ⟨rfl,h2⟩
    |some y=>exact run_alk hB key t y h2
theorem bringW_alk {Wk:By→LS→Wo×LS} (hW:∀ key s q,Alk s q→Both (Wk key s) (Wk key q)) (key:By) (s q:LS) (h:Alk s q):Both (bringW Wk key s) (bringW Wk key q):=by
 obtain ⟨sh,d,b,r,n,sj⟩:=s
 obtain ⟨qh,d',b',r',n',qj⟩:=q
 obtain ⟨hh,h1,h2,h3,h4⟩:=h
 have h1:d=d':=h1
 have h2:b=b':=h2
 have h3:r=r':=h3
 have h4:n=n':=h4
 subst h1 h2 h3 h4
 unfold bringW
 simp only
 cases look d key with
 |some w=>exact ⟨rfl,hh,rfl,rfl,rfl,rfl⟩
 |none =>
  simp only
  by_cases hc:b.contains key=true
  ·rw [if_pos hc,if_pos hc]
   refine ⟨rfl,?_⟩
   show Alk (LS.meet ⟨sh,d,b,r,n,sj⟩ key) (LS.meet ⟨qh,d,b,r,n,qj⟩ key)
   unfold LS.meet
   simp only
   split
   ·exact ⟨hh,rfl,rfl,rfl,rfl⟩
   ·exact ⟨hh,rfl,rfl,rfl,rfl⟩
  ·rw [if_neg hc,if_neg hc]
   obtain ⟨h1,h2⟩:=hW key ⟨sh,d,b++[key],r,n,sj⟩ ⟨qh,d,b++[key],r,n,qj⟩ ⟨hh,rfl,rfl,rfl,rfl⟩
   refine ⟨h1,h2.has,?_,?_,h2.ring,h2.ran⟩
   ·show put _ key _=put _ key _
    rw [h1,h2.done]
   ·show List.dropLast _=List.dropLast _
    rw [h2.begun]
theorem bring_alk:∀ (n:Nat) (key:By) (s q:LS),Alk s q→Both (bring n key s) (bring n key q)
 |0,key,s,q,h=>bringW_alk (fun key s q h=>⟨rfl,h⟩) key s q h
 |n + 1,key,s,q,h=>bringW_alk (work_alk (bring_alk n)) key s q h
structure Al0 (s q:LS):Prop where
 has:∀ k,look s.has k=look q.has k
 begun:s.begun=q.begun
theorem Alk.al0 (h:Alk s q):Al0 s q:=⟨h.has,h.begun⟩
theorem ask_alk (h:Al0 s q) (k:By):Both (s.ask k) (q.ask k):=bring_alk 42 k _ _ ⟨h.has,rfl,h.begun,rfl,rfl⟩
theorem Al0.put (h:Al0 s q) (key:By) (th:Thing) (j1 j2:List By):Al0 { s with has:=Lard.put s.has key th,jr:=j1 } { q with has:=Lard.put q.has key th,jr:=j2 } :=
 ⟨fun k=>by show look (Lard.put s.has key th) k=look (Lard.put q.has key th) k; rw [look_put,look_put,h.has],h.begun⟩
theorem Al0.del (h:Al0 s q) (key:By) (j1 j2:List By):Al0 { s with has:=Lard.del s.has key,jr:=j1 } { q with has:=Lard.del q.has key,jr:=j2 } :=
 ⟨fun k=>by show look (Lard.del s.has key) k=look (Lard.del q.has key) k; rw [look_del,look_del,h.has],h.begun⟩
end
end Lard
end
section
namespace Lard
def Ln (h:List (By×Thing)) (t:By) (h':List (By×Thing)):Prop :=
 ∀ P:By→List (By×Thing)→Prop,
  (∀ {key:By} {v:V},isName key=true→okV 3 v→((look h key).isSome=true∨h.length < 40)→P (thingText key ⟨v,none,[],none⟩) (Lard.put h key ⟨v,none,[],none⟩)) →
  (∀ {key came:By},isName key=true→check came=(0,0)→(treeOf came).kind≠0→(∀ c∈came,c≠10)→((look h key).isSome=true∨h.length < 40)→P (thingText key ⟨vn 0,some (treeOf came),came,none⟩) (Lard.put h key ⟨vn 0,some (treeOf came),came,none⟩)) →
  (∀ {key:By},isName key=true→(look h key).isSome=true→P ([100,114,111,112,32]++key) (del h key)) →
  (∀ {key:By} {kp:Keep},isName key=true→keptOf h key=some kp→P ([108,111,115,101,32]++key) (setKept h key none)) →
  (∀ {key:By} {t:T} {kp:Keep},isName key=true→srcOf h key=some (.inr t)→Hon (prog t) [] kp.needs kp.worth→(∀ q∈kp.needs,okWo q.2)→okWo kp.worth→P (keepText key kp) (setKept h key (some kp)))→P t h'
section
variable {h:List (By×Thing)}
theorem Ln.put {key:By} {v:V} (h1:isName key=true) (h2:okV 3 v) (h3:(look h key).isSome=true∨h.length < 40):Ln h (thingText key ⟨v,none,[],none⟩) (Lard.put h key ⟨v,none,[],none⟩):=fun P a b c d e=>a h1 h2 h3
theorem Ln.set {key came:By} (h1:isName key=true) (h2:check came=(0,0)) (h3:(treeOf came).kind≠0) (h4:∀ c∈came,c≠10) (h5:(look h key).isSome=true∨h.length < 40):Ln h (thingText key ⟨vn 0,some (treeOf came),came,none⟩) (Lard.put h key ⟨vn 0,some (treeOf came),came,none⟩):=fun P a b c d e=>b h1 h2 h3 h4 h5
theorem Ln.drop {key:By} (h1:isName key=true) (h2:(look h key).isSome=true):Ln h ([100,114,111,112,32]++key) (del h key):=fun P a b c d e=>c h1 h2
theorem Ln.lose {key:By} {kp:Keep} (h1:isName key=true) (h2:keptOf h key=some kp):Ln h ([108,111,115,101,32]++key) (setKept h key none):=fun P a b c d e=>d h1 h2
theorem Ln.keep {key:By} {t:T} {kp:Keep} (h1:isName key=true) (h2:srcOf h key=some (.inr t)) (h3:Hon (prog t) [] kp.needs kp.worth) (h4:∀ q∈kp.needs,okWo q.2) (h5:okWo kp.worth):Ln h (keepText key kp) (setKept h key (some kp)):=fun P a b c d e=>e h1 h2 h3 h4 h5
theorem Ln.cs {motive:∀ t h',Ln h t h'→Prop}
  (put:∀ {key:By} {v:V} (h1:isName key=true) (h2:okV 3 v) (h3:(look h key).isSome=true∨h.length < 40),motive _ _ (Ln.put h1 h2 h3))
  (set:∀ {key came:By} (h1:isName key=true) (h2:check came=(0,0)) (h3:(treeOf came).kind≠0) (h4:∀ c∈came,c≠10) (h5:(look h key).isSome=true∨h.length < 40),motive _ _ (Ln.set h1 h2 h3 h4 h5))
  (drop:∀ {key:By} (h1:isName key=true) (h2:(look h key).isSome=true),motive _ _ (Ln.drop h1 h2))
  (lose:∀ {key:By} {kp:Keep} (h1:isName key=true) (h2:keptOf h key=some kp),motive _ _ (Ln.lose h1 h2))
  (keep:∀ {key:By} {t:T} {kp:Keep} (h1:isName key=true) (h2:srcOf h key=some (.inr t)) (h3:Hon (prog t) [] kp.needs kp.worth) (h4:∀ q∈kp.needs,okWo q.2) (h5:okWo kp.worth),motive _ _ (Ln.keep h1 h2 h3 h4 h5))
  {t:By} {h':List (By×Thing)} (hl:Ln h t h'):motive t h' hl:=by
 obtain ⟨x,m⟩:=hl (fun t h'=>∃ x:Ln h t h',motive t h' x) (fun h1 h2 h3=>⟨_,put h1 h2 h3⟩) (fun h1 h2 h3 h4 h5=>⟨_,set h1 h2 h3 h4 h5⟩) (fun h1 h2=>⟨_,drop h1 h2⟩) (fun h1 h2=>⟨_,lose h1 h2⟩) (fun h1 h2 h3 h4 h5=>⟨_,keep h1 h2 h3 h4 h5⟩)
 exact m
end
def Sto (jr:List By) (h:List (By×Thing)):Prop :=
 ∀ P:List By→List (By×Thing)→Prop,P [] []→(∀ {jr:List By} {t:By} {h h':List (By×Thing)},P jr h→Ln h t h'→P (jr++[t]) h')→P jr h
theorem Sto.nil:Sto [] []:=fun P a b=>a
theorem Sto.snoc {jr:List By} {t:By} {h h':List (By×Thing)} (hs:Sto jr h) (hl:Ln h t h'):Sto (jr++[t]) h':=fun P a b=>b (hs P a b) hl
theorem Sto.ind {motive:∀ jr h,Sto jr h→Prop} (nil:motive [] [] Sto.nil) (snoc:∀ {jr:List By} {t:By} {h h':List (By×Thing)} (hs:Sto jr h) (hl:Ln h t h'),motive jr h hs→motive (jr++[t]) h' (hs.snoc hl)) {jr:List By} {h:List (By×Thing)} (hs:Sto jr h):motive jr h hs:=by
 obtain ⟨x,m⟩:=hs (fun jr h=>∃ x:Sto jr h,motive jr h x) ⟨_,nil⟩ (fun ⟨x,m⟩ hl=>⟨_,snoc x hl m⟩)
 exact m
theorem Sto.pre {jr:List By} {h:List (By×Thing)} (hs:Sto jr h):∀ n,∃ h1,Sto (jr.take n) h1:=by
 induction hs using Sto.ind with
 |nil=>exact fun n=>⟨[],by simpa using Sto.nil⟩
 |@snoc jr t h h' hs hl ih =>
  intro n
  by_cases hn:n≤jr.length
  ·obtain ⟨h1,h2⟩:=ih n
   exact ⟨h1,by rw [List.take_append_of_le_length hn]; exact h2⟩
  ·exact ⟨h',by rw [List.take_of_length_le (by simp; omega)]; exact hs.snoc hl⟩
def LS.of (h:List (By×Thing)) (jr:List By):LS:=⟨h,[],[],[],[],jr⟩
theorem Sound.fields {s q:LS} (h:Sound s) (e1:q.has=s.has) (e2:q.begun=s.begun):Sound q where
 ef:=by rw [e1]; exact h.ef
 hon:=by rw [e1]; exact h.hon
 only:=by rw [e1]; exact h.only
 fine:=by rw [e1]; exact h.fine
 begun:=e2.trans h.begun
 kb:=by rw [e1]; exact h.kb
 len:=by rw [e1]; exact h.len
theorem few_worth:∀ (p:Pe V) (f:Nat) (acc ns:List (By×Wo)) (w:Wo),Hon p.worth acc ns w→Sp p f→ns.length≤acc.length + f
 |⟨.inl (.ok v,g)⟩,f,acc,ns,w,h,hs=>by
  have h:(.ok v:Wo)=w∧w≠.error 12∧acc=ns:=h
  rw [h.2.2]; omega
 |⟨.inl (.error c,g)⟩,f,acc,ns,w,h,hs=>by
  have h:(.error c:Wo)=w∧w≠.error 12∧acc=ns:=h
  rw [h.2.2]; omega
 |⟨.inr (k,c)⟩,f,acc,ns,w,h,hs=>by
  have h:(∃ u,look acc k=some u∧Hon (c u).worth acc ns w)∨(look acc k=none∧∃ u,u≠.error 12∧Hon (c u).worth (acc++[(k,u)]) ns w):=h
  have h1:=hs.1
  rcases h with ⟨u,_,h⟩ | ⟨_,u,_,h⟩
  ·have:=few_worth (c u) (f - 1) acc ns w h (hs.2 u)
   omega
  ·have:=few_worth (c u) (f - 1) (acc++[(k,u)]) ns w h (hs.2 u)
   simp only [List.length_append,List.length_cons,List.length_nil] at this
   omega
theorem hon_few {t:T} {ns:List (By×Wo)} {w:Wo} (h:Hon (prog t) [] ns w):ns.length≤401:=by
 have:=few_worth (tr (hM t) t none 400) 400 [] ns w h (sp_tr _ t none 400)
 simp only [List.length_nil] at this
 omega
theorem Sound.keep {s:LS} (h:Sound s) {key:By} {t:T} {kp:Keep} (ht:srcOf s.has key=some (.inr t)) (hh:Hon (prog t) [] kp.needs kp.worth) (hf:∀ q∈kp.needs,Fine q.2):Sound (s.keep key kp) where
 ef:=by
  show EF (srcOf (setKept s.has key (some kp)))
  rw [srcOf_setKept]
  exact h.ef
 hon k t' kp' h1 h2:=by
  have h1:srcOf (setKept s.has key (some kp)) k=_:=h1
  have h2:keptOf (setKept s.has key (some kp)) k=_:=h2
  rw [srcOf_setKept] at h1
  rw [keptOf_setKept] at h2
  split at h2
  ·rename_i e
   subst e
   cases hl:look s.has key with
   |none=>rw [hl] at h2; cases h2
   |some th =>
    rw [hl] at h2
    cases h2
    rw [ht] at h1
    cases h1
    exact hh
  ·exact h.hon k t' kp' h1 h2
 only k kp' h2:=by
  have h2:keptOf (setKept s.has key (some kp)) k=_:=h2
  show ∃ t,srcOf (setKept s.has key (some kp)) k=_
  rw [srcOf_setKept]
  rw [keptOf_setKept] at h2
  split at h2
  ·rename_i e
   subst e
   exact ⟨t,ht⟩
  ·exact h.only k kp' h2
 fine k kp' h2:=by
  have h2:keptOf (setKept s.has key (some kp)) k=_:=h2
  rw [keptOf_setKept] at h2
  split at h2
  ·cases hl:look s.has k <;> rw [hl] at h2 <;> cases h2
   exact hf
  ·exact h.fine k kp' h2
 begun:=h.begun
 kb:=kb_setKept h.kb (fun kp' e=>by cases e; exact hon_few hh)
 len:=by
  show (setKept s.has key (some kp)).length≤40
  unfold setKept
  rw [List.length_map]
  exact h.len
theorem okWo.fine {w:Wo} (h:okWo w):Fine w:=fun v e=>by subst e; exact h
theorem W.okWo {e:Src} (he:EF e) {k:By} {w:Wo} (h:W e k w):okWo w:=by
 cases w with
 |ok v=>exact h.fine he v rfl
 |error c =>
  have h1:=Is.ec (.inl h) c rfl
  have h2:c≠12:=fun e=>h.not12 (by rw [e])
  exact ⟨h1.1,by omega⟩
theorem Ln.sound {h h':List (By×Thing)} {t:By} (hl:Ln h t h') {s:LS} (hs:Sound s) (e:s.has=h):Sound { s with has:=h',jr:=s.jr++[t] }:=by
 subst e
 cases hl using Ln.cs with
 |@put key v h1 h2 h3=>exact hs.put (th:=⟨v,none,[],none⟩) ⟨rfl,.inl ⟨rfl,h2⟩⟩ h3 _
 |set h1 h2 h3 h4 h5=>exact hs.put ⟨rfl,.inr ⟨_,rfl,clo_treeOf _⟩⟩ h5 _
 |drop h1 h2=>exact hs.drop _
 |lose h1 h2=>exact hs.lose _
 |keep h1 h2 h3 h4 h5=>exact hs.keep h2 h3 (fun q hq=>(h4 q hq).fine)
theorem Sto.sound {jr:List By} {h:List (By×Thing)} (hs:Sto jr h):Sound (LS.of h jr):=by
 induction hs using Sto.ind with
 |nil=>exact Sound.new
 |snoc hs hl ih=>exact hl.sound ih rfl
def Nm (h:List (By×Thing)):Prop:=∀ k,(look h k).isSome=true→isName k=true
theorem Lns.src {e:Src} {h h1:List (By×Thing)} {j j1:List By} (hl:Lns e h j h1 j1):srcOf h1=srcOf h:=by
 exact hl (fun h1 _=>srcOf h1=srcOf h) rfl (fun ih _ _ _ _=>by rw [srcOf_setKept]; exact ih) (fun ih _=>by rw [srcOf_setKept]; exact ih)
theorem src_some {h:List (By×Thing)} {k:By} {x:V ⊕ T} (e:srcOf h k=some x):(look h k).isSome=true:=by
 cases hl:look h k with
 |none=>rw [src_none.2 hl] at e; cases e
 |some th=>rfl
theorem kept_look {h:List (By×Thing)} {k:By} {kp:Keep} (e:keptOf h k=some kp):(look h k).isSome=true:=by
 unfold keptOf at e
 cases hl:look h k with
 |none=>rw [hl] at e; cases e
 |some th=>rfl
theorem src_same_look {h h1:List (By×Thing)} (e:srcOf h1=srcOf h) (k:By):(look h1 k).isSome=(look h k).isSome:=by
 have:=congrFun e k
 cases h2:look h1 k with
 |none =>
  rw [src_none.2 h2] at this
  rw [src_none.1 this.symm]
 |some th =>
  cases h3:look h k with
  |none=>rw [src_none.2 h3] at this; rw [src_none.1 this] at h2; cases h2
  |some th'=>rfl
theorem Hon.keys:∀ {p:Pg Wo} {acc ns:List (By×Wo)} {w:Wo},Hon p acc ns w→Clo p→(∀ q∈acc,isKey q.1=true)→(∀ q∈ns,Fine q.2)→∀ q∈ns,isKey q.1=true:=by
 intro p
 refine Pg.ind (P:=fun p=>∀ {acc ns:List (By×Wo)} {w:Wo},Hon p acc ns w→Clo p→(∀ q∈acc,isKey q.1=true)→(∀ q∈ns,Fine q.2)→∀ q∈ns,isKey q.1=true) (fun a acc ns w h hc ha hf=>?_) (fun key c ih acc ns w h hc ha hf=>?_) p
 ·obtain ⟨_,_,h3⟩:=h
  exact h3 ▸ ha
 ·have hc:isKey key=true∧∀ w,Fine w→Clo (c w):=hc
  rcases h with ⟨u,h1,h⟩ | ⟨hl,u,_,h⟩
  ·obtain ⟨r,hr⟩:=h.pre
   exact ih u h (hc.2 u (hf (key,u) (by rw [hr]; exact List.mem_append_left _ (look_mem' h1)))) ha hf
  ·obtain ⟨r,hr⟩:=h.pre
   refine ih u h (hc.2 u (hf (key,u) (by rw [hr]; simp))) (fun q hq=>?_) hf
   rcases List.mem_append.1 hq with hq | hq
   ·exact ha q hq
   ·rw [List.mem_singleton.1 hq]; exact hc.1
theorem Hon.distinct {p:Pg Wo}:∀ {acc ns:List (By×Wo)} {w:Wo},Hon p acc ns w→(acc.map (·.1)).Nodup→(ns.map (·.1)).Nodup:=by
 refine Pg.ind (P:=fun p=>∀ {acc ns:List (By×Wo)} {w:Wo},Hon p acc ns w→(acc.map (·.1)).Nodup→(ns.map (·.1)).Nodup) (fun a acc ns w h hn=>?_) (fun key c ih acc ns w h hn=>?_) p
 ·obtain ⟨_,_,h3⟩:=h
  exact h3 ▸ hn
 ·rcases h with ⟨u,_,h⟩ | ⟨hl,u,_,h⟩
  ·exact ih u h hn
  ·refine ih u h ?_
   rw [List.map_append,List.nodup_append]
   refine ⟨hn,by simp,fun a ha b hb hab=>?_⟩
   obtain ⟨q,hq,rfl⟩:=List.mem_map.1 ha
   simp at hb
   exact look_none.1 hl q hq (hab.trans hb)
theorem Lns.sto {h h1:List (By×Thing)} {j j1:List By} (hl:Lns (srcOf h) h j h1 j1) (he:EF (srcOf h)) (hn:Nm h) (hs:Sto j h):Sto j1 h1:=by
 exact (hl (fun h1 j1=>Lns (srcOf h) h j h1 j1∧Sto j1 h1) ⟨.refl,hs⟩ (fun ⟨hl,ih⟩ h3 h4 h5 h6=>⟨hl.keep h3 h4 h5 h6,ih.snoc (.keep (hn _ (src_some h3)) (by rw [hl.src]; exact h3) h4 (fun q hq=>(h5 q hq).okWo he) (h6.okWo he))⟩)
  (fun ⟨hl,ih⟩ h3=>⟨hl.lose h3,ih.snoc (.lose (hn _ (by rw [←src_same_look hl.src]; exact kept_look h3)) h3)⟩)).2
theorem Sto.ask {s:LS} (hs:Sound s) (hn:Nm s.has) (h:Sto s.jr s.has) (k:By):Sto (s.ask k).2.jr (s.ask k).2.has:=by
 obtain ⟨new,hon,_⟩:=hs.bp k
 exact hon.jr.sto hs.ef hn h
/-! Without what is kept. -/
def bareL (t:By):Bool:=!(t.head? == some 107) && !(t.head? == some 108)
theorem srcOf_del (h:List (By×Thing)) (key k:By):srcOf (del h key) k=if key=k then none else srcOf h k:=by
 unfold srcOf
 rw [look_del]
 split <;> rfl
theorem Sto.bare {jr:List By} {h:List (By×Thing)} (hs:Sto jr h):∃ h0,Sto (jr.filter bareL) h0∧srcOf h0=srcOf h∧h0.map (·.1)=h.map (·.1):=by
 induction hs using Sto.ind with
 |nil=>exact ⟨[],.nil,rfl,rfl⟩
 |@snoc jr t h h' hs hl ih =>
  obtain ⟨h0,i1,i2,i3⟩:=ih
  have hlk:=src_same_look i2
  have hin:bareL t=true→(jr++[t]).filter bareL=jr.filter bareL++[t]:=fun e=>by rw [List.filter_append,List.filter_cons_of_pos e]; rfl
  have hout:bareL t=false→(jr++[t]).filter bareL=jr.filter bareL:=fun e=>by rw [List.filter_append,List.filter_cons_of_neg (by rw [e]; simp)]; simp
  have hlen:h0.length=h.length:=by simpa using congrArg List.length i3
  have hput:∀ (key:By) (th:Thing),(Lard.put h0 key th).map (·.1)=(Lard.put h key th).map (·.1):=fun key th=>by rw [keys_put,keys_put,hlk,i3]
  have hset:∀ (key:By) (o:Option Keep),h0.map (·.1)=(setKept h key o).map (·.1):=fun key o=>by
   rw [i3]
   unfold setKept
   rw [List.map_map]
   exact List.map_congr_left (fun p _=>by show p.1=Prod.fst (if _ then _ else _); split <;> rfl)
  cases hl using Ln.cs with
  |@put key v h1 h2 h3 =>
   refine ⟨_,by rw [hin rfl]; exact i1.snoc (.put h1 h2 (by rw [hlk,hlen]; exact h3)),?_,hput _ _⟩
   funext k
   rw [src_put,src_put,i2]
  |@set key came h1 h2 h3 h4 h5 =>
   refine ⟨_,by rw [hin rfl]; exact i1.snoc (.set h1 h2 h3 h4 (by rw [hlk,hlen]; exact h5)),?_,hput _ _⟩
   funext k
   rw [src_put,src_put,i2]
  |@drop key h1 h2 =>
   refine ⟨_,by rw [hin rfl]; exact i1.snoc (.drop h1 (by rw [hlk]; exact h2)),?_,?_⟩
   ·funext k
    rw [srcOf_del,srcOf_del,i2]
   ·unfold del
    have e:∀ l:List (By×Thing),(l.filter fun p=>!(p.1 == key)).map (·.1)=(l.map (·.1)).filter fun x=>!(x == key):=fun l=>by rw [List.filter_map]; rfl
    rw [e,e,i3]
  |lose h1 h2=>exact ⟨h0,by rw [hout rfl]; exact i1,by rw [srcOf_setKept]; exact i2,hset _ _⟩
  |keep h1 h2 h3 h4 h5=>exact ⟨h0,by rw [hout rfl]; exact i1,by rw [srcOf_setKept]; exact i2,hset _ _⟩
/-! No line has a line feed in it. -/
def No10 (l:By):Prop:=∀ c∈l,c≠10
theorem no10_app {a b:By} (h1:No10 a) (h2:No10 b):No10 (a++b):=fun c hc=>(List.mem_append.1 hc).elim (h1 c) (h2 c)
theorem no10_cons {c:UInt8} {b:By} (h1:c≠10) (h2:No10 b):No10 (c :: b):=fun d hd=>by
 rcases List.mem_cons.1 hd with e | h
 ·rw [e]; exact h1
 ·exact h2 d h
theorem no10_commas:∀ (l:List By),(∀ x∈l,No10 x)→No10 (commas l)
 |[],_=>fun c hc=>by cases hc
 |[a],h=>h a (by simp)
 |a :: b :: r,h=>no10_app (h a (by simp)) (no10_cons (by decide) (no10_commas (b :: r) (fun x hx=>h x (List.mem_cons_of_mem _ hx))))
theorem no10_wr:∀ (n:Nat) (v:V),okV n v→No10 (wr n v)
 |n,⟨.inl i⟩,h=>by
  unfold wr
  exact fun c hc=>(numC_no (itoa_numC i c hc)).2.1
 |n,⟨.inr (.inl b)⟩,h=>by
  unfold okV at h
  unfold wr
  refine no10_cons (by decide) (no10_app (fun c hc e=>?_) (by unfold No10; decide))
  have:=(h.2 c hc).1
  rw [e] at this
  cases this
 |0,⟨.inr (.inr l)⟩,h=>by
  unfold okV at h
  exact h.elim
 |n + 1,⟨.inr (.inr l)⟩,h=>by
  unfold okV at h
  unfold wr
  refine no10_cons (by decide) (no10_app (no10_commas _ (fun x hx=>?_)) (by unfold No10; decide))
  obtain ⟨u,hu,rfl⟩:=List.mem_map.1 hx
  exact no10_wr n u (h.2 u hu)
theorem no10_wo {w:Wo} (h:okWo w):No10 (woText w):=by
 cases w with
 |ok v=>exact no10_wr 3 v h
 |error c =>
  have h1:=h.1
  have h2:=h.2
  have:c=7∨c=8∨c=9∨c=10∨c=11:=by omega
  rcases this with rfl | rfl | rfl | rfl | rfl <;> (unfold No10 woText; decide)
theorem no10_key {k:By} (h:isKey k=true):No10 k:=fun c hc=>(key_bytes h c hc).2.1
theorem name_key {k:By} (h:isName k=true):isKey k=true:=by unfold isKey; rw [h]; rfl
theorem no10_needs {ns:List (By×Wo)} (h:∀ q∈ns,isKey q.1=true∧okWo q.2):No10 (ns.flatMap needText):=by
 intro c hc
 obtain ⟨q,hq,hc⟩:=List.mem_flatMap.1 hc
 exact no10_cons (by decide) (no10_app (no10_key (h q hq).1) (no10_cons (by decide) (no10_wo (h q hq).2))) c hc
theorem kept_reads {t:T} {kp:Keep} (hc:Clo (prog t)) (h:Hon (prog t) [] kp.needs kp.worth) (h4:∀ q∈kp.needs,okWo q.2) (h5:okWo kp.worth):(∀ q∈kp.needs,isKey q.1=true∧okWo q.2)∧rdKeep (woText kp.worth++kp.needs.flatMap needText)=some kp:=by
 have hk:=h.keys hc (fun _ h=>by simp at h) (fun q hq=>(h4 q hq).fine)
 have ha:∀ q∈kp.needs,isKey q.1=true∧okWo q.2:=fun q hq=>⟨hk q hq,h4 q hq⟩
 exact ⟨ha,rdKeep_text kp h5 ha (h.distinct (by simp))⟩
theorem Ln.no10 {h h':List (By×Thing)} {t:By} (hl:Ln h t h') (he:EF (srcOf h)):No10 t:=by
 cases hl using Ln.cs with
 |put h1 h2 h3=>exact no10_app (no10_app (by unfold No10; decide) (no10_key (name_key h1))) (no10_cons (by decide) (no10_wr 3 _ h2))
 |set h1 h2 h3 h4 h5=>exact no10_app (no10_app (by unfold No10; decide) (no10_key (name_key h1))) (no10_cons (by decide) h4)
 |drop h1 h2=>exact no10_app (by unfold No10; decide) (no10_key (name_key h1))
 |lose h1 h2=>exact no10_app (by unfold No10; decide) (no10_key (name_key h1))
 |keep h1 h2 h3 h4 h5 =>
  have:=(kept_reads (he.rule _ _ h2) h3 h4 h5).1
  exact no10_app (no10_app (no10_app (by unfold No10; decide) (no10_key (name_key h1))) (no10_cons (by decide) (no10_wo h5))) (no10_needs this)
end Lard
end
end Go.Proofs.YtpekpdimdelncaaGreatDoor
