/- Out of: Rq, Rl, Cu, J3, Jb. -/
import Derived.Test.YtpekpdimdelncaaGreatDoorP39
import Derived.Lib.IndexMore
import Derived.Test.YtpekpdimdelncaaGreatDoorP07
import Derived.Lib.RabinKarpLaws
import Derived.Test.YtpekpdimdelncaaGreatDoorP35
set_option linter.unusedVariables false
set_option linter.unusedSimpArgs false
namespace Go.Proofs.YtpekpdimdelncaaGreatDoor
namespace Lard
/-! What a thing that came by a line looks like. -/
structure ThOk (th:Thing):Prop where
 form:(th.tree=none∧th.came=[]∧okV 3 th.value)∨(th.value=vn 0∧th.tree=some (treeOf th.came)∧check th.came=(0,0)∧(treeOf th.came).kind≠0∧No10 th.came)
 kept:∀ kp,th.kept=some kp→(∃ t,th.tree=some t∧Hon (prog t) [] kp.needs kp.worth)∧(∀ q∈kp.needs,okWo q.2)∧okWo kp.worth
def HsOk (h:List (By×Thing)):Prop:=∀ k th,look h k=some th→isName k=true∧ThOk th
theorem HsOk.setKept {h:List (By×Thing)} (hh:HsOk h) {key:By} {o:Option Keep} (ho:∀ th kp,look h key=some th→o=some kp→(∃ t,th.tree=some t∧Hon (prog t) [] kp.needs kp.worth)∧(∀ q∈kp.needs,okWo q.2)∧okWo kp.worth):HsOk (Lard.setKept h key o):=by
 intro k th hl
 rw [look_setKept] at hl
 split at hl
 ·rename_i e
  subst e
  cases h1:look h key with
  |none=>rw [h1] at hl; cases hl
  |some th' =>
   rw [h1] at hl
   cases hl
   obtain ⟨a,b⟩:=hh key th' h1
   exact ⟨a,b.form,fun kp hk=>ho th' kp h1 hk⟩
 ·exact hh k th hl
theorem Sto.ok {jr:List By} {h:List (By×Thing)} (hs:Sto jr h):HsOk h:=by
 induction hs using Sto.ind with
 |nil=>exact fun k th hl=>by cases hl
 |@snoc jr t h h' hs hl ih =>
  have hput:∀ {key:By} {th:Thing},isName key=true→ThOk th→HsOk (put h key th):=fun {key th} h1 h2 k th' hk=>by
   rw [look_put] at hk
   split at hk
   ·rename_i e
    cases hk
    exact ⟨e ▸ h1,h2⟩
   ·exact ih k th' hk
  cases hl using Ln.cs with
  |put h1 h2 h3=>exact hput h1 ⟨.inl ⟨rfl,rfl,h2⟩,fun _ e=>by cases e⟩
  |set h1 h2 h3 h4 h5=>exact hput h1 ⟨.inr ⟨rfl,rfl,h2,h3,h4⟩,fun _ e=>by cases e⟩
  |drop h1 h2 =>
   intro k th hk
   rw [look_del] at hk
   split at hk
   ·cases hk
   ·exact ih k th hk
  |lose h1 h2=>exact ih.setKept (fun _ _ _ e=>by cases e)
  |@keep key t kp h1 h2 h3 h4 h5 =>
   refine ih.setKept (fun th kp' hl e=>?_)
   cases e
   refine ⟨⟨t,?_,h3⟩,h4,h5⟩
   rw [look_src hl] at h2
   cases ht:th.tree with
   |none=>rw [ht] at h2; cases h2
   |some t'=>rw [ht] at h2; cases h2; rfl
/-! Packed. -/
def Thing.plain (th:Thing):Thing:={ th with kept:=none }
theorem text_plain (key:By) (th:Thing):thingText key th.plain=thingText key th:=by
 unfold thingText Thing.plain
 rfl
theorem snoc_ind {α:Type} {P:List α→Prop} (h0:P []) (h1:∀ l a,P l→P (l++[a])) (l:List α):P l:=by
 rw [←List.reverse_reverse l]
 induction l.reverse with
 |nil=>exact h0
 |cons a r ih=>rw [List.reverse_cons]; exact h1 _ _ ih
theorem Sto.puts {jr:List By} (hs:Sto jr []) (l:List (By×Thing)):(∀ p∈l,isName p.1=true∧ThOk p.2)→(l.map (·.1)).Nodup→l.length≤40→Sto (jr++l.map fun p=>thingText p.1 p.2) (l.map fun p=>(p.1,p.2.plain)):=by
 refine snoc_ind (P:=fun l=>(∀ p∈l,isName p.1=true∧ThOk p.2)→(l.map (·.1)).Nodup→l.length≤40→Sto (jr++l.map fun p=>thingText p.1 p.2) (l.map fun p=>(p.1,p.2.plain))) ?_ ?_ l
 ·intro _ _ _
  simpa using hs
 ·intro l p ih h1 h2 h3
  rw [List.map_append,List.nodup_append] at h2
  simp only [List.length_append,List.length_cons,List.length_nil] at h3
  have h4:=ih (fun q hq=>h1 q (List.mem_append_left _ hq)) h2.1 (by omega)
  obtain ⟨hn,hok⟩:=h1 p (by simp)
  have hnew:look (l.map fun p=>(p.1,p.2.plain)) p.1=none:=look_none.2 (fun q hq e=>by
   obtain ⟨r,hr,rfl⟩:=List.mem_map.1 hq
   exact h2.2.2 r.1 (List.mem_map.2 ⟨r,hr,rfl⟩) p.1 (by simp) e)
  have hput:Lard.put (l.map fun p=>(p.1,p.2.plain)) p.1 p.2.plain=(l++[p]).map fun p=>(p.1,p.2.plain):=by
   unfold Lard.put
   rw [hnew]
   simp
  have hroom:(look (l.map fun p=>(p.1,p.2.plain)) p.1).isSome=true∨(l.map fun p=>(p.1,p.2.plain)).length < 40:=.inr (by rw [List.length_map]; omega)
  have hln:Ln (l.map fun p=>(p.1,p.2.plain)) (thingText p.1 p.2) ((l++[p]).map fun p=>(p.1,p.2.plain)):=by
   rw [←hput,←text_plain]
   obtain ⟨k,v,tr,cm,kp⟩:=p
   rcases hok.form with ⟨e1,e2,e3⟩ | ⟨e1,e2,e3,e4,e5⟩
   ·have e1:tr=none:=e1
    have e2:cm=[]:=e2
    subst e1 e2
    exact .put hn e3 hroom
   ·have f1:v=vn 0:=e1
    have f2:tr=some (treeOf cm):=e2
    clear e1 e2
    subst f1 f2
    exact .set hn e3 e4 e5 hroom
  have:=h4.snoc hln
  rw [List.map_append,←List.append_assoc]
  exact this
def keepLines (l:List (By×Thing)):List By:=l.flatMap fun p=>match p.2.kept with | none=>[] | some kp=>[keepText p.1 kp]
theorem Sto.keeps {jr:List By} (l:List (By×Thing)) (hs:Sto jr (l.map fun p=>(p.1,p.2.plain))) (h1:∀ p∈l,isName p.1=true∧ThOk p.2) (h2:(l.map (·.1)).Nodup):∀ n,n≤l.length→Sto (jr++keepLines (l.take n)) (l.take n++(l.drop n).map fun p=>(p.1,p.2.plain))
 |0,_=>by simpa [keepLines] using hs
 |n + 1,hn=>by
  have ih:=Sto.keeps l hs h1 h2 n (by omega)
  obtain ⟨p,hp⟩:∃ p,l[n]? = some p:=⟨_,List.getElem?_eq_getElem (by omega)⟩
  have hd:l.drop n=p :: l.drop (n + 1):=by
   rw [List.drop_eq_getElem_cons (by omega)]
   have:=List.getElem?_eq_some_iff.1 hp
   rw [this.2]
  have ht:l.take (n + 1)=l.take n++[p]:=by rw [List.take_add_one,hp]; rfl
  rw [ht]
  rw [hd,List.map_cons] at ih
  have hk:keepLines (l.take n++[p])=keepLines (l.take n)++(match p.2.kept with | none=>[] | some kp=>[keepText p.1 kp]):=by
   unfold keepLines
   rw [List.flatMap_append]
   simp
  rw [hk]
  obtain ⟨k,v,tr,cm,kp⟩:=p
  cases kp with
  |none =>
   have e:(⟨v,tr,cm,none⟩:Thing).plain=⟨v,tr,cm,none⟩:=rfl
   simp only [e] at ih
   simpa using ih
  |some kp =>
   have hmem:=List.mem_of_getElem? hp
   obtain ⟨hname,hok⟩:=h1 _ hmem
   obtain ⟨⟨t,ht1,ht2⟩,hw1,hw2⟩:=hok.kept kp rfl
   have ht1:tr=some t:=ht1
   subst ht1
   have hl:l=l.take n++(k,⟨v,some t,cm,some kp⟩) :: l.drop (n + 1):=by rw [←hd,List.take_append_drop]
   have hnd:(l.take n).map (·.1)++k :: (l.drop (n + 1)).map (·.1)=l.map (·.1):=by
    have:=congrArg (fun l=>l.map (·.1)) hl.symm
    simpa using this
   rw [←hnd,List.nodup_append] at h2
   have hn1:∀ q∈l.take n,q.1≠k:=fun q hq e=>h2.2.2 q.1 (List.mem_map.2 ⟨q,hq,rfl⟩) k (by simp) e
   have hn2:∀ q∈l.drop (n + 1),q.1≠k:=fun q hq e=>(List.nodup_cons.1 h2.2.1).1 (e ▸ List.mem_map.2 ⟨q,hq,rfl⟩)
   have hset:setKept (l.take n++(k,(⟨v,some t,cm,some kp⟩:Thing).plain) :: (l.drop (n + 1)).map fun p=>(p.1,p.2.plain)) k (some kp)=l.take n++[(k,⟨v,some t,cm,some kp⟩)]++(l.drop (n + 1)).map fun p=>(p.1,p.2.plain):=by
    unfold setKept
    rw [List.map_append,List.map_cons,List.append_assoc]
    congr 1
    ·conv=>rhs; rw [←List.map_id (l.take n)]
     exact List.map_congr_left (fun q hq=>by simp [hn1 q hq])
    ·rw [List.singleton_append]
     congr 1
     ·simp [Thing.plain]
     ·rw [List.map_map]
      exact List.map_congr_left (fun q hq=>by simp [hn2 q hq])
   rw [←hset,←List.append_assoc]
   refine ih.snoc (.keep (t:=t) hname ?_ ht2 hw1 hw2)
   have:look (l.take n++(k,(⟨v,some t,cm,some kp⟩:Thing).plain) :: (l.drop (n + 1)).map fun p=>(p.1,p.2.plain)) k=some (⟨v,some t,cm,some kp⟩:Thing).plain:=by
    rw [look_append,look_none.2 hn1,look_cons,if_pos rfl]
    rfl
   rw [look_src this]
   rfl
def packLines (l:List (By×Thing)):List By:=(l.map fun p=>thingText p.1 p.2)++keepLines l
theorem Sto.packed (l:List (By×Thing)) (h1:∀ p∈l,isName p.1=true∧ThOk p.2) (h2:(l.map (·.1)).Nodup) (h3:l.length≤40):Sto (packLines l) l:=by
 have a:=Sto.puts .nil l h1 h2 h3
 have b:=Sto.keeps l a h1 h2 l.length (Nat.le_refl _)
 rw [List.take_length,List.drop_length,List.map_nil,List.append_nil,List.nil_append] at b
 exact b
end Lard
namespace Lard
def not10 (c:UInt8):Bool:=!(c == 10)
def firstL (l:By):Option (By×By) :=
 if lead not10 l < l.length∧9≤lead not10 l∧line (l.take (lead not10 l - 9))=l.take (lead not10 l + 1) then some (l.take (lead not10 l - 9),l.drop (lead not10 l + 1)) else none
theorem hexDig_no:∀ n,n < 16→hexDig n≠10:=by
 have:∀ n,n < 16→hexDig n≠10:=by decide +kernel
 exact this
theorem hex8_len (n:Nat):(hex8 n).length=8:=by unfold hex8; simp
theorem no10_hex8 (n:Nat):No10 (hex8 n):=by
 intro c hc
 unfold hex8 at hc
 obtain ⟨i,_,rfl⟩:=List.mem_map.1 hc
 exact hexDig_no _ (Nat.mod_lt _ (by omega))
def body (t:By):By:=t++32 :: hex8 (sum32 t)
theorem line_body (t:By):line t=body t++[10]:=by unfold line body; simp
theorem body_len (t:By):(body t).length=t.length + 9:=by unfold body; simp [hex8_len]
theorem line_len (t:By):(line t).length=t.length + 10:=by rw [line_body,List.length_append,body_len]; rfl
theorem no10_body {t:By} (h:No10 t):No10 (body t):=no10_app h (no10_cons (by decide) (no10_hex8 _))
theorem not10_all {a:By} (h:No10 a):∀ c∈a,not10 c=true:=fun c hc=>by
 unfold not10
 simpa using h c hc
theorem lead_none {a:By} (h:No10 a):lead not10 a=a.length:=by
 have:=lead_app not10 a [] (not10_all h) (fun c hc=>by cases hc)
 rwa [List.append_nil] at this
theorem lead_line {t:By} (h:No10 t) (r:By):lead not10 (line t++r)=t.length + 9:=by
 rw [line_body,List.append_assoc,lead_app not10 (body t) _ (not10_all (no10_body h)) (fun c hc=>by cases hc; rfl),body_len]
theorem firstL_line {t:By} (h:No10 t) (r:By):firstL (line t++r)=some (t,r):=by
 unfold firstL
 have e1:(line t++r).take (t.length + 9 - 9)=t:=by
  rw [show t.length + 9 - 9=t.length by omega,line_body]
  unfold body
  rw [List.append_assoc,List.append_assoc,List.take_left']
  rfl
 have e2:(line t++r).take (t.length + 9 + 1)=line t:=List.take_left' (by rw [line_len])
 have e3:(line t++r).drop (t.length + 9 + 1)=r:=List.drop_left' (by rw [line_len])
 rw [lead_line h,e1,e2,e3,if_pos]
 refine ⟨?_,by omega,rfl⟩
 rw [List.length_append,line_len]
 omega
theorem firstL_part {p:By} (h:No10 p):firstL p=none:=by
 unfold firstL
 rw [lead_none h,if_neg (fun hc=>by have:=hc.1; omega)]
theorem cut_at:∀ (jr:List By),(∀ t∈jr,No10 t)→∀ k,k≤(jr.flatMap line).length→∃ i p,i≤jr.length∧(jr.flatMap line).take k=(jr.take i).flatMap line++p∧No10 p
 |[],_,k,_=>⟨0,[],Nat.le_refl _,by simp,fun c hc=>by cases hc⟩
 |t :: jr,h,k,hk=>by
  by_cases hlt:k < (line t).length
  ·refine ⟨0,(body t).take k,Nat.zero_le _,?_,fun c hc=>no10_body (h t (by simp)) c (List.mem_of_mem_take hc)⟩
   rw [List.flatMap_cons,List.take_append_of_le_length (by omega),line_body,List.take_append_of_le_length (by rw [line_len] at hlt; rw [body_len]; omega)]
   simp
  ·rw [List.flatMap_cons,List.length_append] at hk
   obtain ⟨i,p,h1,h2,h3⟩:=cut_at jr (fun u hu=>h u (List.mem_cons_of_mem _ hu)) (k - (line t).length) (by omega)
   refine ⟨i + 1,p,by simp; omega,?_,h3⟩
   rw [List.flatMap_cons,List.take_append,List.take_of_length_le (by omega),h2,List.take_succ_cons,List.flatMap_cons,List.append_assoc]
theorem lines_end (jr:List By):jr.flatMap line=[]∨(jr.flatMap line)[(jr.flatMap line).length - 1]? = some 10:=by
 refine snoc_ind (P:=fun jr=>jr.flatMap line=[]∨(jr.flatMap line)[(jr.flatMap line).length - 1]? = some 10) (.inl rfl) (fun l t _=>.inr ?_) jr
 rw [List.flatMap_append]
 simp only [List.flatMap_cons,List.flatMap_nil,List.append_nil]
 rw [line_body,←List.append_assoc,List.length_append]
 simp
theorem whole_is {A p:By} (hA:A=[]∨A[A.length - 1]? = some 10) (hp:No10 p) {wh:Nat} (h1:wh≤(A++p).length) (h2:∀ j,wh≤j→(A++p)[j]? ≠ some 10) (h3:wh=0∨(A++p)[wh - 1]? = some 10):wh=A.length:=by
 rcases Nat.lt_trichotomy wh A.length with h | h | h
 ·rcases hA with e | e
  ·rw [e] at h; simp at h
  ·exact absurd (by rw [List.getElem?_append_left (by omega)]; exact e) (h2 (A.length - 1) (by omega))
 ·exact h
 ·rcases h3 with e | e
  ·omega
  ·rw [List.getElem?_append_right (by omega)] at e
   exact absurd rfl (hp 10 (List.mem_of_getElem? e))
/-! The lines but for those that keep or lose. -/
def putsF:By→By→By→By
 |[],_,out=>out
 |c :: r,cur,out=>if c=10 then putsF r [] (if bareL cur=true then out++(cur++[10]) else out) else putsF r (cur++[c]) out
theorem putsF_run:∀ (a:By),No10 a→∀ (cur out r:By),putsF (a++r) cur out=putsF r (cur++a) out
 |[],_,cur,out,r=>by simp
 |c :: a,h,cur,out,r=>by
  rw [List.cons_append,putsF,if_neg (h c (by simp)),putsF_run a (fun d hd=>h d (List.mem_cons_of_mem _ hd))]
  simp
theorem bare_body (t:By):bareL (body t)=bareL t:=by
 unfold bareL body
 cases t <;> rfl
theorem putsF_lines:∀ (jr:List By),(∀ t∈jr,No10 t)→∀ (out:By),putsF (jr.flatMap line) [] out=out++(jr.filter bareL).flatMap line
 |[],_,out=>by simp [putsF]
 |t :: jr,h,out=>by
  rw [List.flatMap_cons,line_body,List.append_assoc,putsF_run _ (no10_body (h t (by simp))),List.nil_append,List.cons_append,List.nil_append,putsF,if_pos rfl,bare_body,putsF_lines jr (fun u hu=>h u (List.mem_cons_of_mem _ hu)),←line_body]
  cases hb:bareL t with
  |true=>rw [if_pos rfl,List.filter_cons_of_pos hb,List.flatMap_cons,List.append_assoc]
  |false=>rw [if_neg (by simp),List.filter_cons_of_neg (by rw [hb]; simp)]
end Lard
namespace Lard
def upto (c:UInt8) (l:By):Nat:=lead (fun x=>!(x == c)) l
theorem index_one (c:UInt8):∀ l:By,Lib.index l [c]=if upto c l < l.length then (upto c l:Int) else -1
 |[]=>rfl
 |b :: l=>by
  have ih:=index_one c l
  unfold Lib.index
  by_cases h:b=c
  ·subst h
   have e1:([b]:By).isPrefixOf (b :: l)=true:=by simp [List.isPrefixOf]
   have e2:upto b (b :: l)=0:=by simp [upto,lead]
   rw [if_pos e1,e2,if_pos (by simp)]
   rfl
  ·have e1:([c]:By).isPrefixOf (b :: l)=false:=by simp [List.isPrefixOf]; exact fun e=>h e.symm
   have e2:upto c (b :: l)=upto c l + 1:=by simp [upto,lead,h]
   rw [if_neg (by rw [e1]; simp),e2,ih]
   by_cases hl:upto c l < l.length
   ·rw [if_pos hl,if_neg (by intro h0; have:=eq_of_beq h0; omega),if_pos (by rw [List.length_cons]; omega)]
    omega
   ·rw [if_neg hl,if_pos (by rfl),if_neg (by rw [List.length_cons]; omega)]
theorem cut_one (c:UInt8) (l:By):Lib.cut l [c]=if upto c l < l.length then (l.take (upto c l),l.drop (upto c l + 1),true) else (l,[],false):=by
 unfold Lib.cut
 rw [index_one]
 by_cases hl:upto c l < l.length
 ·rw [if_pos hl,if_pos hl,if_pos (by omega)]
  rfl
 ·rw [if_neg hl,if_neg hl,if_neg (by omega)]
theorem cut_there {c:UInt8} {a r:By} (h:∀ x∈a,x≠c):Lib.cut (a++c :: r) [c]=(a,r,true):=by
 have e:upto c (a++c :: r)=a.length:=lead_app _ a _ (fun x hx=>by simpa using h x hx) (fun x hx=>by cases hx; simp)
 rw [cut_one,e,if_pos (by simp),List.take_left' rfl,show a++c :: r=(a++[c])++r by simp,List.drop_left' (by simp)]
theorem cut_not {c:UInt8} {a:By} (h:∀ x∈a,x≠c):Lib.cut a [c]=(a,[],false):=by
 have e:upto c a=a.length:=by
  have:=lead_app (fun x=>!(x == c)) a [] (fun x hx=>by simpa using h x hx) (fun x hx=>by cases hx)
  rwa [List.append_nil] at this
 rw [cut_one,e,if_neg (by omega)]
theorem takeWhile_lead (p:UInt8→Bool):∀ l:By,l.takeWhile p=l.take (lead p l)
 |[]=>rfl
 |c :: r=>by
  by_cases h:p c=true
  ·rw [List.takeWhile_cons_of_pos h,takeWhile_lead p r]
   simp [lead,h]
  ·rw [List.takeWhile_cons_of_neg h]
   simp [lead,h]
theorem cut_tw (c:UInt8) (l:By):(Lib.cut l [c]).1=l.takeWhile (fun x=>!(x == c))∧(Lib.cut l [c]).2.1=l.drop ((l.takeWhile fun x=>!(x == c)).length + 1):=by
 have hle:upto c l≤l.length:=lead_le _ _
 have e:l.takeWhile (fun x=>!(x == c))=l.take (upto c l):=takeWhile_lead _ _
 have e2:(l.take (upto c l)).length=upto c l:=by rw [List.length_take]; omega
 rw [cut_one,e,e2]
 by_cases hl:upto c l < l.length
 ·rw [if_pos hl]
  exact ⟨rfl,rfl⟩
 ·have he:upto c l=l.length:=by omega
  rw [if_neg hl,he]
  exact ⟨(List.take_length).symm,(List.drop_eq_nil_of_le (by omega)).symm⟩
end Lard
section
set_option maxRecDepth 100000
set_option maxHeartbeats 1000000
open Go.RowKit Go.Shelf
theorem drop_byte (s:ByteArray) {i:Nat} (hi:i < s.size):s.data.toList.drop i=s[i] :: s.data.toList.drop (i + 1):=by
 have h':i < s.data.toList.length:=by simpa using hi
 rw [List.drop_eq_getElem_cons h']
 rw [byte_at' s i hi h']
theorem seg_snoc (s:ByteArray) {f i:Nat} (hf:f≤i) (hi:i < s.size):(s.data.toList.take (i + 1)).drop f=(s.data.toList.take i).drop f++[s[i]]:=by
 rw [List.take_add_one,byte_at s i hi,List.drop_append_of_le_length (by
  rw [List.length_take]
  have:i < s.data.toList.length:=by simpa using hi
  omega)]
 rfl
theorem seg_head (s:ByteArray) {f i:Nat} (hf:f≤i) (hi:i < s.size) (h10:s[i].toNat=10):Lard.bareL ((s.data.toList.take i).drop f)=((s[f].toNat:Int) != 107 && (s[f].toNat:Int) != 108):=by
 by_cases e:f=i
 ·subst e
  have:(s.data.toList.take f).drop f=[]:=by
   apply List.drop_eq_nil_of_le
   rw [List.length_take]
   omega
  rw [this,h10]
  rfl
 ·have hlt:f < i:=by omega
  have hh:((s.data.toList.take i).drop f).head? = some s[f]:=by
   rw [List.head?_drop,List.getElem?_take_of_lt hlt,byte_at s f (by omega)]
  unfold Lard.bareL
  rw [hh]
  have key:∀ (c d:UInt8),(!(some c == some d))=((c.toNat:Int) != (d.toNat:Int)):=fun c d=>by
   by_cases h:c=d
   ·subst h; simp
   ·have:¬ c.toNat=d.toNat:=fun e=>h (UInt8.toNat_inj.1 e)
    have h2:¬ (c.toNat:Int)=(d.toNat:Int):=by omega
    have e1:(some c == some d)=false:=by simpa using h
    have e2:((c.toNat:Int) != (d.toNat:Int))=true:=by simpa using h2
    rw [e1,e2]
    rfl
  rw [key,key]
  rfl
theorem puts_any (s:ByteArray) (w:World) (hs:s.size≤1000000) :
  Calls Tryz.prog 35 #[.string s] w fun e w'=>e=.returned (str (Lard.putsF s.data.toList [] []))∧w'=w:=by
 have H0:Hid (Lard.putsF (s.data.toList.drop 0) ((s.data.toList.take 0).drop 0) (⟨#[]⟩:ByteArray).data.toList=Lard.putsF s.data.toList [] []):=hide rfl
 generalize Lard.putsF s.data.toList [] []=R at H0
 go_enter Tryz.func35,Tryz.ntmps35
 go_wp2_with fail
 go_loopw [3,4,5] (fun ov fv iv wr=>∃ (i f:Nat) (ob:ByteArray),i≤s.size∧f≤i∧ob.size≤f∧ov=.string ob∧fv=.int .i64 f∧iv=.int .i64 i∧wr=w∧Hid (Lard.putsF (s.data.toList.drop i) ((s.data.toList.take i).drop f) ob.data.toList=R)) (fun _ _ iv _=>s.size - (intOf iv).toNat)
 case atStart=>exact ⟨0,0,⟨#[]⟩,Nat.zero_le _,Nat.le_refl _,Nat.le_refl _,rfl,rfl,rfl,rfl,H0⟩
 case round =>
  obtain ⟨i,f,ob,hi,hf,hob,rfl,rfl,rfl,hwr,HX⟩:=hrel
  obtain rfl:=hwr.symm
  clear H0
  by_cases hlt:i < s.size
  ·have hfs:f < s.size:=by omega
   have hfi:(f:Int)≤(i:Int):=by omega
   have hd:=drop_byte s hlt
   by_cases h10:s[i].toNat=10
   ·have hb10:((s[i].toNat:Int) != 10)=false:=by rw [h10]; rfl
    have hc:s[i]=10:=UInt8.toNat_inj.1 h10
    have hsg:=seg_head s hf hlt h10
    have hx:=HX.out
    rw [hd,Lard.putsF,if_pos hc] at hx
    have hseg:=seg_snoc s hf hlt
    rw [hc] at hseg
    have hnil:(s.data.toList.take (i + 1)).drop (i + 1)=[]:=List.drop_eq_nil_of_le (by rw [List.length_take]; omega)
    have hext:(s.extract f (i + 1)).data.toList=(s.data.toList.take (i + 1)).drop f:=by
     rw [Lib.extract_data,List.drop_take]
    by_cases h7:s[f].toNat=107
    ·have hb7:((s[f].toNat:Int) != 107)=false:=by rw [h7]; rfl
     rw [hsg,hb7] at hx
     simp only [Bool.false_and,Bool.false_eq_true,if_false] at hx
     have HX2:Hid (Lard.putsF (s.data.toList.drop (i + 1)) ((s.data.toList.take (i + 1)).drop (i + 1)) ob.data.toList=R):=hide (by rw [hnil]; exact hx)
     clear hx HX hsg hd hseg hnil hext
     go_wp2_with fail
     refine ⟨⟨i + 1,i + 1,ob,by omega,Nat.le_refl _,by omega,rfl,by go_num,by go_num,trivial,HX2⟩,?_⟩
     simp [intOf]; omega
    ·have hb7:((s[f].toNat:Int) != 107)=true:=by simp; omega
     by_cases h8:s[f].toNat=108
     ·have hb8:((s[f].toNat:Int) != 108)=false:=by rw [h8]; rfl
      rw [hsg,hb7,hb8] at hx
      simp only [Bool.and_false,Bool.false_eq_true,if_false] at hx
      have HX2:Hid (Lard.putsF (s.data.toList.drop (i + 1)) ((s.data.toList.take (i + 1)).drop (i + 1)) ob.data.toList=R):=hide (by rw [hnil]; exact hx)
      clear hx HX hsg hd hseg hnil hext
      go_wp2_with fail
      refine ⟨⟨i + 1,i + 1,ob,by omega,Nat.le_refl _,by omega,rfl,by go_num,by go_num,trivial,HX2⟩,?_⟩
      simp [intOf]; omega
     ·have hb8:((s[f].toNat:Int) != 108)=true:=by simp; omega
      rw [hsg,hb7,hb8] at hx
      simp only [Bool.and_self,if_true] at hx
      have HX2:Hid (Lard.putsF (s.data.toList.drop (i + 1)) ((s.data.toList.take (i + 1)).drop (i + 1)) (ob++s.extract f (i + 1)).data.toList=R):=hide (by
       rw [hnil,ByteArray.data_append,Array.toList_append,hext,hseg]
       exact hx)
      have hexs:(s.extract f (i + 1)).size=i + 1 - f:=by rw [Lib.size_eq,hext]; simp; omega
      have hsm:(ob.size:Int) + ((min (i + 1) s.size - f:Nat):Int)≤9223372036854775807:=by omega
      have hcs:(ob++s.extract f (i + 1)).size≤i + 1:=by rw [ByteArray.size_append,hexs]; omega
      clear hx HX hsg hd hseg hnil hext hexs
      go_wp2_with fail
      refine ⟨⟨i + 1,i + 1,_,by omega,Nat.le_refl _,hcs,rfl,by go_num,by go_num,trivial,HX2⟩,?_⟩
      simp [intOf]; omega
   ·have hb10:((s[i].toNat:Int) != 10)=true:=by simp; omega
    have HX2:Hid (Lard.putsF (s.data.toList.drop (i + 1)) ((s.data.toList.take (i + 1)).drop f) ob.data.toList=R):=hide (by
     have hx:=HX.out
     rw [hd,Lard.putsF,if_neg (fun e=>h10 (by rw [e]; rfl))] at hx
     rw [seg_snoc s hf hlt]
     exact hx)
    clear HX hd
    go_wp2_with fail
    refine ⟨⟨i + 1,f,ob,by omega,by omega,hob,rfl,rfl,by go_num,trivial,HX2⟩,?_⟩
    simp [intOf]; omega
  ·have hin:¬ (i:Int) < (s.size:Int):=by omega
   have hx:=HX.out
   rw [List.drop_eq_nil_of_le (by simp; omega)] at hx
   have hoR:ob.data.toList=R:=hx
   have HE:Hid (str R=.string ob):=hide (by rw [←hoR]; rfl)
   clear HX hx hoR
   go_wp2_with fail
   go_ret
   exact ⟨by rw [HE.out]; rfl,rfl⟩
end
section
open Go.RowKit Go.Shelf
theorem LaPost.from {w w1 w':World} {lb:Nat} {s:Lard.LS} {L:Nat→Prop} {N:Nat} (hB:Below w.heap.size w w1) (h:LaPost w1 lb L s N w'):LaPost w lb L s N w':=by
 obtain ⟨L',a,b,c,d⟩:=h
 exact ⟨L',a,fun k hk=>(b k hk).imp id (fun h=>Nat.le_trans hB.size h),c,(Frm.below hB).trans d (fun k hk=>.inl hk)⟩
theorem LaPost.then {w w1:World} {lb:Nat} {s:Lard.LS} {L:Nat→Prop} {N:Nat} (h:LaPost w lb L s N w1):∃ L1,La w1 lb s L1 N∧(∀ k,L1 k→L k∨w.heap.size≤k)∧∀ q M w2,LaPost w1 lb L1 q M w2→LaPost w lb L q M w2:=by
 obtain ⟨L1,h1,h2,h3,h4⟩:=h
 refine ⟨L1,h1,h2,fun q M w2 hp=>?_⟩
 obtain ⟨L2,g1,g2,g3,g4⟩:=hp
 refine ⟨L2,g1,fun k hk=>?_,fun k hk=>g3 k (h3 k hk),h4.trans g4 (fun k hk=>h2 k hk)⟩
 rcases g2 k hk with h | h
 ·exact h2 k h
 ·exact .inr (Nat.le_trans h4.size h)
theorem La.self {w:World} {lb:Nat} {s:Lard.LS} {L:Nat→Prop} {N:Nat} (h:La w lb s L N):LaPost w lb L s N w:=⟨L,h,fun _ h=>.inl h,fun _ h=>h,Frm.refl _ _⟩
theorem LaPost.le {w w1:World} {lb:Nat} {s:Lard.LS} {L:Nat→Prop} {N M:Nat} (h:LaPost w lb L s N w1) (hM:N≤M):LaPost w lb L s M w1:=by
 obtain ⟨L1,h1,h2⟩:=h
 exact ⟨L1,h1.le hM,h2⟩
theorem jr_snoc (jr:List (List UInt8)) (t:List UInt8):(jbytes (jr++[t])).length=(jbytes jr).length + t.length + 10:=by
 rw [jbytes_snoc,List.length_append,line_len]
 omega
theorem byteOf (l:List UInt8):∃ b:ByteArray,b.data.toList=l:=⟨⟨l.toArray⟩,by simp⟩
theorem la_write {w:World} {lb:Nat} {s:Lard.LS} {L:Nat→Prop} {N:Nat} (h:La w lb s L N) (t:ByteArray) (ht:t.size≤1000000000) (hN:N≤10000000000000) :
  Calls Tryz.prog 59 #[ptr lb,.string t] w fun e w'=>e=.returned (.tuple #[])∧LaPost w lb L (s.write t.data.toList) (N + t.size + 10) w':=by
 have hj:(jbytes (s.jr++[t.data.toList])).length≤N + t.size + 10:=by
  rw [jr_snoc,←size_data]
  have:=h.jr
  omega
 refine (write_any w lb s L t h.lat h.g h.deb (by omega) (by omega)).mono ?_
 rintro e w' ⟨rfl,hP⟩
 exact ⟨rfl,h.post hP.weak (h.sound.fields rfl rfl) hj⟩
theorem LP.jrNil {w:World} {lb:Nat} {s:Lard.LS} {L:Nat→Prop} {hb db:Nat} {vb vr vn vj:Value} (h:LP w lb s L hb db vb vr vn vj) (g:G w):LPost w lb L { s with jr:=[] } (w.setCell ⟨lb,5,none⟩ (.slice none 0 0)):=by
 have ht:Tn 9 w w none:=tn_below (Below.refl _ _)
 refine h.turned 9 none ht (.inr (.inl rfl)) (by decide) (by decide) (by decide) (by decide) (fun b hb=>by cases hb) (fun k=>False) (fun k hk=>hk.elim) g 5 _ rfl rfl rfl h.begun h.ring h.ran ⟨rfl,.inl ⟨rfl,rfl⟩⟩ (fun k hk=>?_) h.apart h.rnil
 rcases hk with hk | hk | hk | hk
 ·exact .inl (h.mine k (.inl hk))
 ·exact .inl (h.mine k (.inr (.inl hk)))
 ·exact .inl (h.mine k (.inr (.inr (.inl hk))))
 ·cases hk
theorem perm_lift {α β:Type} (f:α→β) {ks m:List β} (h:ks.Perm m):∀ {l:List α},m=l.map f→∃ l':List α,l'.Perm l∧l'.map f=ks:=by
 induction h with
 |nil =>
  intro l hl
  cases l with
  |nil=>exact ⟨[],.refl _,rfl⟩
  |cons a l=>cases hl
 |cons x _ ih =>
  intro l hl
  cases l with
  |nil=>cases hl
  |cons a l =>
   rw [List.map_cons] at hl
   injection hl with h1 h2
   obtain ⟨l',p,e⟩:=ih h2
   exact ⟨a :: l',p.cons a,by rw [List.map_cons,e,h1]⟩
 |swap x y r =>
  intro l hl
  match l,hl with
  |[],hl=>cases hl
  |[a],hl=>cases hl
  |a :: b :: l,hl =>
   simp only [List.map_cons,List.cons.injEq] at hl
   obtain ⟨h1,h2,h3⟩:=hl
   exact ⟨b :: a :: l,List.Perm.swap a b l,by simp only [List.map_cons]; rw [h1,h2,h3]⟩
 |trans _ _ ih1 ih2 =>
  intro l hl
  obtain ⟨l1,p1,e1⟩:=ih2 hl
  obtain ⟨l2,p2,e2⟩:=ih1 e1.symm
  exact ⟨l2,p2.trans p1,e2⟩
theorem has_nodup {w:World} {L:Nat→Prop} {hb:Nat} {has:List (List UInt8×Lard.Thing)} (h:HasAt w L hb has):(has.map (·.1)).Nodup:=by
 obtain ⟨hp,h1,h2,_⟩:=h
 have:=h2.nodup
 rw [h1]
 simpa [List.map_map,Function.comp_def] using this
theorem has_keys {w:World} {L:Nat→Prop} {hb:Nat} {has:List (List UInt8×Lard.Thing)} (h:HasAt w L hb has):∃ l:List (List UInt8×Value),MapAt w hb l∧l.map (·.1)=has.map (·.1):=by
 obtain ⟨hp,h1,h2,_⟩:=h
 exact ⟨_,h2,by rw [h1]; simp [List.map_map,Function.comp_def]⟩
end
end Go.Proofs.YtpekpdimdelncaaGreatDoor
