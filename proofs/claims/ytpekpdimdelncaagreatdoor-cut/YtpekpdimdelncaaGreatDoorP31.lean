/- Out of: X8, X9, X10. -/
import Derived.Test.YtpekpdimdelncaaGreatDoorP09
import Derived.Test.YtpekpdimdelncaaGreatDoorP06
set_option linter.unusedSimpArgs false
set_option linter.unusedVariables false
namespace Go.Proofs.YtpekpdimdelncaaGreatDoor
section
set_option maxRecDepth 100000
set_option maxHeartbeats 1000000
open Go.RowKit
theorem IsTree.up {w:World}:∀ {n:Nat} {t:Lard.T} {x:Value},IsTree w n t x→IsTree w (n + 1) t x
 |0,_,_,h=>h.elim
 |_ + 1,_,_,⟨b,i,s,qs,fz,h1,h2,h3,h4,h5,h6⟩=>⟨b,i,s,qs,fz,h1,h2,h3,h4,h5,fun j u q hu hq=>IsTree.up (h6 j u q hu hq)⟩
theorem IsTree.le {w:World} {n m:Nat} {t:Lard.T} {x:Value} (h:IsTree w n t x) (hm:n≤m):IsTree w m t x:=by
 induction hm with
 |refl=>exact h
 |step _ ih=>exact ih.up
def TreeAt (w:World) (t:Lard.T) (q:Addr):Prop:=∃ h,IsTree w h t (.pointer (some q))
theorem TreeAt.keeps {w w':World} {t:Lard.T} {q:Addr} (h:TreeAt w t q) (hk:Keeps w w'):TreeAt w' t q:=h.elim fun n h=>⟨n,h.keeps hk⟩
def KO (lo:Nat) (row:Option Nat) (w w':World):Prop :=
 ∀ k,lo≤k→row≠some k→∀ (cs:Array Value) (t:TypeId) (fz:Nat×Nat),w.heap[k]? = some (.cells cs t fz)→Imm t→w'.heap[k]? = some (.cells cs t fz)
def TF (lo:Nat) (row:Option Nat) (w:World) (t:Lard.T) (q:Addr):Prop:=∀ w',KO lo row w w'→TreeAt w' t q
theorem KO.refl (lo:Nat) (row:Option Nat) (w:World):KO lo row w w:=fun _ _ _ _ _ _ h _=>h
theorem KO.keeps {lo:Nat} {row:Option Nat} {w w':World} (h:Keeps w w'):KO lo row w w':=fun k _ _ cs t fz hk ht=>h k cs t fz hk ht
theorem TF.at {lo:Nat} {row:Option Nat} {w:World} {t:Lard.T} {q:Addr} (h:TF lo row w t q):TreeAt w t q:=h w (KO.refl _ _ _)
theorem KO.trans {lo:Nat} {row row':Option Nat} {a b c:World} (h:KO lo row a b) (hr:∀ k,row'=some k→row=some k∨a.heap.size≤k) (h':KO lo row' b c):KO lo row a c :=
 fun k hk hne cs t fz hb ht=>h' k hk (fun e=>by
  rcases hr k e with h1 | h1
  ·exact hne h1
  ·have:=lt_of_some hb; omega) cs t fz (h k hk hne cs t fz hb ht) ht
theorem TF.move {lo:Nat} {row row':Option Nat} {w w':World} {t:Lard.T} {q:Addr} (h:TF lo row w t q) (hk:KO lo row w w') (hr:∀ k,row'=some k→row=some k∨w.heap.size≤k):TF lo row' w' t q :=
 fun w'' h2=>h w'' (hk.trans hr h2)
theorem TF.keeps {lo:Nat} {row:Option Nat} {w w':World} {t:Lard.T} {q:Addr} (h:TF lo row w t q) (hk:Keeps w w'):TF lo row w' t q:=h.move (KO.keeps hk) (fun _ e=>.inl e)
theorem TF.mono {lo lo':Nat} {row:Option Nat} {w:World} {t:Lard.T} {q:Addr} (h:TF lo row w t q) (hl:lo'≤lo):TF lo' row w t q:=fun w' h'=>h w' (fun k hk=>h' k (Nat.le_trans hl hk))
theorem TF.row {lo:Nat} {row:Option Nat} {w:World} {t:Lard.T} {q:Addr} (h:TF lo none w t q) (hr:∀ k,row=some k→k < lo):TF lo row w t q:=fun w' h'=>h w' (fun k hk _=>h' k hk (fun e=>by have:=hr k e; omega))
theorem TF.drop {lo:Nat} {row:Option Nat} {w:World} {t:Lard.T} {q:Addr} (h:TF lo row w t q):TF lo none w t q:=fun w' h'=>h w' (fun k hk _=>h' k hk (fun e=>by cases e))
def TFs (lo:Nat) (row:Option Nat) (w:World) (ts:List Lard.T) (s:Value):Prop :=
 ∀ w',KO lo row w w'→∃ qs,IsPtrs w' s qs∧ts.length=qs.length∧∀ (j:Nat) u q,ts[j]? = some u→qs[j]? = some q→∃ h,IsTree w' h u q
theorem TFs.move {lo:Nat} {row row':Option Nat} {w w':World} {ts:List Lard.T} {s:Value} (h:TFs lo row w ts s) (hk:KO lo row w w') (hr:∀ k,row'=some k→row=some k∨w.heap.size≤k):TFs lo row' w' ts s :=
 fun w'' h2=>h w'' (hk.trans hr h2)
theorem TFs.mono {lo lo':Nat} {row:Option Nat} {w:World} {ts:List Lard.T} {s:Value} (h:TFs lo row w ts s) (hl:lo'≤lo):TFs lo' row w ts s:=fun w' h'=>h w' (fun k hk=>h' k (Nat.le_trans hl hk))
theorem TFs.nil (lo:Nat) (row:Option Nat) (w:World):TFs lo row w [] (.slice none 0 0):=fun w' _=>⟨[],.inl ⟨rfl,rfl⟩,rfl,fun j u q hu=>by simp at hu⟩
theorem TFs.mk {lo b cap:Nat} {row:Option Nat} {w:World} {ts:List Lard.T} {qs:List Value} {cs:Array Value} {fz:Nat×Nat} (hb:w.heap[b]? = some (.cells cs 121 fz)) (hlo:lo≤b) (hrow:row≠some b) (hlen:ts.length=qs.length) (hcap:qs.length≤cap) (hcs:cap≤cs.size) (hq:∀ i,i < qs.length→cs[i]? = qs[i]?)
  (ht:∀ (j:Nat) u x,ts[j]? = some u→qs[j]? = some x→∃ q,x=.pointer (some q)∧TF lo row w u q):TFs lo row w ts (.slice (some ⟨b,0,none⟩) qs.length cap) :=
 fun w' h'=>⟨qs,.inr ⟨b,cap,cs,fz,rfl,hcap,h' b hlo hrow _ _ _ hb (.inr (.inr rfl)),hcs,hq⟩,hlen,fun j u q hu hq=>by
  obtain ⟨q',rfl,h1⟩:=ht j u q hu hq
  exact h1 w' h'⟩
theorem heights {w:World}:∀ (ts:List Lard.T) (qs:List Value),ts.length=qs.length→(∀ (j:Nat) u q,ts[j]? = some u→qs[j]? = some q→∃ h,IsTree w h u q)→∃ h,∀ (j:Nat) u q,ts[j]? = some u→qs[j]? = some q→IsTree w h u q
 |[],_,_,_=>⟨0,fun j u q hu=>by simp at hu⟩
 |t :: ts,[],h,_=>by simp at h
 |t :: ts,q :: qs,h,H=>by
  obtain ⟨h1,e1⟩:=H 0 t q rfl rfl
  obtain ⟨h2,e2⟩:=heights ts qs (by simpa using h) (fun j u q hu hq=>H (j + 1) u q (by simpa using hu) (by simpa using hq))
  refine ⟨max h1 h2,fun j u q' hu hq=>?_⟩
  cases j with
  |zero=>cases hu; cases hq; exact e1.le (Nat.le_max_left _ _)
  |succ j=>exact (e2 j u q' (by simpa using hu) (by simpa using hq)).le (Nat.le_max_right _ _)
theorem TF.node {lo b:Nat} {row:Option Nat} {w:World} {t:Lard.T} {i s:Value} {fz:Nat×Nat}
  (hb:w.heap[b]? = some (.cells #[.int .i64 (t.kind:Int),.int .u8 (t.op:Int),.string ⟨t.name.toArray⟩,i,s] 263 fz)) (hlo:lo≤b) (hrow:row≠some b) (hi:∀ w,IsOpt w t.is i) (hname:t.name.length≤200) (ht:TFs lo row w t.parts s):TF lo row w t ⟨b,0,none⟩ :=
 fun w' h'=>by
  obtain ⟨qs,h1,h2,h3⟩:=ht w' h'
  obtain ⟨h,h4⟩:=heights t.parts qs h2 h3
  exact ⟨h + 1,b,i,s,qs,fz,rfl,h' b hlo hrow _ _ _ hb (.inr (.inl rfl)),⟨hi w',hname⟩,h1,h2,h4⟩
def PostT (s:ByteArray) (pb deep its lo:Nat) (w:World) (r:Lard.RT) (e:Ending) (w':World):Prop :=
 w.grownBy w' (some pb)∧(∀ j ts,r=.ok (j,ts)→(∃ q t,ts=[t]∧e=.returned (.pointer (some q))∧TF lo none w' t q)∧PAt w' s pb j deep its)∧(∀ x,r=.error x→e=refusal x.1 x.2)
theorem PostT.ok {s:ByteArray} {pb deep its lo j:Nat} {ts:List Lard.T} {w w':World} {e:Ending} (h:PostT s pb deep its lo w (.ok (j,ts)) e w'):w.grownBy w' (some pb)∧(∃ q t,ts=[t]∧e=.returned (.pointer (some q))∧TF lo none w' t q)∧PAt w' s pb j deep its :=
 ⟨h.1,h.2.1 j ts rfl⟩
theorem PostT.err {s:ByteArray} {pb deep its lo:Nat} {w w':World} {e:Ending} {x:Nat×Nat} (h:PostT s pb deep its lo w (.error x) e w'):w.grownBy w' (some pb)∧e=refusal x.1 x.2 :=
 ⟨h.1,h.2.2 x rfl⟩
theorem PostT.mkOk {s:ByteArray} {pb deep its lo j:Nat} {w w':World} {q:Addr} {t:Lard.T} (h:w.grownBy w' (some pb)) (hp:PAt w' s pb j deep its) (ht:TF lo none w' t q):PostT s pb deep its lo w (.ok (j,[t])) (.returned (.pointer (some q))) w' :=
 ⟨h,fun k ts hk=>(by cases hk; exact ⟨⟨q,t,rfl,rfl,ht⟩,hp⟩),fun x hx=>(by cases hx)⟩
theorem PostT.mkErr {s:ByteArray} {pb deep its lo:Nat} {w w':World} {x:Nat×Nat} (h:w.grownBy w' (some pb)):PostT s pb deep its lo w (.error x) (refusal x.1 x.2) w' :=
 ⟨h,fun k ts hk=>(by cases hk),fun y hy=>(by cases hy; rfl)⟩
def ConT (s:ByteArray) (f pb deep its i:Nat) (r:Lard.RT):Prop :=
 ∀ w:World,G w→PAt w s pb i deep its→Calls Tryz.prog f #[.pointer (some ⟨pb,0,none⟩)] w (PostT s pb deep its w.heap.size w r)
theorem PAt.kp {w w':World} {s:ByteArray} {pb i deep its:Nat} (h:PAt w s pb i deep its) (hg:w.grownBy w' (some pb)):Keeps w w':=keeps_grown hg (fun cs t fz hb=>by
 rw [PAt] at h
 rw [h] at hb; cases hb
 rintro (h | h | h) <;> cases h)
theorem keeps_alloc (w:World) (o:Obj):Keeps w (w.alloc o):=Keeps.below ((Below.refl _ w).alloc (Nat.le_refl _) o)
theorem optNone (w:World):IsOpt w none .nilIface:=.inl ⟨rfl,rfl⟩
theorem tree_two {lo:Nat} {w:World} {t1 t2:Lard.T} {q1 q2:Addr} (op:Nat) (hlo:lo≤w.heap.size) (h1:TF lo none w t1 q1) (h2:TF lo none w t2 q2) :
  TF lo none ((w.alloc (.cells #[.pointer (some q1),.pointer (some q2)] 121)).alloc (.cells #[.int .i64 1,.int .u8 (op:Int),.string ⟨#[]⟩,.nilIface,.slice (some ⟨w.heap.size,0,none⟩) 2 2] 263)) ⟨1,op,[],none,[t1,t2]⟩ ⟨w.heap.size + 1,0,none⟩:=by
 have k1:=keeps_alloc w (.cells #[.pointer (some q1),.pointer (some q2)] 121)
 have k2:=keeps_alloc (w.alloc (.cells #[.pointer (some q1),.pointer (some q2)] 121)) (.cells #[.int .i64 1,.int .u8 (op:Int),.string ⟨#[]⟩,.nilIface,.slice (some ⟨w.heap.size,0,none⟩) 2 2] 263)
 refine TF.node (fz:=(0,0)) ?_ (by omega) (fun e=>by cases e) optNone (Nat.zero_le _) (TFs.mk (qs:=[.pointer (some q1),.pointer (some q2)]) ((Below.heap_alloc _ _ _ (by simp)).trans (heap_alloc_new w _)) hlo (fun e=>by cases e) rfl (Nat.le_refl _) (Nat.le_refl _) (fun i hi=>by simp) ?_)
 ·have:=heap_alloc_new (w.alloc (.cells #[.pointer (some q1),.pointer (some q2)] 121)) (.cells #[.int .i64 1,.int .u8 (op:Int),.string ⟨#[]⟩,.nilIface,.slice (some ⟨w.heap.size,0,none⟩) 2 2] 263)
  rwa [World.size_alloc] at this
 ·intro j u q hu hq
  match j with
  |0=>simp at hu hq; subst hu hq; exact ⟨_,rfl,(h1.keeps k1).keeps k2⟩
  |1=>simp at hu hq; subst hu hq; exact ⟨_,rfl,(h2.keeps k1).keeps k2⟩
  |j + 2=>simp at hu
theorem first_byte (s:ByteArray) (i k:Nat) (h:0 < (s.extract i (i + k)).size):((s.extract i (i + k))[0]'h).toNat=(((s.data.toList.drop i).take k).headD 0).toNat:=by
 have hd:(s.extract i (i + k)).data.toList=(s.data.toList.drop i).take k:=by
  rw [Lib.extract_data]; congr 1; omega
 rw [←hd]
 generalize s.extract i (i + k)=x at h
 obtain ⟨⟨l⟩⟩:=x
 cases l with
 |nil=>exact absurd h (by decide)
 |cons a l=>rfl
theorem operatorT_any (s:ByteArray) (f pb i deep its:Nat) (q:Addr) (t:Lard.T) (lo:Nat) (w:World) (hlo:lo≤w.heap.size) (g:G w) (h:PAt w s pb i deep its) (hq:TF lo none w t q) (hs:s.size≤281474976710656) (hi:i≤s.size) (hpb:8≤pb)
  (hf:f=131∨f=173∨f=212)
  (ho:1≤(Lard.tok (s.data.toList.drop i)).2) (r:Lard.RT) (H:ConT s f pb deep its (Lard.nxt s.data.toList i) r) :
  Calls Tryz.prog 133 #[.pointer (some ⟨pb,0,none⟩),.pointer (some q),.func (.func f) #[.pointer (some ⟨pb,0,none⟩)] #[]] w (PostT s pb deep its lo w (Lard.thenT r fun j us=>.ok (j,[Lard.operT s.data.toList i [t] us]))):=by
 have hin:i + (Lard.tok (s.data.toList.drop i)).2≤s.size:=by
  have:=Lard.tok_in s.data.toList i (by simpa using hi); simpa using this
 have hsz:(s.extract i (i + (Lard.tok (s.data.toList.drop i)).2)).size=(Lard.tok (s.data.toList.drop i)).2:=by
  rw [ByteArray.size_extract]; omega
 have HC:=hide H
 have HQ:=hide hq
 have hfield:∀ (a b c d:Value) (w:World),(Instr.field 172 (.agg #[a,b,c,d]) 1).run Tryz.prog w=.ok b w:=fun _ _ _ _ _=>by kernel_rfl
 clear H hq
 rcases hf with rfl | rfl | rfl
 all_goals
  go_enter Tryz.func133,Tryz.ntmps133
  go_wp2_with fail
  refine (take_any s pb i deep its _ g h hs hi).mono ?_
  rintro e w1 ⟨rfl,h1,f1⟩
  unfold tokV
  go_wp2_with fail
 all_goals
  refine (HC.out _ (g.fr f1 hpb) h1).mono ?_
  rintro e w2 hp
 all_goals rcases r with x | ⟨j,us⟩
 all_goals try
  obtain ⟨f2,rfl⟩:=PostT.err hp
  exact ⟨rfl,PostT.mkErr (Fr.trans f1 f2)⟩
 all_goals
  obtain ⟨f2,⟨q2,t2,rfl,rfl,hq2⟩,h2⟩:=PostT.ok hp
  clear hp HC
  go_wp2_with fail
  go_ret
  have hz1:=f1.size
  have hz2:=f2.size
  have ht:=tree_two (Lard.operT s.data.toList i [t] [t2]).op (by omega) ((HQ.out.keeps (h.kp f1)).keeps (h1.kp f2)) (hq2.mono (by omega))
  have hb:=first_byte s i (Lard.tok (s.data.toList.drop i)).2 (by omega)
  rw [hb]
  exact PostT.mkOk (Fr.alloc (Fr.alloc (Fr.trans f1 f2) _) _) ((h2.alloc _).alloc _) ht
end
section
set_option maxRecDepth 100000
set_option maxHeartbeats 1000000
open Go.RowKit
theorem PT_prog {l:List UInt8} {n tag deep its i:Nat} {acc:List Lard.T} {j:Nat} {ts:List Lard.T} (h:Lard.PT l n tag deep its i acc=.ok (j,ts)):Lard.P l n tag deep its i=.ok j:=by
 rw [←Lard.place_PT l n tag deep its i acc,h]; rfl
def CTT (s:ByteArray) (pb n tag f:Nat):Prop :=
 ∀ deep its i:Nat,i≤s.size→deep≤20→its≤deep→8 * (s.size - i) + Lard.nd tag≤n→ConT s f pb deep its i (Lard.PT s.data.toList n tag deep its i [])
theorem ruleT_step (s:ByteArray) (pb n:Nat) (hs:s.size≤281474976710656) (hpb:8≤pb) (H:CTT s pb n 1 131):CTT s pb (n + 1) 0 89:=by
 intro deep its i hi hd hits hfuel w g h
 have hmf:∀ (fn:Fn) (first cap:Array Value) (w:World),(Instr.makeFunc fn first cap).run Tryz.prog w=.ok (.func fn first cap) w:=fun _ _ _ _=>rfl
 have h1:=H deep its i hi hd hits (by simp [Lard.nd] at hfuel ⊢; omega)
 have hr:Lard.PT s.data.toList (n + 1) 0 deep its i []=Lard.thenT (Lard.PT s.data.toList n 1 deep its i []) fun j ts=>if Lard.oneB s.data.toList j [60,61]=true then Lard.thenT (Lard.PT s.data.toList n 1 deep its (Lard.nxt s.data.toList j) []) fun k us=>.ok (k,[Lard.operT s.data.toList j ts us]) else .ok (j,ts):=rfl
 have hpr:=Lard.P_prog s.data.toList n 1 deep its i
 rw [hr]
 rcases hx:Lard.PT s.data.toList n 1 deep its i [] with x | ⟨j,ts⟩
 ·rw [hx] at h1
  have H1:=hide h1
  clear hr hx H h1 hfuel hpr
  go_enter Tryz.func89,Tryz.ntmps89
  go_wp2_with fail
  refine (H1.out _ g h).mono ?_
  rintro e w1 hp
  obtain ⟨f1,rfl⟩:=PostT.err hp
  exact ⟨rfl,PostT.mkErr f1⟩
 ·rw [hx] at h1
  have hj:=hpr j (PT_prog hx) (by simpa using hi)
  have hj2:j≤s.size:=by simpa using hj.2
  have hj1:i + 1≤j:=by simpa using hj.1
  have H1:=hide h1
  by_cases ho:Lard.oneB s.data.toList j [60,61]=true
  ·have hn1:=Lard.nxt_gt (Lard.one_pos ho)
   have hn2:Lard.nxt s.data.toList j≤s.size:=by have:=Lard.nxt_le s.data.toList j (by simpa using hj2); simpa using this
   have h2:=H deep its (Lard.nxt s.data.toList j) hn2 hd hits (by simp [Lard.nd] at hfuel ⊢; omega)
   have H2:=hide h2
   have HO:=hide (Lard.one_pos ho)
   simp only [Lard.thenT,ho,if_true]
   clear hr hx H h1 hfuel h2 hpr hj
   generalize Lard.PT s.data.toList n 1 deep its (Lard.nxt s.data.toList j) []=r at H2 ⊢
   go_enter Tryz.func89,Tryz.ntmps89
   go_wp2_with fail
   refine (H1.out _ g h).mono ?_
   rintro e w1 hp
   obtain ⟨f1,⟨q1,t1,rfl,rfl,ht1⟩,h1⟩:=PostT.ok hp
   have HT1:=hide ht1
   clear ht1
   clear hp
   go_wp2_with (go_at_call 132; refine (seesOne_any s pb j deep its _ _ h1).mono ?_; rintro e w' ⟨rfl,rfl⟩)
   refine (operatorT_any s _ pb j deep its q1 t1 w.heap.size _ f1.size (g.fr f1 hpb) h1 HT1.out hs hj2 hpb (Or.inl rfl) HO.out r H2.out).mono ?_
   rintro e w2 hp
   rcases r with x | ⟨k,us⟩
   ·obtain ⟨f2,rfl⟩:=PostT.err hp
    exact ⟨rfl,PostT.mkErr (Fr.trans f1 f2)⟩
   ·obtain ⟨f2,⟨q2,t2,e2,rfl,ht2⟩,h2⟩:=PostT.ok hp
    have HT2:=hide ht2
    clear hp H2 ht2
    go_wp2_with fail
    go_ret
    cases e2
    exact PostT.mkOk (Fr.trans f1 f2) h2 HT2.out
  ·have ho':Lard.oneB s.data.toList j [60,61]=false:=by simpa using ho
   simp only [Lard.thenT,ho',if_false,Bool.false_eq_true]
   clear hr hx H h1 hfuel hpr hj ho
   go_enter Tryz.func89,Tryz.ntmps89
   go_wp2_with fail
   refine (H1.out _ g h).mono ?_
   rintro e w1 hp
   obtain ⟨f1,⟨q1,t1,rfl,rfl,ht1⟩,h1⟩:=PostT.ok hp
   have HT1:=hide ht1
   clear ht1
   clear hp
   go_wp2_with (go_at_call 132; refine (seesOne_any s pb j deep its _ _ h1).mono ?_; rintro e w' ⟨rfl,rfl⟩)
   go_ret
   exact PostT.mkOk f1 h1 HT1.out
theorem rowT_any (s:ByteArray) (f pb n ptag ttag deep its i:Nat) (signs:ByteArray) (hs:s.size≤281474976710656) (hpb:8≤pb) (hi:i≤s.size) (hd:deep≤20) (hits:its≤deep)
  (hf:f=173∨f=212) (hpt:ptag≤3) (hnd:Lard.nd ptag≤2) (hfuel:8 * (s.size - i) + Lard.nd ptag≤n)
  (H:∀ m,m≤n→CTT s pb m ptag f)
  (hT:∀ m j acc,Lard.PT s.data.toList (m + 1) ttag deep its j acc=if Lard.oneB s.data.toList j signs.data.toList=true then Lard.thenT (Lard.PT s.data.toList m ptag deep its (Lard.nxt s.data.toList j) []) fun k us=>Lard.PT s.data.toList m ttag deep its k [Lard.operT s.data.toList j acc us] else .ok (j,acc))
  (w:World) (g:G w) (h:PAt w s pb i deep its) :
  Calls Tryz.prog 172 #[.pointer (some ⟨pb,0,none⟩),.string signs,.func (.func f) #[.pointer (some ⟨pb,0,none⟩)] #[]] w (PostT s pb deep its w.heap.size w (Lard.thenT (Lard.PT s.data.toList n ptag deep its i []) fun j ts=>Lard.PT s.data.toList n ttag deep its j ts)):=by
 have h1:=H n (Nat.le_refl _) deep its i hi hd hits hfuel
 have hpr:=Lard.P_prog s.data.toList n ptag deep its i
 rcases hx:Lard.PT s.data.toList n ptag deep its i [] with x | ⟨j,ts⟩
 ·rw [hx] at h1
  have H1:=hide h1
  clear hx H h1 hfuel hpr hT
  rcases hf with rfl | rfl
  all_goals
   go_enter Tryz.func172,Tryz.ntmps172
   go_wp2_with fail
   refine (H1.out _ g h).mono ?_
   rintro e w1 hp
   obtain ⟨f1,rfl⟩:=PostT.err hp
   exact ⟨rfl,PostT.mkErr f1⟩
 ·rw [hx] at h1
  have hj:=hpr j (PT_prog hx) (by simpa using hi)
  rw [if_pos hpt] at hj
  have hj2:j≤s.size:=by simpa using hj.2
  have H1:=hide h1
  have HT:=hide hT
  have HH:=hide H
  have hfu:8 * (s.size - j) + 1≤n:=by omega
  show Calls _ _ _ _ (PostT s pb deep its w.heap.size w (Lard.PT s.data.toList n ttag deep its j ts))
  generalize hfin:Lard.PT s.data.toList n ttag deep its j ts=fin
  have HF:=hide hfin
  clear hx H h1 hpr hT hj hfin
  rcases hf with rfl | rfl
  all_goals
   go_enter Tryz.func172,Tryz.ntmps172
   go_wp2_with fail
   refine (H1.out _ g h).mono ?_
   rintro e w1 hp
   obtain ⟨f1,⟨q1,t1,rfl,rfl,ht1⟩,h1⟩:=PostT.ok hp
   have HT1:=hide ht1
   clear hp ht1
   go_wp2_with fail
   go_loopw [7] (fun x wr=>∃ (q:Addr) (t:Lard.T) (k m:Nat),x=.pointer (some q)∧Hid (TF w.heap.size none wr t q)∧PAt wr s pb k deep its∧w.grownBy wr (some pb)∧k≤s.size∧8 * (s.size - k) + 1≤m∧m≤n∧Hid (Lard.PT s.data.toList m ttag deep its k [t]=fin)) (fun _ wr=>s.size - atOf wr pb)
   case atStart=>exact ⟨q1,t1,j,n,rfl,HT1,h1,f1,hj2,hfu,Nat.le_refl _,HF⟩
   case round =>
    clear H1 HF h1 f1 hj2 hfu HT1
    obtain ⟨q,t,k,m,rfl,HTK,hk,fk,hks,hm,hmn,HM⟩:=hrel
    obtain ⟨m,rfl⟩:∃ m',m=m' + 1:=⟨m - 1,by omega⟩
    have hat:=atOf_eq hk
    have HAT:=hide hat
    clear hat
    have hM:=HM.out
    rw [HT.out] at hM
    by_cases ho:Lard.oneB s.data.toList k signs.data.toList=true
    ·rw [if_pos ho] at hM
     have hn1:=Lard.nxt_gt (Lard.one_pos ho)
     have hn2:Lard.nxt s.data.toList k≤s.size:=by have:=Lard.nxt_le s.data.toList k (by simpa using hks); simpa using this
     have h2:=HH.out m (by omega) deep its (Lard.nxt s.data.toList k) hn2 hd hits (by omega)
     have hpr:=Lard.P_prog s.data.toList m ptag deep its (Lard.nxt s.data.toList k)
     have HO:=hide (Lard.one_pos ho)
     rcases hx:Lard.PT s.data.toList m ptag deep its (Lard.nxt s.data.toList k) [] with x | ⟨k2,us⟩
     ·rw [hx] at h2 hM
      have hM':fin=.error x:=hM.symm
      subst hM'
      have H2:=hide h2
      clear hx h2 hpr hM HM HT HH
      go_wp2_with (go_at_call 132; refine (seesOne_any s pb k deep its _ _ hk).mono ?_; rintro e w' ⟨rfl,rfl⟩)
      refine (operatorT_any s _ pb k deep its q t w.heap.size _ fk.size (g.fr fk hpb) hk HTK.out hs hks hpb (by omega) HO.out _ H2.out).mono ?_
      rintro e w2 hp
      obtain ⟨f2,rfl⟩:=PostT.err hp
      exact ⟨rfl,PostT.mkErr (Fr.trans fk f2)⟩
     ·have hj:=hpr k2 (PT_prog hx) (by simpa using hn2)
      rw [if_pos hpt] at hj
      have hk2:k2≤s.size:=by simpa using hj.2
      rw [hx] at h2 hM
      have H2:=hide h2
      have hM2:Lard.PT s.data.toList m ttag deep its k2 [Lard.operT s.data.toList k [t] us]=fin:=hM
      have HM2:=hide hM2
      clear hx h2 hpr hM HM HT HH hM2
      go_wp2_with (go_at_call 132; refine (seesOne_any s pb k deep its _ _ hk).mono ?_; rintro e w' ⟨rfl,rfl⟩)
      refine (operatorT_any s _ pb k deep its q t w.heap.size _ fk.size (g.fr fk hpb) hk HTK.out hs hks hpb (by omega) HO.out _ H2.out).mono ?_
      rintro e w2 hp
      obtain ⟨f2,⟨q2,t2,e2,rfl,ht2⟩,h2⟩:=PostT.ok hp
      have HT2:=hide ht2
      clear hp H2 ht2
      go_wp2_with fail
      cases e2
      refine ⟨⟨q2,_,k2,m,rfl,HT2,h2,Fr.trans fk f2,hk2,by omega,by omega,HM2⟩,?_⟩
      rw [atOf_eq h2,HAT.out]
      omega
    ·have ho':Lard.oneB s.data.toList k signs.data.toList=false:=by simpa using ho
     rw [if_neg ho] at hM
     subst hM
     clear HM HT HH ho
     go_wp2_with (go_at_call 132; refine (seesOne_any s pb k deep its _ _ hk).mono ?_; rintro e w' ⟨rfl,rfl⟩)
     go_ret
     exact PostT.mkOk fk hk HTK.out
theorem sumT_step (s:ByteArray) (pb n:Nat) (hs:s.size≤281474976710656) (hpb:8≤pb) (H:∀ m,m≤n→CTT s pb m 2 173):CTT s pb (n + 1) 1 131:=by
 intro deep its i hi hd hits hfuel w g h
 have hmf:∀ (fn:Fn) (first cap:Array Value) (w:World),(Instr.makeFunc fn first cap).run Tryz.prog w=.ok (.func fn first cap) w:=fun _ _ _ _=>rfl
 have hc:=rowT_any s 173 pb n 2 4 deep its i ⟨#[43,45]⟩ hs hpb hi hd hits (Or.inl rfl) (by omega) (by simp [Lard.nd]) (by simp [Lard.nd] at hfuel ⊢; omega) H (fun m j acc=>rfl) w g h
 have hr:Lard.PT s.data.toList (n + 1) 1 deep its i []=Lard.thenT (Lard.PT s.data.toList n 2 deep its i []) fun j ts=>Lard.PT s.data.toList n 4 deep its j ts:=rfl
 rw [hr]
 generalize (Lard.thenT (Lard.PT s.data.toList n 2 deep its i []) fun j ts=>Lard.PT s.data.toList n 4 deep its j ts)=r at hc
 have HC:=hide hc
 clear hc H hr
 go_enter Tryz.func131,Tryz.ntmps131
 go_wp2_with fail
 refine HC.out.mono ?_
 rintro e w1 hp
 rcases r with x | ⟨j,ts⟩
 ·obtain ⟨f1,rfl⟩:=PostT.err hp
  exact ⟨rfl,PostT.mkErr f1⟩
 ·obtain ⟨f1,⟨q1,t1,rfl,rfl,ht1⟩,h1⟩:=PostT.ok hp
  have HT1:=hide ht1
  clear hp HC ht1
  go_wp2_with fail
  go_ret
  exact PostT.mkOk f1 h1 HT1.out
theorem termT_step (s:ByteArray) (pb n:Nat) (hs:s.size≤281474976710656) (hpb:8≤pb) (H:∀ m,m≤n→CTT s pb m 3 212):CTT s pb (n + 1) 2 173:=by
 intro deep its i hi hd hits hfuel w g h
 have hmf:∀ (fn:Fn) (first cap:Array Value) (w:World),(Instr.makeFunc fn first cap).run Tryz.prog w=.ok (.func fn first cap) w:=fun _ _ _ _=>rfl
 have hc:=rowT_any s 212 pb n 3 5 deep its i ⟨#[42,47]⟩ hs hpb hi hd hits (Or.inr rfl) (by omega) (by simp [Lard.nd]) (by simp [Lard.nd] at hfuel ⊢; omega) H (fun m j acc=>rfl) w g h
 have hr:Lard.PT s.data.toList (n + 1) 2 deep its i []=Lard.thenT (Lard.PT s.data.toList n 3 deep its i []) fun j ts=>Lard.PT s.data.toList n 5 deep its j ts:=rfl
 rw [hr]
 generalize (Lard.thenT (Lard.PT s.data.toList n 3 deep its i []) fun j ts=>Lard.PT s.data.toList n 5 deep its j ts)=r at hc
 have HC:=hide hc
 clear hc H hr
 go_enter Tryz.func173,Tryz.ntmps173
 go_wp2_with fail
 refine HC.out.mono ?_
 rintro e w1 hp
 rcases r with x | ⟨j,ts⟩
 ·obtain ⟨f1,rfl⟩:=PostT.err hp
  exact ⟨rfl,PostT.mkErr f1⟩
 ·obtain ⟨f1,⟨q1,t1,rfl,rfl,ht1⟩,h1⟩:=PostT.ok hp
  have HT1:=hide ht1
  clear hp HC ht1
  go_wp2_with fail
  go_ret
  exact PostT.mkOk f1 h1 HT1.out
end
section
set_option maxRecDepth 100000
set_option maxHeartbeats 1000000
open Go.RowKit
theorem upToT_any (s:ByteArray) (pb i deep its:Nat) (t:ByteArray) (w:World) (g:G w) (h:PAt w s pb i deep its) (hs:s.size≤281474976710656) (hpb:8≤pb) (r:Lard.RT) (H:ConT s 89 pb deep its i r) (hr:∀ j ts,r=.ok (j,ts)→j≤s.size) :
  Calls Tryz.prog 294 #[.pointer (some ⟨pb,0,none⟩),.string t] w (PostT s pb deep its w.heap.size w (Lard.thenT r (Lard.expT s.data.toList t.data.toList))):=by
 have HC:=hide H
 clear H
 rcases r with x | ⟨j,ts⟩
 ·show Calls _ _ _ _ (PostT s pb deep its w.heap.size w (.error x))
  clear hr
  go_enter Tryz.func294,Tryz.ntmps294
  go_wp2_with fail
  refine (HC.out _ g h).mono ?_
  rintro e w1 hp
  obtain ⟨f1,rfl⟩:=PostT.err hp
  exact ⟨rfl,PostT.mkErr f1⟩
 ·have hj:=hr j ts rfl
  show Calls _ _ _ _ (PostT s pb deep its w.heap.size w (Lard.expT s.data.toList t.data.toList j ts))
  clear hr
  have hpl:=Lard.place_exp s.data.toList t.data.toList j ts
  have hts:∀ k us,Lard.expT s.data.toList t.data.toList j ts=.ok (k,us)→us=ts:=fun k us h=>by
   unfold Lard.expT at h; split at h <;> cases h; rfl
  generalize Lard.expT s.data.toList t.data.toList j ts=r at hpl hts
  have HX:=hide hpl.symm
  have HTS:=hide hts
  clear hpl hts
  go_enter Tryz.func294,Tryz.ntmps294
  go_wp2_with fail
  refine (HC.out _ g h).mono ?_
  rintro e w1 hp
  obtain ⟨f1,⟨q1,t1,rfl,rfl,ht1⟩,h1⟩:=PostT.ok hp
  have HT1:=hide ht1
  clear hp HC ht1
  go_wp2_with fail
  refine (expect_any s pb j deep its t _ (g.fr f1 hpb) h1 hs hj).mono ?_
  rintro e w2 ⟨f2,h2,h3⟩
  rw [HX.out] at h2 h3
  rcases r with x | ⟨k,us⟩
  ·have he:=h3 x rfl
   subst he
   exact ⟨rfl,PostT.mkErr (Fr.trans f1 f2)⟩
  ·obtain ⟨rfl,h4⟩:=h2 k rfl
   clear h2 h3 HX
   go_wp2_with fail
   go_ret
   rw [HTS.out k us rfl]
   exact PostT.mkOk (Fr.trans f1 f2) h4 (HT1.out.keeps (h1.kp f2))
theorem withItT_any (s:ByteArray) (pb i deep its:Nat) (w:World) (g:G w) (h:PAt w s pb i deep its) (hs:s.size≤281474976710656) (hpb:8≤pb) (hits:its≤20) (r:Lard.RT) (H:ConT s 89 pb deep (its + 1) i r) (hr:∀ j ts,r=.ok (j,ts)→j≤s.size) :
  Calls Tryz.prog 297 #[.pointer (some ⟨pb,0,none⟩)] w (PostT s pb deep its w.heap.size w (Lard.thenT r (Lard.expT s.data.toList [41]))):=by
 obtain ⟨c0,c1,c2,c3,c4,c5,c6,cf⟩:=h.cells
 have hp1:=h.its (its + 1)
 have hf1:w.grownBy (w.setCell ⟨pb,6,none⟩ (.int .i64 ((its + 1:Nat):Int))) (some pb):=Fr.set (World.grownBy.refl _ _) _ _
 have hu:=upToT_any s pb i deep (its + 1) ⟨#[41]⟩ _ (g.fr hf1 hpb) hp1 hs hpb r H hr
 rw [show (w.setCell ⟨pb,6,none⟩ (.int .i64 ((its + 1:Nat):Int))).heap.size=w.heap.size by simp [World.setCell]] at hu
 have hu':Calls Tryz.prog 294 #[.pointer (some ⟨pb,0,none⟩),.string ⟨#[41]⟩] (w.setCell ⟨pb,6,none⟩ (.int .i64 ((its:Int) + 1))) (PostT s pb deep (its + 1) w.heap.size (w.setCell ⟨pb,6,none⟩ (.int .i64 ((its:Int) + 1))) (Lard.thenT r (Lard.expT s.data.toList [41]))):=hu
 generalize Lard.thenT r (Lard.expT s.data.toList [41])=r' at hu'
 have HU:=hide hu'
 have HF1:=hide hf1
 clear hu hu' H hr hp1 hf1
 go_enter Tryz.func297,Tryz.ntmps297
 go_wp2_with fail
 refine HU.out.mono ?_
 rintro e w1 hp
 rcases r' with x | ⟨j,ts⟩
 ·obtain ⟨f1,rfl⟩:=PostT.err hp
  exact ⟨rfl,PostT.mkErr (Fr.trans HF1.out f1)⟩
 ·obtain ⟨f1,⟨q1,t1,rfl,rfl,ht1⟩,h1⟩:=PostT.ok hp
  have HT1:=hide ht1
  clear ht1
  obtain ⟨d0,d1,d2,d3,d4,d5,d6,df⟩:=h1.cells
  clear hp HU
  go_wp2_with fail
  go_ret
  exact PostT.mkOk (Fr.set (Fr.trans HF1.out f1) _ _) (h1.its its) (HT1.out.keeps (h1.kp (Fr.set (World.grownBy.refl _ _) _ _)))
end
end Go.Proofs.YtpekpdimdelncaaGreatDoor
