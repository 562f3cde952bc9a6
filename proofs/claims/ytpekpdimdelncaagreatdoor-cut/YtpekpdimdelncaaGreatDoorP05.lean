/- Out of: V14, Ev, Pg, GT. -/
import Derived.Test.YtpekpdimdelncaaGreatDoorP04
import Derived.Defers
import Derived.Recover
import Derived.Test.YtpekpdimdelncaaGreatDoorP01
set_option linter.unusedVariables false
namespace Go.Proofs.YtpekpdimdelncaaGreatDoor
section
set_option maxRecDepth 100000
set_option maxHeartbeats 400000
open Go.RowKit
attribute [local go_sem] mt_wrN mt_wrW mt_wrL
def IsW (w:World) (r:Except Nat Lard.V) (x:Value):Prop :=
 (∃ v y,r=.ok v∧x=.agg #[.int .i64 0,y]∧IsVal w 3 v y)∨(∃ c:Nat,r=.error c∧x=.agg #[.int .i64 (c:Int),.nilIface]∧0 < c∧c≤12)
theorem IsW.keeps {w w':World} {r:Except Nat Lard.V} {x:Value} (h:IsW w r x) (hk:Keeps w w'):IsW w' r x:=by
 rcases h with ⟨v,y,h1,h2,h3⟩ | h
 ·exact .inl ⟨v,y,h1,h2,h3.keeps hk⟩
 ·exact .inr h
theorem IsW.form {w:World} {r:Except Nat Lard.V} {x:Value} (h:IsW w r x):∃ c y,x=.agg #[.int .i64 c,y]∧(y=.nilIface∨∃ t a,y=.iface t a):=by
 rcases h with ⟨v,y,h1,rfl,h3⟩ | ⟨c,_,rfl,_⟩
 ·exact ⟨_,_,rfl,.inr h3.one⟩
 ·exact ⟨_,_,rfl,.inl rfl⟩
theorem take_worth {r:Except Nat Lard.V} {x:Value} (w:World) (h:IsW w r x) :
  Calls Tryz.prog 276 #[x] w (PV w r):=by
 have hB0:∀ o,Below w.heap.size w (w.alloc o):=fun o=>(Below.refl _ _).alloc (Nat.le_refl _) _
 rcases h with ⟨v,y,rfl,rfl,h3⟩ | ⟨c,rfl,rfl,h0,h1⟩
 ·obtain ⟨t,a,rfl⟩:=h3.one
  have HV:=hide h3
  clear h3
  go_enter Tryz.func276,Tryz.ntmps276
  go_wp2
  go_ret
  exact PV.ok (hB0 _) (HV.out.keeps (Keeps.below (hB0 _)))
 ·have hne:((c:Int) != 0)=true:=by rw [bne_iff_ne]; omega
  go_enter Tryz.func276,Tryz.ntmps276
  go_wp2
  exact ⟨rfl,PV.err (hB0 _)⟩
theorem writtenW_below (b:ByteArray) (w:World) (hb:b.size≤1000) :
  Calls Tryz.prog 336 #[.string b] w fun e w'=>e=.returned (.string ⟨(39 :: (b.data.toList++[39])).toArray⟩)∧Below w.heap.size w w' :=
 (writtenW_any b w hb).mono fun _ _ h=>⟨h.1,h.2 ▸ Below.refl _ _⟩
def toldV:Except Nat Lard.V→Value
 |.ok v=>.agg #[.int .i64 0,.string ⟨(Lard.wr 3 v).toArray⟩]
 |.error c=>.agg #[.int .i64 (c:Int),.string ⟨#[]⟩]
theorem told_worth {r:Except Nat Lard.V} {x:Value} (w:World) (g:G w) (h:IsW w r x) :
  Calls Tryz.prog 50 #[x] w fun e w'=>e=.returned (toldV r)∧Below w.heap.size w w':=by
 have hB0:∀ o,Below w.heap.size w (w.alloc o):=fun o=>(Below.refl _ _).alloc (Nat.le_refl _) _
 rcases h with ⟨v,y,rfl,rfl,h3⟩ | ⟨c,rfl,rfl,h0,h1⟩
 ·rcases h3.forms with ⟨j,rfl,rfl,hj⟩ | ⟨d,rfl,rfl,hb⟩ | ⟨m2,l2,s2,ys2,hm2,rfl,rfl,hr2,hl2,h2,hv2⟩
  ·have g2:∀ o o',G ((w.alloc o).alloc o'):=fun o o'=>g.below ((hB0 o).alloc (by simp) o') g.size
   go_enter Tryz.func50,Tryz.ntmps50
   go_wp2_with fail
   refine (written_any j _ (g2 _ _) hj.1 hj.2).mono ?_
   rintro e w2 ⟨rfl,hB2⟩
   obtain ⟨hc,hf⟩:=bcell hB2
   have hz:w.heap.size + 1 < w2.heap.size:=by have:=hB2.size; simp at this; omega
   have hB:Below w.heap.size w w2:=((hB0 _).alloc (by simp) _).trans (hB2.mono (by simp; omega))
   go_wp2_with fail
   exact bodyPost_ret (v:=toldV _) (by simp [results,Tryz.results50,go_sem,hc,toldV,wr_num]) rfl ⟨rfl,(hB.setCell (p:=⟨w.heap.size + 1,0,none⟩) (Nat.le_add_right _ _) _).setCell (p:=⟨w.heap.size + 1,1,none⟩) (Nat.le_add_right _ _) _⟩
  ·go_enter Tryz.func50,Tryz.ntmps50
   go_wp2_with fail
   refine (writtenW_below d _ (by omega)).mono ?_
   rintro e w2 ⟨rfl,hB2⟩
   obtain ⟨hc,hf⟩:=bcell hB2
   have hz:w.heap.size + 1 < w2.heap.size:=by have:=hB2.size; simp at this; omega
   have hB:Below w.heap.size w w2:=((hB0 _).alloc (by simp) _).trans (hB2.mono (by simp; omega))
   go_wp2_with fail
   exact bodyPost_ret (v:=toldV _) (by simp [results,Tryz.results50,go_sem,hc,toldV,wr_word]) rfl ⟨rfl,(hB.setCell (p:=⟨w.heap.size + 1,0,none⟩) (Nat.le_add_right _ _) _).setCell (p:=⟨w.heap.size + 1,1,none⟩) (Nat.le_add_right _ _) _⟩
  ·obtain rfl:m2=2:=by omega
   have hcall:=fun (w':World) (hB:Below w.heap.size w w')=>writtenL_any 2 (by omega) l2 s2 ys2 w' (g.below hB g.size) (hr2.keeps (Keeps.below hB)) (Vals.keeps ⟨hl2,hv2⟩ (Keeps.below hB)) h2
   obtain ⟨o2,c2,rfl⟩:=hr2.len
   have HC:=hide hcall
   clear hcall h3 hv2 hr2
   go_enter Tryz.func50,Tryz.ntmps50
   go_wp2_with fail
   refine (HC.out _ ((hB0 _).alloc (by simp) _)).mono ?_
   rintro e w2 ⟨rfl,hB2⟩
   clear HC
   obtain ⟨hc,hf⟩:=bcell hB2
   have hz:w.heap.size + 1 < w2.heap.size:=by have:=hB2.size; simp at this; omega
   have hB:Below w.heap.size w w2:=((hB0 _).alloc (by simp) _).trans (hB2.mono (by simp; omega))
   go_wp2_with fail
   exact bodyPost_ret (v:=toldV _) (by simp [results,Tryz.results50,go_sem,hc,toldV]) rfl ⟨rfl,(hB.setCell (p:=⟨w.heap.size + 1,0,none⟩) (Nat.le_add_right _ _) _).setCell (p:=⟨w.heap.size + 1,1,none⟩) (Nat.le_add_right _ _) _⟩
 ·have hne:((c:Int) != 0)=true:=by rw [bne_iff_ne]; omega
  go_enter Tryz.func50,Tryz.ntmps50
  go_wp2
  exact bodyPost_ret (v:=toldV _) (by simp [results,Tryz.results50,go_sem,toldV]) rfl ⟨rfl,(hB0 _).alloc (by simp) _⟩
def sameW:Except Nat Lard.V→Except Nat Lard.V→Bool
 |.ok v,.ok u=>Lard.same 3 v u
 |.error c,.error d=>c == d
 |_,_=>false
theorem same_worth {r q:Except Nat Lard.V} {x y:Value} (w:World) (hx:IsW w r x) (hy:IsW w q y) :
  Calls Tryz.prog 159 #[x,y] w fun e w'=>e=.returned (.bool (sameW r q))∧Below w.heap.size w w':=by
 have hB0:∀ o,Below w.heap.size w (w.alloc o):=fun o=>(Below.refl _ _).alloc (Nat.le_refl _) _
 have hB1:∀ o o',Below w.heap.size w ((w.alloc o).alloc o'):=fun o o'=>(hB0 o).alloc (by simp) o'
 rcases hx with ⟨v,y1,rfl,rfl,h1⟩ | ⟨c,rfl,rfl,hc0,hc1⟩
 ·obtain ⟨t1,a1,rfl⟩:=h1.one
  rcases hy with ⟨u,y2,rfl,rfl,h2⟩ | ⟨d,rfl,rfl,hd0,hd1⟩
  ·obtain ⟨t2,a2,rfl⟩:=h2.one
   have hc:=fun (w':World) (hB:Below w.heap.size w w')=>equal_any 3 v u _ _ 3 w' (h1.keeps (Keeps.below hB)) (h2.keeps (Keeps.below hB))
   have HC:=hide hc
   show Calls _ _ _ _ (fun e w'=>e=.returned (.bool (Lard.same 3 v u))∧_)
   generalize Lard.same 3 v u=b at HC ⊢
   clear hc h1 h2
   go_enter Tryz.func159,Tryz.ntmps159
   go_wp2_with fail
   refine (HC.out _ (hB1 _ _)).mono ?_
   rintro e w2 ⟨rfl,rfl⟩
   go_wp2_with fail
   go_ret
   exact ⟨rfl,hB1 _ _⟩
  ·have hne:((d:Int) != 0)=true:=by rw [bne_iff_ne]; omega
   have hz:((0:Int) == (d:Int))=false:=by rw [beq_eq_false_iff_ne]; omega
   show Calls _ _ _ _ (fun e w'=>e=.returned (.bool false)∧_)
   go_enter Tryz.func159,Tryz.ntmps159
   go_wp2_with fail
   go_ret
   exact ⟨rfl,hB1 _ _⟩
 ·have hne:((c:Int) != 0)=true:=by rw [bne_iff_ne]; omega
  rcases hy with ⟨u,y2,rfl,rfl,h2⟩ | ⟨d,rfl,rfl,hd0,hd1⟩
  ·obtain ⟨t2,a2,rfl⟩:=h2.one
   have hz:((c:Int) == (0:Int))=false:=by rw [beq_eq_false_iff_ne]; omega
   show Calls _ _ _ _ (fun e w'=>e=.returned (.bool false)∧_)
   go_enter Tryz.func159,Tryz.ntmps159
   go_wp2_with fail
   go_ret
   exact ⟨rfl,hB1 _ _⟩
  ·have hz:((c:Int) == (d:Int))=(c == d):=by
    by_cases h:c=d
    ·subst h; simp
    ·have h':¬ (c:Int)=(d:Int):=by omega
     rw [beq_eq_false_iff_ne.2 h,beq_eq_false_iff_ne.2 h']
   show Calls _ _ _ _ (fun e w'=>e=.returned (.bool (c == d))∧_)
   rw [←hz]
   clear hz
   go_enter Tryz.func159,Tryz.ntmps159
   go_wp2_with fail
   go_ret
   exact ⟨rfl,hB1 _ _⟩
end
section
namespace Lard
structure T where
 kind:Nat
 op:Nat
 name:List UInt8
 is:Option V
 parts:List T
def T.none:T:=⟨0,0,[],.none,[]⟩
def T.part (t:T) (i:Nat):T:=t.parts[i]?.getD T.none
def isName (l:List UInt8):Bool:=(tok l).1 == 4 && (tok l).2 == l.length
def keyOf (v:V):Except Nat (List UInt8) :=
 match v.x with
 |.inl i=>.ok (107 :: Lib.itoa i)
 |.inr (.inl b)=>if isName b=true then .ok b else .error 9
 |_=>.error 9
def thenR {α β S:Type} (r:Except Nat α×S) (k:α→S→Except Nat β×S):Except Nat β×S :=
 match r with
 |(.ok a,s)=>k a s
 |(.error e,s)=>(.error e,s)
def seqE {α S:Type} (E:α→S→Except Nat V×S):List α→List V→S→Except Nat V×S
 |[],acc,s=>(listOf acc,s)
 |a :: r,acc,s=>thenR (E a s) fun v s=>seqE E r (acc++[v]) s
def someE {S:Type} (E:V→S→Except Nat V×S):List V→List V→S→Except Nat V×S
 |[],acc,s=>(listOf acc,s)
 |a :: r,acc,s=>thenR (E a s) fun v s =>
  match numIn v with
  |.ok i=>if i=0 then someE E r acc s else someE E r (acc++[a]) s
  |.error e=>(.error e,s)
variable {σ:Type} (N:List UInt8→σ→Except Nat V×σ)
def needE (key:List UInt8) (s:Nat×σ):Except Nat V×(Nat×σ):=((N key s.2).1,(s.1,(N key s.2).2))
def firstE (E:T→Nat×σ→Except Nat V×(Nat×σ)) (t:T) (s:Nat×σ):Except Nat V×(Nat×σ) :=
 thenR (E (t.part 0) s) fun v s =>
  if t.kind=1∨t.kind=13 then thenR (E (t.part 1) s) fun u s=>(make t.op v u,s)
  else if t.kind=5 then (make 45 (vn 0) v,s)
  else if t.kind=7 then
   (match keyOf v with
   |.ok k=>needE N k s
   |.error e=>(.error e,s))
  else if t.kind=9 then
   (match numIn v with
   |.ok i=>if i=0 then E (t.part 2) s else E (t.part 1) s
   |.error e=>(.error e,s))
  else if t.kind=10 then (size v,s)
  else if t.kind=11 then (sumUp v,s)
  else if t.kind=12 then (asWord v,s)
  else (.ok v,s)
def ev:Nat→T→Option V→Nat×σ→Except Nat V×(Nat×σ)
 |0,_,_,s=>(.error 11,s)
 |n + 1,t,it,s =>
  if t.kind=1 then firstE N (fun u s=>ev n u it s) t s
  else if s.1=0 then (.error 11,s)
  else if t.kind=2 then ((match t.is with | some v=>.ok v | .none=>.error 11),(s.1 - 1,s.2))
  else if t.kind=3 then needE N t.name (s.1 - 1,s.2)
  else if t.kind=4 then ((match it with | some v=>.ok v | .none=>.error 11),(s.1 - 1,s.2))
  else if t.kind=14 then
   (match ev n (t.part 0) it (s.1 - 1,s.2) with
   |(.ok v,s)=>(.ok v,s)
   |(.error e,s)=>if e=7∨e=8∨e=9∨e=10 then ev n (t.part 1) it s else (.error e,s))
  else if t.kind=15 then thenR (ev n (t.part 0) it (s.1 - 1,s.2)) fun v s =>
   (match listIn v with
   |.ok l=>seqE (fun u s=>ev n (t.part 1) (some u) s) l [] s
   |.error e=>(.error e,s))
  else if t.kind=16 then thenR (ev n (t.part 0) it (s.1 - 1,s.2)) fun v s =>
   (match listIn v with
   |.ok l=>someE (fun u s=>ev n (t.part 1) (some u) s) l [] s
   |.error e=>(.error e,s))
  else if t.kind=8 then seqE (fun u s=>ev n u it s) t.parts [] (s.1 - 1,s.2)
  else firstE N (fun u s=>ev n u it s) t (s.1 - 1,s.2)
def partsOf (k:Nat):Nat :=
 if k=1∨k=13∨k=14∨k=15∨k=16 then 2 else if k=9 then 3 else if k=2∨k=3∨k=4 then 0 else 1
def okT:Nat→Bool→T→Bool
 |0,_,_=>false
 |n + 1,b,t =>
  decide (1≤t.kind) && decide (t.kind≤16) && (t.kind == 8 || t.parts.length == partsOf t.kind) && decide (t.parts.length≤200) &&
  (t.kind != 1 || [43,45,42,47,60,61].contains t.op) && (t.kind != 13 || [109,120,64].contains t.op) && (t.kind != 2 || t.is.isSome) && (t.kind != 4 || b) &&
  (if t.kind=15∨t.kind=16 then okT n b (t.part 0) && okT n true (t.part 1) else t.parts.all (okT n b))
end Lard
end
section
namespace Lard
abbrev By:=List UInt8
abbrev Wo:=Except Nat V
structure Pg (α:Type) where
 x:Sum α (By×(Wo→Pg α))
namespace Pg
variable {α β:Type}
def ret (a:α):Pg α:=⟨.inl a⟩
def ask (k:By) (c:Wo→Pg α):Pg α:=⟨.inr (k,c)⟩
def bind:Pg α→(α→Pg β)→Pg β
 |⟨.inl a⟩,f=>f a
 |⟨.inr (k,c)⟩,f=>ask k fun w=>(c w).bind f
def run {σ:Type} (N:By→σ→Wo×σ):Pg α→σ→α×σ
 |⟨.inl a⟩,s=>(a,s)
 |⟨.inr (k,c)⟩,s=>(c (N k s).1).run N (N k s).2
theorem run_bind {σ:Type} (N:By→σ→Wo×σ):∀ (p:Pg α) (f:α→Pg β) (s:σ),(p.bind f).run N s=(f (p.run N s).1).run N (p.run N s).2
 |⟨.inl _⟩,_,_=>rfl
 |⟨.inr (_,_)⟩,f,s=>by simp only [bind,run,ask]; exact run_bind N _ f _
theorem ind {P:Pg α→Prop} (h1:∀ a,P (ret a)) (h2:∀ k c,(∀ w,P (c w))→P (ask k c)):∀ p,P p
 |⟨.inl a⟩=>h1 a
 |⟨.inr (k,c)⟩=>h2 k c fun w=>ind h1 h2 (c w)
end Pg
abbrev Pe (α:Type):=Pg (Except Nat α×Nat)
def thenP {α β:Type} (p:Pe α) (k:α→Nat→Pe β):Pe β :=
 p.bind fun q=>match q.1 with | .ok a=>k a q.2 | .error e=>.ret (.error e,q.2)
def seqP {α:Type} (E:α→Nat→Pe V):List α→List V→Nat→Pe V
 |[],acc,f=>.ret (listOf acc,f)
 |a :: r,acc,f=>thenP (E a f) fun v f=>seqP E r (acc++[v]) f
def someP (E:V→Nat→Pe V):List V→List V→Nat→Pe V
 |[],acc,f=>.ret (listOf acc,f)
 |a :: r,acc,f=>thenP (E a f) fun v f =>
  match numIn v with
  |.ok i=>if i=0 then someP E r acc f else someP E r (acc++[a]) f
  |.error e=>.ret (.error e,f)
def needP (key:By) (f:Nat):Pe V:=.ask key fun w=>.ret (w,f)
def tryP (p:Pe V) (k:Nat→Pe V):Pe V :=
 p.bind fun q=>match q.1 with
  |.ok v=>.ret (.ok v,q.2)
  |.error e=>if e=7∨e=8∨e=9∨e=10 then k q.2 else .ret (.error e,q.2)
def firstP (E:T→Nat→Pe V) (t:T) (f:Nat):Pe V :=
 thenP (E (t.part 0) f) fun v f =>
  if t.kind=1∨t.kind=13 then thenP (E (t.part 1) f) fun u f=>.ret (make t.op v u,f)
  else if t.kind=5 then .ret (make 45 (vn 0) v,f)
  else if t.kind=7 then
   (match keyOf v with
   |.ok k=>needP k f
   |.error e=>.ret (.error e,f))
  else if t.kind=9 then
   (match numIn v with
   |.ok i=>if i=0 then E (t.part 2) f else E (t.part 1) f
   |.error e=>.ret (.error e,f))
  else if t.kind=10 then .ret (size v,f)
  else if t.kind=11 then .ret (sumUp v,f)
  else if t.kind=12 then .ret (asWord v,f)
  else .ret (.ok v,f)
def tr:Nat→T→Option V→Nat→Pe V
 |0,_,_,f=>.ret (.error 11,f)
 |n + 1,t,it,f =>
  if t.kind=1 then firstP (fun u f=>tr n u it f) t f
  else if f=0 then .ret (.error 11,f)
  else if t.kind=2 then .ret ((match t.is with | some v=>.ok v | .none=>.error 11),f - 1)
  else if t.kind=3 then needP t.name (f - 1)
  else if t.kind=4 then .ret ((match it with | some v=>.ok v | .none=>.error 11),f - 1)
  else if t.kind=14 then tryP (tr n (t.part 0) it (f - 1)) fun f=>tr n (t.part 1) it f
  else if t.kind=15 then thenP (tr n (t.part 0) it (f - 1)) fun v f =>
   (match listIn v with
   |.ok l=>seqP (fun u f=>tr n (t.part 1) (some u) f) l [] f
   |.error e=>.ret (.error e,f))
  else if t.kind=16 then thenP (tr n (t.part 0) it (f - 1)) fun v f =>
   (match listIn v with
   |.ok l=>someP (fun u f=>tr n (t.part 1) (some u) f) l [] f
   |.error e=>.ret (.error e,f))
  else if t.kind=8 then seqP (fun u f=>tr n u it f) t.parts [] (f - 1)
  else firstP (fun u f=>tr n u it f) t (f - 1)
section
variable {σ:Type} (N:By→σ→Wo×σ)
def flat {β:Type} (q:(Except Nat β×Nat)×σ):Except Nat β×(Nat×σ):=(q.1.1,(q.1.2,q.2))
theorem flat_then {α β:Type} (p:Pe α) (k:α→Nat→Pe β) (K:α→Nat×σ→Except Nat β×(Nat×σ)) (hK:∀ a f s,K a (f,s)=flat ((k a f).run N s)) (s:σ) :
  flat ((thenP p k).run N s)=thenR (flat (p.run N s)) K:=by
 unfold thenP
 rw [Pg.run_bind]
 obtain ⟨⟨r,f⟩,s'⟩:=p.run N s
 cases r with
 |ok a=>exact (hK a f s').symm
 |error e=>rfl
theorem flat_seq {α:Type} (E:α→Nat×σ→Except Nat V×(Nat×σ)) (P:α→Nat→Pe V) (hE:∀ a f s,E a (f,s)=flat ((P a f).run N s)) :
  ∀ (l:List α) (acc:List V) (f:Nat) (s:σ),seqE E l acc (f,s)=flat ((seqP P l acc f).run N s)
 |[],acc,f,s=>rfl
 |a :: r,acc,f,s=>by
  rw [seqE,seqP,flat_then N _ _ (fun v s=>seqE E r (acc++[v]) s) (fun v f s=>flat_seq E P hE r _ f s),hE]
theorem flat_some (E:V→Nat×σ→Except Nat V×(Nat×σ)) (P:V→Nat→Pe V) (hE:∀ a f s,E a (f,s)=flat ((P a f).run N s)) :
  ∀ (l:List V) (acc:List V) (f:Nat) (s:σ),someE E l acc (f,s)=flat ((someP P l acc f).run N s)
 |[],acc,f,s=>rfl
 |a :: r,acc,f,s=>by
  rw [someE,someP,hE]
  refine (flat_then N _ _ _ (fun v f s=>?_) s).symm
  cases numIn v with
  |ok i =>
   by_cases h:i=0
   ·simp only [h,if_true]; exact flat_some E P hE r acc f s
   ·simp only [h,if_false]; exact flat_some E P hE r _ f s
  |error e=>rfl
theorem flat_first (E:T→Nat×σ→Except Nat V×(Nat×σ)) (P:T→Nat→Pe V) (hE:∀ a f s,E a (f,s)=flat ((P a f).run N s)) (t:T) (f:Nat) (s:σ) :
  firstE N E t (f,s)=flat ((firstP P t f).run N s):=by
 unfold firstE firstP
 rw [flat_then N _ _ _ (fun v f s=>?_),hE]
 by_cases h1:t.kind=1∨t.kind=13
 ·simp only [if_pos h1]
  rw [flat_then N _ _ _ (fun u f s=>?_),hE]
  rfl
 ·simp only [if_neg h1]
  by_cases h5:t.kind=5
  ·simp only [if_pos h5]; rfl
  ·simp only [if_neg h5]
   by_cases h7:t.kind=7
   ·simp only [if_pos h7]
    cases keyOf v <;> rfl
   ·simp only [if_neg h7]
    by_cases h9:t.kind=9
    ·simp only [if_pos h9]
     cases numIn v with
     |error e=>rfl
     |ok i =>
      by_cases h:i=0
      ·simp only [h,if_true]; exact hE _ _ _
      ·simp only [h,if_false]; exact hE _ _ _
    ·simp only [if_neg h9]
     by_cases h10:t.kind=10
     ·simp only [if_pos h10]; rfl
     ·simp only [if_neg h10]
      by_cases h11:t.kind=11
      ·simp only [if_pos h11]; rfl
      ·simp only [if_neg h11]
       by_cases h12:t.kind=12
       ·simp only [if_pos h12]; rfl
       ·simp only [if_neg h12]; rfl
theorem ev_tr:∀ (n:Nat) (t:T) (it:Option V) (f:Nat) (s:σ),ev N n t it (f,s)=flat ((tr n t it f).run N s)
 |0,_,_,_,_=>rfl
 |n + 1,t,it,f,s=>by
  unfold ev tr
  by_cases h1:t.kind=1
  ·simp only [if_pos h1]; exact flat_first N _ _ (fun u f s=>ev_tr n u it f s) t f s
  ·simp only [if_neg h1]
   by_cases h0:f=0
   ·simp only [if_pos h0]; rfl
   ·simp only [if_neg h0]
    by_cases h2:t.kind=2
    ·simp only [if_pos h2]; rfl
    ·simp only [if_neg h2]
     by_cases h3:t.kind=3
     ·simp only [if_pos h3]; rfl
     ·simp only [if_neg h3]
      by_cases h4:t.kind=4
      ·simp only [if_pos h4]; rfl
      ·simp only [if_neg h4]
       by_cases h14:t.kind=14
       ·simp only [if_pos h14]
        rw [ev_tr n (t.part 0) it (f - 1) s]
        unfold tryP
        rw [Pg.run_bind]
        obtain ⟨⟨r,f'⟩,s'⟩:=(tr n (t.part 0) it (f - 1)).run N s
        cases r with
        |ok v=>rfl
        |error e =>
         by_cases he:e=7∨e=8∨e=9∨e=10
         ·simp only [flat,if_pos he]; exact ev_tr n _ it _ _
         ·simp only [flat,if_neg he]; rfl
       ·simp only [if_neg h14]
        by_cases h15:t.kind=15
        ·simp only [if_pos h15]
         rw [flat_then N _ _ _ (fun v f s=>?_),ev_tr n]
         cases listIn v with
         |error e=>rfl
         |ok l=>exact flat_seq N _ _ (fun u f s=>ev_tr n _ _ f s) l [] f s
        ·simp only [if_neg h15]
         by_cases h16:t.kind=16
         ·simp only [if_pos h16]
          rw [flat_then N _ _ _ (fun v f s=>?_),ev_tr n]
          cases listIn v with
          |error e=>rfl
          |ok l=>exact flat_some N _ _ (fun u f s=>ev_tr n _ _ f s) l [] f s
         ·simp only [if_neg h16]
          by_cases h8:t.kind=8
          ·simp only [if_pos h8]; exact flat_seq N _ _ (fun u f s=>ev_tr n _ _ f s) _ _ _ _
          ·simp only [if_neg h8]; exact flat_first N _ _ (fun u f s=>ev_tr n u it f s) t _ s
end
/-! Who is told round stops,and is round; no one else is. -/
def Good {α:Type}:Pe α→Prop
 |⟨.inl q⟩=>q.1≠.error 12
 |⟨.inr (_,c)⟩=>(∃ f,c (.error 12)=.ret (.error 12,f))∧∀ w,w≠.error 12→Good (c w)
theorem good_then {α β:Type}:∀ (p:Pe α) (k:α→Nat→Pe β),Good p→(∀ v f,Good (k v f))→Good (thenP p k)
 |⟨.inl (.ok a,f)⟩,k,_,hk=>hk a f
 |⟨.inl (.error e,f)⟩,k,h,_=>by
  show (Except.error e:Except Nat β)≠_
  intro he
  apply h
  cases he
  rfl
 |⟨.inr (q,c)⟩,k,h,hk=>by
  obtain ⟨⟨f,hf⟩,h2⟩:=h
  refine ⟨⟨f,?_⟩,fun w hw=>good_then (c w) k (h2 w hw) hk⟩
  show (c _).bind _=_
  rw [hf]
  rfl
theorem good_try:∀ (p:Pe V) (k:Nat→Pe V),Good p→(∀ f,Good (k f))→Good (tryP p k)
 |⟨.inl (.ok a,_)⟩,_,_,_=>by
  show (Except.ok a:Except Nat V)≠_
  intro h
  cases h
 |⟨.inl (.error e,f)⟩,k,h,hk=>by
  unfold tryP
  simp only [Pg.bind]
  by_cases he:e=7∨e=8∨e=9∨e=10
  ·rw [if_pos he]; exact hk f
  ·rw [if_neg he]; exact h
 |⟨.inr (q,c)⟩,k,h,hk=>by
  obtain ⟨⟨f,hf⟩,h2⟩:=h
  refine ⟨⟨f,?_⟩,fun w hw=>good_try (c w) k (h2 w hw) hk⟩
  show (c _).bind _=_
  rw [hf]
  rfl
theorem listOf_12 (l:List V):listOf l≠.error 12:=by
 unfold listOf
 split <;> intro h <;> cases h
theorem good_seq {α:Type} (P:α→Nat→Pe V) (hP:∀ a f,Good (P a f)):∀ (l:List α) (acc:List V) (f:Nat),Good (seqP P l acc f)
 |[],acc,f=>listOf_12 acc
 |a :: r,acc,f=>good_then _ _ (hP a f) fun v f=>good_seq P hP r _ f
theorem numIn_12 (v:V):numIn v≠.error 12:=by unfold numIn; split <;> intro h <;> cases h
theorem listIn_12 (v:V):listIn v≠.error 12:=by unfold listIn; split <;> intro h <;> cases h
theorem keyOf_12 (v:V):keyOf v≠.error 12:=by
 unfold keyOf
 split
 ·intro h; cases h
 ·split <;> intro h <;> cases h
 ·intro h; cases h
theorem good_some (P:V→Nat→Pe V) (hP:∀ a f,Good (P a f)):∀ (l:List V) (acc:List V) (f:Nat),Good (someP P l acc f)
 |[],acc,f=>listOf_12 acc
 |a :: r,acc,f=>good_then _ _ (hP a f) fun v f=>by
  have h12:=numIn_12 v
  cases h:numIn v with
  |ok i =>
   show Good (if i=0 then _ else _)
   by_cases h0:i=0
   ·rw [if_pos h0]; exact good_some P hP r _ f
   ·rw [if_neg h0]; exact good_some P hP r _ f
  |error e =>
   rw [h] at h12
   intro he
   apply h12
   cases he
   rfl
theorem good_need (k:By) (f:Nat):Good (needP k f):=⟨⟨f,rfl⟩,fun _ hw=>hw⟩
theorem nums_12 (x y:V) (g:Int→Int→Except Nat V) (hg:∀ i j,g i j≠.error 12):nums x y g≠.error 12:=by
 unfold nums
 split
 ·exact hg _ _
 ·intro h; cases h
theorem make_12 (op:Nat) (x y:V):make op x y≠.error 12:=by
 unfold make
 split
 ·unfold plus
  split
  ·intro h; cases h
  ·split <;> intro h <;> cases h
  ·exact listOf_12 _
  ·intro h; cases h
 ·split
  ·exact nums_12 _ _ _ fun _ _ h=>by cases h
  ·split
   ·exact nums_12 _ _ _ fun _ _ h=>by cases h
   ·split
    ·refine nums_12 _ _ _ fun _ _=>?_
     split <;> intro h <;> cases h
    ·split
     ·unfold less
      split <;> intro h <;> cases h
     ·split
      ·intro h; cases h
      ·split
       ·exact nums_12 _ _ _ fun _ _ h=>by cases h
       ·split
        ·exact nums_12 _ _ _ fun _ _ h=>by cases h
        ·unfold atPlace place
         split
         ·split
          ·split
           ·intro h; cases h
           ·rename_i h1; split at h1 <;> cases h1; intro h; cases h
          ·split
           ·intro h; cases h
           ·rename_i h1; split at h1 <;> cases h1; intro h; cases h
          ·intro h; cases h
         ·intro h; cases h
theorem sumFrom_12:∀ (l:List V) (a:Int),sumFrom a l≠.error 12
 |[],a=>by intro h; cases h
 |v :: r,a=>by
  unfold sumFrom
  split
  ·exact sumFrom_12 r _
  ·intro h; cases h
theorem good_first (P:T→Nat→Pe V) (hP:∀ a f,Good (P a f)) (t:T) (f:Nat):Good (firstP P t f):=by
 unfold firstP
 refine good_then _ _ (hP _ _) fun v f=>?_
 split
 ·exact good_then _ _ (hP _ _) fun u f=>make_12 _ _ _
 ·split
  ·exact make_12 45 (vn 0) v
  ·split
   ·have h12:=keyOf_12 v
    split
    ·exact good_need _ _
    ·rename_i e h
     rw [h] at h12
     intro he
     apply h12
     cases he
     rfl
   ·split
    ·have h12:=numIn_12 v
     split
     ·split
      ·exact hP _ _
      ·exact hP _ _
     ·rename_i e h
      rw [h] at h12
      intro he
      apply h12
      cases he
      rfl
    ·split
     ·show size v≠_
      unfold size
      split <;> intro h <;> cases h
     ·split
      ·show sumUp v≠_
       unfold sumUp
       split
       ·exact sumFrom_12 _ _
       ·intro h; cases h
      ·split
       ·show asWord v≠_
        unfold asWord
        split <;> intro h <;> cases h
       ·intro h; cases h
theorem good_tr:∀ (n:Nat) (t:T) (it:Option V) (f:Nat),Good (tr n t it f)
 |0,_,_,_=>by intro h; cases h
 |n + 1,t,it,f=>by
  unfold tr
  split
  ·exact good_first _ (fun u f=>good_tr n u it f) t f
  ·split
   ·intro h; cases h
   ·split
    ·show (match t.is with | some v=>Except.ok v | .none=>Except.error 11)≠_
     split <;> intro h <;> cases h
    ·split
     ·exact good_need _ _
     ·split
      ·show (match it with | some v=>Except.ok v | .none=>Except.error 11)≠_
       split <;> intro h <;> cases h
      ·split
       ·exact good_try _ _ (good_tr n _ _ _) fun f=>good_tr n _ _ _
       ·split
        ·refine good_then _ _ (good_tr n _ _ _) fun v f=>?_
         have h12:=listIn_12 v
         split
         ·exact good_seq _ (fun u f=>good_tr n _ _ _) _ _ _
         ·rename_i e h
          rw [h] at h12
          intro he
          apply h12
          cases he
          rfl
        ·split
         ·refine good_then _ _ (good_tr n _ _ _) fun v f=>?_
          have h12:=listIn_12 v
          split
          ·exact good_some _ (fun u f=>good_tr n _ _ _) _ _ _
          ·rename_i e h
           rw [h] at h12
           intro he
           apply h12
           cases he
           rfl
         ·split
          ·exact good_seq _ (fun u f=>good_tr n _ _ _) _ _ _
          ·exact good_first _ (fun u f=>good_tr n u it f) t _
def Pg.worth:Pe V→Pg Wo
 |⟨.inl q⟩=>.ret q.1
 |⟨.inr (k,c)⟩=>.ask k fun w=>(c w).worth
theorem Pg.run_worth {σ:Type} (N:By→σ→Wo×σ):∀ (p:Pe V) (s:σ),p.worth.run N s=((p.run N s).1.1,(p.run N s).2)
 |⟨.inl _⟩,_=>rfl
 |⟨.inr (_,_)⟩,s=>by simp only [Pg.worth,Pg.run,Pg.ask]; exact Pg.run_worth N _ _
def Fin:Pg Wo→Prop
 |⟨.inl w⟩=>w≠.error 12
 |⟨.inr (_,c)⟩=>c (.error 12)=.ret (.error 12)∧∀ w,w≠.error 12→Fin (c w)
theorem fin_worth:∀ (p:Pe V),Good p→Fin p.worth
 |⟨.inl _⟩,h=>h
 |⟨.inr (_,c)⟩,⟨⟨f,hf⟩,h2⟩=>⟨by show (c _).worth=_; rw [hf]; rfl,fun w hw=>fin_worth (c w) (h2 w hw)⟩
end Lard
end
namespace Lard
abbrev RT:=Except (Nat×Nat) (Nat×List T)
def thenT (r:RT) (f:Nat→List T→RT):RT :=
 match r with
 |.ok (j,ts)=>f j ts
 |.error e=>.error e
def placeOf:RT→Except (Nat×Nat) Nat
 |.ok (j,_)=>.ok j
 |.error e=>.error e
def expT (l:List UInt8) (t:List UInt8) (i:Nat) (ts:List T):RT :=
 if tx l i=t then .ok (nxt l i,ts) else .error (3,i)
def isOf (l:List UInt8):Option V :=
 match (tok l).1 with
 |2=>some (vn ((numOf (l.take (tok l).2)).getD 0))
 |3=>some (vw ((l.drop 1).take ((tok l).2 - 2)))
 |_=>.none
def byteOf (t:List UInt8):Nat:=if t=[109,105,110] then 109 else if t=[109,97,120] then 120 else 64
def nodeT (l:List UInt8) (k i:Nat) (ts:List T):T :=
 ⟨k,if k=13 then byteOf (tx l i) else 0,if k=3 then tx l i else [],isOf (l.drop i),ts⟩
def operT (l:List UInt8) (i:Nat) (ts us:List T):T:=⟨1,((tx l i).headD 0).toNat,[],.none,ts++us⟩
def partsT (l:List UInt8) (k i:Nat) (R F W:Nat→RT) (I:Nat→List T→RT):RT :=
 if k=5 then F i
 else if k=6 then thenT (R i) (expT l [41])
 else if k=7 then thenT (R i) (expT l [93])
 else if k=8 then (if tx l i=[125] then .ok (nxt l i,[]) else thenT (R i) I)
 else if k=9 then thenT (thenT (R i) (expT l [116,104,101,110])) fun j ts=>thenT (thenT (R j) (expT l [101,108,115,101])) fun j us=>thenT (F j) fun j vs=>.ok (j,ts++(us++vs))
 else if k=10∨k=11∨k=12 then thenT (expT l [40] i []) fun j _=>thenT (R j) (expT l [41])
 else if k=13∨k=14 then thenT (expT l [40] i []) fun j _=>thenT (thenT (R j) (expT l [44])) fun j ts=>thenT (thenT (R j) (expT l [41])) fun j us=>.ok (j,ts++us)
 else if k=15∨k=16 then thenT (expT l [40] i []) fun j _=>thenT (thenT (R j) (expT l [44])) fun j ts=>thenT (thenT (W j) (expT l [41])) fun j us=>.ok (j,ts++us)
 else .ok (i,[])
def PT (l:List UInt8):Nat→Nat→Nat→Nat→Nat→List T→RT
 |0,_,_,_,_,_=>.error (0,0)
 |n + 1,tag,deep,its,i,acc =>
  if tag=0 then thenT (PT l n 1 deep its i []) fun j ts=>if oneB l j [60,61]=true then thenT (PT l n 1 deep its (nxt l j) []) fun k us=>.ok (k,[operT l j ts us]) else .ok (j,ts)
  else if tag=1 then thenT (PT l n 2 deep its i []) fun j ts=>PT l n 4 deep its j ts
  else if tag=2 then thenT (PT l n 3 deep its i []) fun j ts=>PT l n 5 deep its j ts
  else if tag=3 then
   (if kind l i its=0 then .error (3,i) else if deep=20 then .error (4,i)
   else thenT (partsT l (kind l i its) (nxt l i) (fun j=>PT l n 0 (deep + 1) its j []) (fun j=>PT l n 3 (deep + 1) its j []) (fun j=>PT l n 0 (deep + 1) (its + 1) j []) (fun j ts=>PT l n 6 (deep + 1) its j ts)) fun j ts=>.ok (j,[nodeT l (kind l i its) i ts]))
  else if tag=4 then (if oneB l i [43,45]=true then thenT (PT l n 2 deep its (nxt l i) []) fun j us=>PT l n 4 deep its j [operT l i acc us] else .ok (i,acc))
  else if tag=5 then (if oneB l i [42,47]=true then thenT (PT l n 3 deep its (nxt l i) []) fun j us=>PT l n 5 deep its j [operT l i acc us] else .ok (i,acc))
  else (if tx l i=[44] then thenT (PT l n 0 deep its (nxt l i) []) fun j us=>PT l n 6 deep its j (acc++us) else expT l [125] i acc)
theorem place_then (r:RT) (f:Nat→List T→RT) (g:Nat→Except (Nat×Nat) Nat) (h:∀ j ts,placeOf (f j ts)=g j):placeOf (thenT r f)=andThen (placeOf r) g:=by
 rcases r with e | ⟨j,ts⟩
 ·rfl
 ·exact h j ts
theorem place_exp (l t:List UInt8) (i:Nat) (ts:List T):placeOf (expT l t i ts)=expect l t i:=by
 unfold expT expect; split <;> rfl
theorem place_parts (l:List UInt8) (k i:Nat) (R F W:Nat→RT) (I:Nat→List T→RT) (R' F' I' W':Nat→Except (Nat×Nat) Nat)
  (hR:∀ j,placeOf (R j)=R' j) (hF:∀ j,placeOf (F j)=F' j) (hW:∀ j,placeOf (W j)=W' j) (hI:∀ j ts,placeOf (I j ts)=I' j) :
  placeOf (partsT l k i R F W I)=parts l k i R' F' I' W':=by
 have hE:∀ t j ts,placeOf (expT l t j ts)=expect l t j:=place_exp l
 have hRE:∀ t j,placeOf (thenT (R j) (expT l t))=andThen (R' j) (expect l t):=fun t j=>by
  rw [place_then _ _ (expect l t) (hE t),hR]
 have hWE:∀ t j,placeOf (thenT (W j) (expT l t))=andThen (W' j) (expect l t):=fun t j=>by
  rw [place_then _ _ (expect l t) (hE t),hW]
 have hK:∀ (r:RT) (ts:List T→List T),placeOf (thenT r fun j us=>.ok (j,ts us))=placeOf r:=fun r ts=>by
  rcases r with e | ⟨j,us⟩ <;> rfl
 unfold partsT parts
 split
 ·exact hF i
 split
 ·exact hRE _ _
 split
 ·exact hRE _ _
 split
 ·split
  ·rfl
  ·rw [place_then _ _ I' hI,hR]
 split
 ·rw [place_then (g:=fun j=>andThen (andThen (R' j) (expect l [101,108,115,101])) F'),hRE]
  intro j ts
  rw [place_then (g:=F'),hRE]
  intro j us
  rw [hK,hF]
 split
 ·rw [place_then (g:=fun j=>andThen (R' j) (expect l [41])),hE]
  intro j ts
  exact hRE _ _
 split
 ·rw [place_then (g:=fun j=>andThen (andThen (R' j) (expect l [44])) fun j=>andThen (R' j) (expect l [41])),hE]
  intro j ts
  rw [place_then (g:=fun j=>andThen (R' j) (expect l [41])),hRE]
  intro j us
  rw [hK,hRE]
 split
 ·rw [place_then (g:=fun j=>andThen (andThen (R' j) (expect l [44])) fun j=>andThen (W' j) (expect l [41])),hE]
  intro j ts
  rw [place_then (g:=fun j=>andThen (W' j) (expect l [41])),hRE]
  intro j us
  rw [hK,hWE]
 ·rfl
theorem place_PT (l:List UInt8):∀ (n tag deep its i:Nat) (acc:List T),placeOf (PT l n tag deep its i acc)=P l n tag deep its i:=by
 intro n
 induction n with
 |zero=>intros; rfl
 |succ n ih =>
  intro tag deep its i acc
  have hK:∀ (r:RT) (ts:List T→List T),placeOf (thenT r fun j us=>.ok (j,ts us))=placeOf r:=fun r ts=>by
   rcases r with e | ⟨j,us⟩ <;> rfl
  unfold PT P
  split
  ·rw [place_then (g:=fun j=>if oneB l j [60,61]=true then P l n 1 deep its (nxt l j) else .ok j),ih]
   intro j ts
   split
   ·rw [hK _ (fun us=>[operT l j ts us]),ih]
   ·rfl
  split
  ·rw [place_then (g:=fun j=>P l n 4 deep its j),ih]
   intro j ts
   exact ih ..
  split
  ·rw [place_then (g:=fun j=>P l n 5 deep its j),ih]
   intro j ts
   exact ih ..
  split
  ·split
   ·rfl
   split
   ·rfl
   ·rw [hK _ (fun ts=>[nodeT l (kind l i its) i ts])]
    exact place_parts _ _ _ _ _ _ _ _ _ _ _ (fun _=>ih ..) (fun _=>ih ..) (fun _=>ih ..) (fun _ _=>ih ..)
  split
  ·split
   ·rw [place_then (g:=fun j=>P l n 4 deep its j),ih]
    intro j ts
    exact ih ..
   ·rfl
  split
  ·split
   ·rw [place_then (g:=fun j=>P l n 5 deep its j),ih]
    intro j ts
    exact ih ..
   ·rfl
  ·split
   ·rw [place_then (g:=fun j=>P l n 6 deep its j),ih]
    intro j ts
    exact ih ..
   ·exact place_exp ..
def treeOf (l:List UInt8):T :=
 match PT l (8 * l.length + 5) 0 0 0 (skip l 0) [] with
 |.ok (_,ts)=>ts.headD T.none
 |.error _=>T.none
end Lard
end Go.Proofs.YtpekpdimdelncaaGreatDoor
