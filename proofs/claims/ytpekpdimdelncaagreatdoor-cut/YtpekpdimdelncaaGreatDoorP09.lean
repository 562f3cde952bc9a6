/- Out of: W6, W7, W8, W9, W10, W11, W12, W13, W14, U3, U4. -/
import Derived.Test.YtpekpdimdelncaaGreatDoorP08
import Derived.Lib.BufferOwn
import Derived.Deep.RegionWith
import Derived.Test.YtpekpdimdelncaaGreatDoorP01
import Derived.Deep.AppendLies
namespace Go.Proofs.YtpekpdimdelncaaGreatDoor
section
set_option maxRecDepth 100000
set_option maxHeartbeats 1000000
open Go.RowKit
attribute [local go_sem] run_store_isV
def pCells (s:ByteArray) (i deep its:Nat):Array Value :=
 #[.string s,.int .i64 ((Lard.tok (s.data.toList.drop i)).1:Int),.string (s.extract i (i + (Lard.tok (s.data.toList.drop i)).2)),.int .i64 (i:Int),isV (s.data.toList.drop i),.int .i64 (deep:Int),.int .i64 (its:Int)]
def PAt (w:World) (s:ByteArray) (pb i deep its:Nat):Prop:=w.heap[pb]? = some (.cells (pCells s i deep its) 183 (0,0))
theorem PAt.lt {w:World} {s:ByteArray} {pb i deep its:Nat} (h:PAt w s pb i deep its):pb < w.heap.size:=by
 by_cases hp:pb < w.heap.size
 ·exact hp
 ·unfold PAt at h; rw [Array.getElem?_eq_none (by omega)] at h; cases h
theorem PAt.cells {w:World} {s:ByteArray} {pb i deep its:Nat} (h:PAt w s pb i deep its) :
  w.cell? ⟨pb,0,none⟩=some (.string s)∧w.cell? ⟨pb,1,none⟩=some (.int .i64 ((Lard.tok (s.data.toList.drop i)).1:Int))∧w.cell? ⟨pb,2,none⟩=some (.string (s.extract i (i + (Lard.tok (s.data.toList.drop i)).2)))∧w.cell? ⟨pb,3,none⟩=some (.int .i64 (i:Int))∧w.cell? ⟨pb,4,none⟩=some (isV (s.data.toList.drop i))∧w.cell? ⟨pb,5,none⟩=some (.int .i64 (deep:Int))∧w.cell? ⟨pb,6,none⟩=some (.int .i64 (its:Int))∧(∀ o,w.frozen? ⟨pb,o,none⟩=false):=by
 unfold PAt at h
 refine ⟨?_,?_,?_,?_,?_,?_,?_,?_⟩
 all_goals simp [World.cell?,World.frozen?,h,pCells]
def refusal (c i:Nat):Ending:=.panicked [{ v:=.iface 179 (.agg #[.int .i64 (c:Int),.int .i64 (i:Int)]),recovered:=false }]
theorem refuse_any (s:ByteArray) (pb i deep its:Nat) (c:Nat) (w:World) (h:PAt w s pb i deep its) :
  Calls Tryz.prog 90 #[.pointer (some ⟨pb,0,none⟩),.int .i64 (c:Int)] w fun e w'=>e=refusal c i∧w=w':=by
 obtain ⟨c0,c1,c2,c3,c4,c5,c6,cf⟩:=h.cells
 go_enter Tryz.func90,Tryz.ntmps90
 go_wp2_with fail
 exact ⟨rfl,rfl,rfl⟩
theorem tx_extract (s:ByteArray) (i:Nat):(s.extract i (i + (Lard.tok (s.data.toList.drop i)).2)).toList=Lard.tx s.data.toList i:=by
 rw [Lib.extract_toList,Nat.add_sub_cancel_left]; rfl
theorem tx_extract_data (s:ByteArray) (i:Nat):(s.extract i (i + (Lard.tok (s.data.toList.drop i)).2)).data.toList=Lard.tx s.data.toList i:=by
 rw [Lib.extract_data,Nat.add_sub_cancel_left]; rfl
theorem ret_bool {a b:Bool} (h:a=b):Ending.returned (.bool a)=.returned (.bool b):=by rw [h]
theorem sees_any (s:ByteArray) (pb i deep its:Nat) (t:ByteArray) (w:World) (h:PAt w s pb i deep its) :
  Calls Tryz.prog 313 #[.pointer (some ⟨pb,0,none⟩),.string t] w fun e w'=>e=.returned (.bool (Lard.tx s.data.toList i == t.data.toList))∧w=w':=by
 obtain ⟨c0,c1,c2,c3,c4,c5,c6,cf⟩:=h.cells
 go_enter Tryz.func313,Tryz.ntmps313
 go_wp2_with fail
 go_ret
 exact ⟨ret_bool (by rw [tx_extract,Lib.toList_data]),rfl⟩
theorem seesOne_any (s:ByteArray) (pb i deep its:Nat) (t:ByteArray) (w:World) (h:PAt w s pb i deep its) :
  Calls Tryz.prog 132 #[.pointer (some ⟨pb,0,none⟩),.string t] w fun e w'=>e=.returned (.bool (Lard.oneB s.data.toList i t.data.toList))∧w=w':=by
 obtain ⟨c0,c1,c2,c3,c4,c5,c6,cf⟩:=h.cells
 by_cases hk:(Lard.tok (s.data.toList.drop i)).1=6
 ·obtain ⟨c,r,hl,ht⟩:=Lard.tok_sign _ hk
  have hx:Lard.tx s.data.toList i=[c]:=by rw [Lard.tx,ht,hl]; rfl
  have he:s.extract i (i + (Lard.tok (s.data.toList.drop i)).2)=⟨#[c]⟩:=by
   rw [Lib.extract_eq,Nat.add_sub_cancel_left,ht,hl]; rfl
  have hv:Lard.oneB s.data.toList i t.data.toList=decide (0≤Lib.indexByte t.data.toList c):=by
   rw [Lard.oneB,hx]; simp [hk]
  rw [he] at c2
  rw [ht] at c1
  have HV:=hide hv
  clear hv he hx hl ht hk h
  go_enter Tryz.func132,Tryz.ntmps132
  go_wp2_with (go_at_call 174; refine (Tryz.strings_Contains_one _ _ _).mono ?_; rintro e w' ⟨rfl,rfl⟩)
  go_ret
  exact ⟨ret_bool HV.out.symm,rfl⟩
 ·have hv:Lard.oneB s.data.toList i t.data.toList=false:=by
   unfold Lard.oneB
   split
   ·simp [hk]
   ·rfl
  have HV:=hide hv
  have hk':(((Lard.tok (s.data.toList.drop i)).1:Int) == 6)=false:=by
   rw [beq_eq_false_iff_ne]; omega
  clear hv hk h
  go_enter Tryz.func132,Tryz.ntmps132
  go_wp2_with fail
  go_ret
  exact ⟨ret_bool HV.out.symm,rfl⟩
theorem signKind_any (t:ByteArray) (w:World) :
  Calls Tryz.prog 293 #[.string t] w fun e w'=>e=.returned (.int .i64 (Lard.signK t.data.toList:Int))∧w=w':=by
 go_enter Tryz.func293,Tryz.ntmps293
 go_wp2_with fail
 all_goals first
  |(exfalso; simp_all; done)
  |(go_ret; refine ⟨?_,rfl⟩; rw [←Lib.toList_data]; simp_all [Lard.signK])
theorem termKind_raw (x:ByteArray) (pb its:Nat) (w:World) (c2:w.cell? ⟨pb,2,none⟩=some (.string x)) (c6:w.cell? ⟨pb,6,none⟩=some (.int .i64 (its:Int))) :
  Calls Tryz.prog 292 #[.pointer (some ⟨pb,0,none⟩)] w fun e w'=>e=.returned (.int .i64 (Lard.termK x.toList its:Int))∧w=w':=by
 go_enter Tryz.func292,Tryz.ntmps292
 go_wp2_with fail
 all_goals clear c2 c6
 all_goals first
  |(exfalso; simp_all; done)
  |(go_ret; refine ⟨?_,rfl⟩; simp_all [Lard.termK]; done)
  |(go_ret; refine ⟨?_,rfl⟩; simp_all [Lard.termK]; omega)
theorem kindHere_any (s:ByteArray) (pb i deep its:Nat) (w:World) (h:PAt w s pb i deep its) :
  Calls Tryz.prog 261 #[.pointer (some ⟨pb,0,none⟩)] w fun e w'=>e=.returned (.int .i64 (Lard.kind s.data.toList i its:Int))∧w=w':=by
 obtain ⟨c0,c1,c2,c3,c4,c5,c6,cf⟩:=h.cells
 have ht:=termKind_raw _ _ _ _ c2 c6
 have hsg:=signKind_any (s.extract i (i + (Lard.tok (s.data.toList.drop i)).2)) w
 rw [tx_extract_data] at hsg
 rw [tx_extract] at ht
 have hv:Lard.kind s.data.toList i its=Lard.kindOf (Lard.tok (s.data.toList.drop i)).1 (Lard.tx s.data.toList i) its:=rfl
 rw [hv]
 have HT:=hide ht
 have HS:=hide hsg
 clear ht hsg hv c0 c3 c4 c5 h
 generalize (Lard.tok (s.data.toList.drop i)).1=k at *
 by_cases h2:k=2
 ·subst h2
  go_enter Tryz.func261,Tryz.ntmps261
  go_wp2_with fail
  go_ret
  exact ⟨by simp [Lard.kindOf],rfl⟩
 by_cases h3:k=3
 ·subst h3
  go_enter Tryz.func261,Tryz.ntmps261
  go_wp2_with fail
  go_ret
  exact ⟨by simp [Lard.kindOf],rfl⟩
 by_cases h4:k=4
 ·subst h4
  go_enter Tryz.func261,Tryz.ntmps261
  go_wp2_with fail
  go_ret
  exact ⟨by simp [Lard.kindOf],rfl⟩
 by_cases h5:k=5
 ·subst h5
  go_enter Tryz.func261,Tryz.ntmps261
  go_wp2_with fail
  refine HT.out.mono ?_
  rintro e w' ⟨rfl,rfl⟩
  go_wp2_with fail
  go_ret
  exact ⟨by simp [Lard.kindOf],rfl⟩
 by_cases h6:k=6
 ·subst h6
  go_enter Tryz.func261,Tryz.ntmps261
  go_wp2_with fail
  refine HS.out.mono ?_
  rintro e w' ⟨rfl,rfl⟩
  go_wp2_with fail
  go_ret
  exact ⟨by simp [Lard.kindOf],rfl⟩
 ·have e2:((k:Int) == 2)=false:=by rw [beq_eq_false_iff_ne]; omega
  have e3:((k:Int) == 3)=false:=by rw [beq_eq_false_iff_ne]; omega
  have e4:((k:Int) == 4)=false:=by rw [beq_eq_false_iff_ne]; omega
  have e5:((k:Int) == 5)=false:=by rw [beq_eq_false_iff_ne]; omega
  have e6:((k:Int) == 6)=false:=by rw [beq_eq_false_iff_ne]; omega
  have HV:=hide (show Lard.kindOf k (Lard.tx s.data.toList i) its=0 by simp [Lard.kindOf,h2,h3,h4,h5,h6])
  clear h2 h3 h4 h5 h6
  go_enter Tryz.func261,Tryz.ntmps261
  go_wp2_with fail
  go_ret
  exact ⟨by rw [HV.out]; rfl,rfl⟩
end
section
set_option maxRecDepth 100000
set_option maxHeartbeats 1000000
open Go.RowKit
attribute [local go_sem] run_store_isV
theorem tokenAt_int (s:ByteArray) (x:Int) (a:Nat) (w:World) (hx:x=(a:Int)) (g:G w) (hs:s.size≤281474976710656) (ha:a≤s.size) :
  Calls Tryz.prog 88 #[.string s,.int .i64 x] w fun e w'=>e=.returned (tokV s (Lard.skip s.data.toList a))∧Below w.heap.size w w':=by
 subst hx; exact tokenAt_any s a w g hs ha
theorem wrap_sum (a b:Nat) (h:a + b≤281474976710656):IntKind.i64.wrap ((a:Int) + (b:Int))=((a + b:Nat):Int):=by
 rw [IntKind.wrap_i64]; omega
theorem after {w X w1:World} {pb:Nat} (h0:Below w.heap.size w X) (h1:Below X.heap.size X w1) (hlt:pb < w.heap.size) (cf:∀ o,w.frozen? ⟨pb,o,none⟩=false) :
  Below w.heap.size w w1∧(∀ o,w1.cell? ⟨pb,o,none⟩=w.cell? ⟨pb,o,none⟩)∧(∀ o,w1.frozen? ⟨pb,o,none⟩=false):=by
 have hB:=h0.trans (h1.mono h0.size)
 exact ⟨hB,fun o=>hB.cell (p:=⟨pb,o,none⟩) hlt,fun o=>(hB.frozen (p:=⟨pb,o,none⟩) hlt).trans (cf o)⟩
theorem blk_set {w:World} {b:Nat} {cs:Array Value} {t:TypeId} {m:Nat×Nat} (h:w.heap[b]? = some (.cells cs t m)) (o:Nat) (v:Value):(w.setCell ⟨b,o,none⟩ v).heap[b]? = some (.cells (cs.setIfInBounds o v) t m):=by
 simp [World.setCell,Array.getElem?_modify,h]
theorem PAt.other {w:World} {s:ByteArray} {pb i deep its:Nat} (h:PAt w s pb i deep its) {b:Nat} (hb:b≠pb) (o:Nat) (v:Value):PAt (w.setCell ⟨b,o,none⟩ v) s pb i deep its :=
 (Below.heap_setCell w ⟨b,o,none⟩ v pb (fun e=>hb e.symm)).trans h
theorem PAt.alloc {w:World} {s:ByteArray} {pb i deep its:Nat} (h:PAt w s pb i deep its) (o:Obj):PAt (w.alloc o) s pb i deep its :=
 (Below.heap_alloc w o pb h.lt).trans h
theorem PAt.below {w w':World} {s:ByteArray} {pb i deep its B:Nat} (h:PAt w s pb i deep its) (hB:Below B w w') (hb:pb < B):PAt w' s pb i deep its :=
 (hB.block pb hb).trans h
theorem PAt.step {w:World} {s:ByteArray} {pb i deep its:Nat} (h:PAt w s pb i deep its) (j:Nat) :
  PAt ((((w.setCell ⟨pb,1,none⟩ (.int .i64 ((Lard.tok (s.data.toList.drop j)).1:Int))).setCell ⟨pb,2,none⟩ (.string (s.extract j (j + (Lard.tok (s.data.toList.drop j)).2)))).setCell ⟨pb,3,none⟩ (.int .i64 (j:Int))).setCell ⟨pb,4,none⟩ (isV (s.data.toList.drop j))) s pb j deep its:=by
 have h1:=blk_set (blk_set (blk_set (blk_set h 1 (.int .i64 ((Lard.tok (s.data.toList.drop j)).1:Int))) 2 (.string (s.extract j (j + (Lard.tok (s.data.toList.drop j)).2)))) 3 (.int .i64 (j:Int))) 4 (isV (s.data.toList.drop j))
 exact h1
theorem PAt.deep {w:World} {s:ByteArray} {pb i deep its:Nat} (h:PAt w s pb i deep its) (d:Nat):PAt (w.setCell ⟨pb,5,none⟩ (.int .i64 (d:Int))) s pb i d its:=blk_set h 5 _
theorem PAt.its {w:World} {s:ByteArray} {pb i deep its:Nat} (h:PAt w s pb i deep its) (d:Nat):PAt (w.setCell ⟨pb,6,none⟩ (.int .i64 (d:Int))) s pb i deep d:=blk_set h 6 _
theorem Fr.trans {a w w':World} {row:Option Nat} (h:a.grownBy w row) (k:w.grownBy w' row):a.grownBy w' row:=Lib.grownBy_trans h k
theorem Fr.set {a w:World} {pb:Nat} (h:a.grownBy w (some pb)) (i:Nat) (v:Value):a.grownBy (w.setCell ⟨pb,i,none⟩ v) (some pb):=Lib.grownBy_setB h i v
theorem Fr.new {a w:World} {row:Option Nat} (h:a.grownBy w row) {b:Nat} (hb:a.heap.size≤b) (i:Nat) (v:Value):a.grownBy (w.setCell ⟨b,i,none⟩ v) row :=
 ⟨h.os,h.tape,h.output,by simpa [World.setCell] using h.size,fun k hk hr=>(Below.heap_setCell w ⟨b,i,none⟩ v k (by show k≠b; omega)).trans (h.block k hk hr)⟩
theorem Fr.below {a w w':World} {row:Option Nat} (h:a.grownBy w row) {B:Nat} (hb:Below B w w') (hB:a.heap.size≤B):a.grownBy w' row :=
 ⟨hb.os.trans h.os,hb.tape.trans h.tape,hb.output.trans h.output,Nat.le_trans h.size hb.size,fun k hk hr=>(hb.block k (by omega)).trans (h.block k hk hr)⟩
theorem take_any (s:ByteArray) (pb i deep its:Nat) (w:World) (g:G w) (h:PAt w s pb i deep its) (hs:s.size≤281474976710656) (hi:i≤s.size) :
  Calls Tryz.prog 175 #[.pointer (some ⟨pb,0,none⟩)] w fun e w'=>e=.returned (tokV s i)∧PAt w' s pb (Lard.nxt s.data.toList i) deep its∧w.grownBy w' (some pb):=by
 obtain ⟨c0,c1,c2,c3,c4,c5,c6,cf⟩:=h.cells
 have hlt:=h.lt
 have hin:i + (Lard.tok (s.data.toList.drop i)).2≤s.size:=by
  have:=Lard.tok_in s.data.toList i (by simpa using hi); simpa using this
 have hsz:(s.extract i (i + (Lard.tok (s.data.toList.drop i)).2)).size=(Lard.tok (s.data.toList.drop i)).2:=by
  rw [ByteArray.size_extract]; omega
 go_enter Tryz.func175,Tryz.ntmps175
 go_wp2_with fail
 have hB0:Below w.heap.size w (((w.alloc (Obj.cells #[Value.int IntKind.i64 0,Value.string { data:=#[] },Value.int IntKind.i64 0,Value.nilIface] 172)).alloc (Obj.cells #[Value.int IntKind.i64 ↑(Lard.tok (List.drop i s.data.toList)).fst,Value.string (s.extract i (i + (Lard.tok (List.drop i s.data.toList)).snd)),Value.int IntKind.i64 ↑i,isV (List.drop i s.data.toList)] 172)).drew) :=
  (((Below.refl _ _).alloc (Nat.le_refl _) _).alloc (by simp) _).drew
 have g0:=g.below hB0 g.size
 go_region_with (go_at_call 88; refine (tokenAt_int s _ (i + (Lard.tok (s.data.toList.drop i)).2) _ ?_ g0 hs hin).mono ?_; (· rw [wrap_sum _ _ (by omega)]); rintro e w1 ⟨rfl,hb1⟩; (obtain ⟨hB1,e1,f1⟩:=after hB0 hb1 hlt cf); unfold tokV)
 all_goals (obtain ⟨hc,hf⟩:=bcell hb1)
 all_goals (have hz1:w.heap.size + 1 < w1.heap.size:=by have:=hb1.size; simp at this; omega)
 all_goals clear g0 g hi
 all_goals (have hne1:¬ w.heap.size=pb:=by omega)
 all_goals (have hne2:¬ pb=w.heap.size:=by omega)
 all_goals (have n0:w1.cell? ⟨w.heap.size,0,none⟩=some (.int .i64 0):=by rw [hc _ _ (by simp; omega)]; simp [go_sem])
 all_goals (have n1:w1.cell? ⟨w.heap.size,1,none⟩=some (.string ⟨#[]⟩):=by rw [hc _ _ (by simp; omega)]; simp [go_sem])
 all_goals (have n2:w1.cell? ⟨w.heap.size,2,none⟩=some (.int .i64 0):=by rw [hc _ _ (by simp; omega)]; simp [go_sem])
 all_goals (have n3:w1.cell? ⟨w.heap.size,3,none⟩=some .nilIface:=by rw [hc _ _ (by simp; omega)]; simp [go_sem])
 all_goals go_wp2_with fail
 all_goals refine bodyPost_ret (v:=tokV s i) (by simp [results,Tryz.results175,go_sem,tokV,n0,n1,n2,n3]) rfl ⟨rfl,((((PAt.step (h.below hB1 hlt) _).other hne1 _ _).other hne1 _ _).other hne1 _ _).other hne1 _ _,Fr.new (Fr.new (Fr.new (Fr.new (Fr.set (Fr.set (Fr.set (Fr.set (Fr.below (World.grownBy.refl _ _) hB1 (Nat.le_refl _)) _ _) _ _) _ _) _ _) (Nat.le_refl _) _ _) (Nat.le_refl _) _ _) (Nat.le_refl _) _ _) (Nat.le_refl _) _ _⟩
end
section
set_option maxRecDepth 100000
set_option maxHeartbeats 400000
open Go.RowKit
theorem G.fr {w w':World} {pb:Nat} (g:G w) (h:w.grownBy w' (some pb)) (hp:8≤pb):G w' :=
 g.below (B:=8) ⟨h.os,h.tape,h.output,h.size,fun k hk=>h.block k (by have:=g.size; omega) (fun e=>by injection e; omega)⟩ (Nat.le_refl _)
theorem Fr.alloc {a w:World} {row:Option Nat} (h:a.grownBy w row) (o:Obj):a.grownBy (w.alloc o) row:=Lib.grownBy_allocR h o
def Post (s:ByteArray) (pb deep its:Nat) (w:World) (r:Except (Nat×Nat) Nat) (e:Ending) (w':World):Prop :=
 w.grownBy w' (some pb)∧(∀ j,r=.ok j→(∃ q,e=.returned (.pointer q))∧PAt w' s pb j deep its)∧(∀ x,r=.error x→e=refusal x.1 x.2)
theorem Post.ok {s:ByteArray} {pb deep its j:Nat} {w w':World} {e:Ending} (h:Post s pb deep its w (.ok j) e w'):w.grownBy w' (some pb)∧(∃ q,e=.returned (.pointer q))∧PAt w' s pb j deep its :=
 ⟨h.1,h.2.1 j rfl⟩
theorem Post.err {s:ByteArray} {pb deep its:Nat} {w w':World} {e:Ending} {x:Nat×Nat} (h:Post s pb deep its w (.error x) e w'):w.grownBy w' (some pb)∧e=refusal x.1 x.2 :=
 ⟨h.1,h.2.2 x rfl⟩
theorem Post.mkOk {s:ByteArray} {pb deep its j:Nat} {w w':World} {q:Option Addr} (h:w.grownBy w' (some pb)) (hp:PAt w' s pb j deep its):Post s pb deep its w (.ok j) (.returned (.pointer q)) w' :=
 ⟨h,fun k hk=>(by cases hk; exact ⟨⟨q,rfl⟩,hp⟩),fun x hx=>(by cases hx)⟩
theorem Post.mkErr {s:ByteArray} {pb deep its:Nat} {w w':World} {x:Nat×Nat} (h:w.grownBy w' (some pb)):Post s pb deep its w (.error x) (refusal x.1 x.2) w' :=
 ⟨h,fun k hk=>(by cases hk),fun y hy=>(by cases hy; rfl)⟩
def Con (s:ByteArray) (f pb deep its i:Nat) (r:Except (Nat×Nat) Nat):Prop :=
 ∀ w:World,G w→PAt w s pb i deep its→Calls Tryz.prog f #[.pointer (some ⟨pb,0,none⟩)] w (Post s pb deep its w r)
theorem expect_ok (s:ByteArray) (pb i deep its:Nat) (t:ByteArray) (w:World) (g:G w) (h:PAt w s pb i deep its) (hs:s.size≤281474976710656) (hi:i≤s.size) (ht:Lard.tx s.data.toList i=t.data.toList) :
  Calls Tryz.prog 296 #[.pointer (some ⟨pb,0,none⟩),.string t] w fun e w'=>e=.returned (.tuple #[])∧PAt w' s pb (Lard.nxt s.data.toList i) deep its∧w.grownBy w' (some pb):=by
 have hb:(Lard.tx s.data.toList i == t.data.toList)=true:=by rw [ht]; simp
 have HT:=hide ht
 clear ht
 go_enter Tryz.func296,Tryz.ntmps296
 go_wp2_with (go_at_call 313; refine (sees_any s pb i deep its t _ h).mono ?_; rintro e w' ⟨rfl,rfl⟩)
 refine (take_any s pb i deep its _ g h hs hi).mono ?_
 rintro e w1 ⟨rfl,h1,f1⟩
 go_wp2_with fail
 go_end0
 exact ⟨rfl,h1,f1⟩
theorem expect_no (s:ByteArray) (pb i deep its:Nat) (t:ByteArray) (w:World) (h:PAt w s pb i deep its) (ht:¬ Lard.tx s.data.toList i=t.data.toList) :
  Calls Tryz.prog 296 #[.pointer (some ⟨pb,0,none⟩),.string t] w fun e w'=>e=refusal 3 i∧w=w':=by
 have hb:(Lard.tx s.data.toList i == t.data.toList)=false:=by rw [beq_eq_false_iff_ne]; exact ht
 have HT:=hide ht
 clear ht
 go_enter Tryz.func296,Tryz.ntmps296
 go_wp2_with (go_at_call 313; refine (sees_any s pb i deep its t _ h).mono ?_; rintro e w' ⟨rfl,rfl⟩)
 refine (refuse_any s pb i deep its 3 _ h).mono ?_
 rintro e w' ⟨rfl,rfl⟩
 exact ⟨rfl,rfl,rfl⟩
theorem expect_any (s:ByteArray) (pb i deep its:Nat) (t:ByteArray) (w:World) (g:G w) (h:PAt w s pb i deep its) (hs:s.size≤281474976710656) (hi:i≤s.size) :
  Calls Tryz.prog 296 #[.pointer (some ⟨pb,0,none⟩),.string t] w fun e w'=>w.grownBy w' (some pb)∧(∀ j,Lard.expect s.data.toList t.data.toList i=.ok j→e=.returned (.tuple #[])∧PAt w' s pb j deep its)∧(∀ x,Lard.expect s.data.toList t.data.toList i=.error x→e=refusal x.1 x.2):=by
 by_cases ht:Lard.tx s.data.toList i=t.data.toList
 ·refine (expect_ok s pb i deep its t w g h hs hi ht).mono ?_
  rintro e w' ⟨rfl,h1,f1⟩
  refine ⟨f1,fun j hj=>?_,fun x hx=>?_⟩
  ·rw [Lard.expect,if_pos ht] at hj; cases hj; exact ⟨rfl,h1⟩
  ·rw [Lard.expect,if_pos ht] at hx; cases hx
 ·refine (expect_no s pb i deep its t w h ht).mono ?_
  rintro e w' ⟨rfl,rfl⟩
  refine ⟨World.grownBy.refl _ _,fun j hj=>?_,fun x hx=>?_⟩
  ·rw [Lard.expect,if_neg ht] at hj; cases hj
  ·rw [Lard.expect,if_neg ht] at hx; cases hx; rfl
end
section
open Go.RowKit
def CT (s:ByteArray) (pb n tag f:Nat):Prop :=
 ∀ deep its i:Nat,i≤s.size→deep≤20→its≤deep→8 * (s.size - i) + Lard.nd tag≤n→Con s f pb deep its i (Lard.P s.data.toList n tag deep its i)
def atOf (w:World) (pb:Nat):Nat :=
 match w.cell? ⟨pb,3,none⟩ with
 |some (.int _ k)=>k.toNat
 |_=>0
theorem atOf_eq {w:World} {s:ByteArray} {pb i deep its:Nat} (h:PAt w s pb i deep its):atOf w pb=i:=by
 rw [atOf,h.cells.2.2.2.1]; rfl
end
section
open Go.RowKit
end
section
open Go.RowKit
def PostS (s:ByteArray) (pb deep its:Nat) (w:World) (r:Except (Nat×Nat) Nat) (e:Ending) (w':World):Prop :=
 w.grownBy w' (some pb)∧(∀ j,r=.ok j→(∃ a n c,e=.returned (.slice a n c))∧PAt w' s pb j deep its)∧(∀ x,r=.error x→e=refusal x.1 x.2)
theorem PostS.ok {s:ByteArray} {pb deep its j:Nat} {w w':World} {e:Ending} (h:PostS s pb deep its w (.ok j) e w'):w.grownBy w' (some pb)∧(∃ a n c,e=.returned (.slice a n c))∧PAt w' s pb j deep its :=
 ⟨h.1,h.2.1 j rfl⟩
theorem PostS.err {s:ByteArray} {pb deep its:Nat} {w w':World} {e:Ending} {x:Nat×Nat} (h:PostS s pb deep its w (.error x) e w'):w.grownBy w' (some pb)∧e=refusal x.1 x.2 :=
 ⟨h.1,h.2.2 x rfl⟩
theorem PostS.mkOk {s:ByteArray} {pb deep its j:Nat} {w w':World} {a:Option Addr} {n c:Nat} (h:w.grownBy w' (some pb)) (hp:PAt w' s pb j deep its):PostS s pb deep its w (.ok j) (.returned (.slice a n c)) w' :=
 ⟨h,fun k hk=>(by cases hk; exact ⟨⟨a,n,c,rfl⟩,hp⟩),fun x hx=>(by cases hx)⟩
theorem PostS.mkErr {s:ByteArray} {pb deep its:Nat} {w w':World} {x:Nat×Nat} (h:w.grownBy w' (some pb)):PostS s pb deep its w (.error x) (refusal x.1 x.2) w' :=
 ⟨h,fun k hk=>(by cases hk),fun y hy=>(by cases hy; rfl)⟩
theorem PAt.grown {w w':World} {s:ByteArray} {pb i deep its:Nat} {row:Option Nat} (h:PAt w s pb i deep its) (hg:w.grownBy w' row) (hne:some pb≠row):PAt w' s pb i deep its :=
 (hg.block pb h.lt hne).trans h
theorem Fr.grown {a w w':World} {r row:Option Nat} (h:a.grownBy w r) (hg:w.grownBy w' row) (hr:∀ k,row=some k→a.heap.size≤k):a.grownBy w' r :=
 ⟨hg.os.trans h.os,hg.tape.trans h.tape,hg.output.trans h.output,Nat.le_trans h.size hg.size,fun k hk hn=>(hg.block k (Nat.lt_of_lt_of_le hk h.size) (fun e=>by have:=hr k e.symm; omega)).trans (h.block k hk hn)⟩
theorem nodeInfo:(Tryz.prog.info? 121).map (fun i=>(i.zero,i.size,i.bytes))=some (some (.pointer none),1,8):=by kernel_rfl
end
section
open Go.RowKit
def partsAt (l:List UInt8) (n deep its k i:Nat):Except (Nat×Nat) Nat :=
 Lard.parts l k i (fun j=>Lard.P l n 0 deep its j) (fun j=>Lard.P l n 3 deep its j) (fun j=>Lard.P l n 6 deep its j) (fun j=>Lard.P l n 0 deep (its + 1) j)
theorem P_in {l:List UInt8} {n tag deep its i j:Nat} {s:ByteArray} (hl:l=s.data.toList) (h:Lard.P l n tag deep its i=.ok j) (hi:i≤s.size):i≤j∧j≤s.size:=by
 subst hl
 have:=Lard.P_prog s.data.toList n tag deep its i j h (by simpa using hi)
 simp at this
 omega
end
section
open Go.RowKit
end
section
open Go.RowKit
attribute [local go_sem] run_store_isV
def KR (x:Nat):Prop:=x=0∨(2≤x∧x≤16)
theorem KR.ite {c:Prop} [Decidable c] {a b:Nat} (ha:KR a) (hb:KR b):KR (if c then a else b):=by split <;> assumption
theorem kind_range (l:List UInt8) (i its:Nat):KR (Lard.kind l i its):=by
 unfold Lard.kind Lard.kindOf Lard.termK Lard.signK
 repeat' refine KR.ite ?_ ?_
 all_goals first
  |exact Or.inl rfl
  |exact Or.inr ⟨by decide,by decide⟩
theorem isV_form (l:List UInt8):isV l=.nilIface∨∃ t x,isV l=.iface t x:=by
 unfold isV
 split
 ·exact Or.inr ⟨_,_,rfl⟩
 ·exact Or.inr ⟨_,_,rfl⟩
 ·exact Or.inl rfl
theorem node_cell {w2 w3:World} {pb:Nat} {A:Obj} {a0 a1 a2 a3 a4:Value} {T:TypeId} (f3:((w2.alloc A).alloc (.cells #[a0,a1,a2,a3,a4] T)).grownBy w3 (some pb)) (hlt:pb < w2.heap.size) :
  w3.cell? ⟨w2.heap.size + 1,4,none⟩=some a4∧(∀ o,w3.frozen? ⟨w2.heap.size + 1,o,none⟩=false):=by
 have hb:=f3.block (w2.heap.size + 1) (by simp) (fun e=>by injection e; omega)
 have hn:((w2.alloc A).alloc (.cells #[a0,a1,a2,a3,a4] T)).heap[w2.heap.size + 1]? = some (.cells #[a0,a1,a2,a3,a4] T):=by
  have:=heap_alloc_new (w2.alloc A) (.cells #[a0,a1,a2,a3,a4] T)
  simpa using this
 rw [hn] at hb
 constructor
 ·simp [World.cell?,hb]
 ·intro o; simp [World.frozen?,hb]
end
section
set_option maxRecDepth 100000
set_option maxHeartbeats 1000000
open Go.RowKit Go.Shelf
attribute [local go_sem] ta_nn ta_wn ta_ln ta_nw ta_ww ta_lw ta_nl ta_wl ta_ll
def IsPtrs (w:World) (s:Value) (qs:List Value):Prop :=
 (s=.slice none 0 0∧qs=[]) ∨
 ∃ (b cap:Nat) (cs:Array Value) (fz:Nat×Nat),s=.slice (some ⟨b,0,none⟩) qs.length cap∧qs.length≤cap∧w.heap[b]? = some (.cells cs 121 fz)∧cap≤cs.size∧∀ i,i < qs.length→cs[i]? = qs[i]?
def IsOpt (w:World) (o:Option Lard.V) (x:Value):Prop :=
 (o=none∧x=.nilIface)∨∃ v,o=some v∧IsVal w 3 v x
def IsTree (w:World):Nat→Lard.T→Value→Prop
 |0,_,_=>False
 |n + 1,t,x=>∃ (b:Nat) (i s:Value) (qs:List Value) (fz:Nat×Nat),x=.pointer (some ⟨b,0,none⟩) ∧
   w.heap[b]? = some (.cells #[.int .i64 (t.kind:Int),.int .u8 (t.op:Int),.string ⟨t.name.toArray⟩,i,s] 263 fz)∧(IsOpt w t.is i∧t.name.length≤200)∧IsPtrs w s qs∧t.parts.length=qs.length ∧
   ∀ (j:Nat) u q,t.parts[j]? = some u→qs[j]? = some q→IsTree w n u q
theorem IsPtrs.keeps {w w':World} {s:Value} {ys:List Value} (h:IsPtrs w s ys) (hk:Keeps w w'):IsPtrs w' s ys:=by
 rcases h with h | ⟨b,cap,cs,fz,h1,h2,h3,h4,h5⟩
 ·exact .inl h
 ·exact .inr ⟨b,cap,cs,fz,h1,h2,hk _ _ _ _ h3 (.inr (.inr rfl)),h4,h5⟩
theorem IsOpt.keeps {w w':World} {o:Option Lard.V} {x:Value} (h:IsOpt w o x) (hk:Keeps w w'):IsOpt w' o x:=by
 rcases h with h | ⟨v,h1,h2⟩
 ·exact .inl h
 ·exact .inr ⟨v,h1,h2.keeps hk⟩
theorem IsTree.keeps {w w':World} (hk:Keeps w w'):∀ {n:Nat} {t:Lard.T} {x:Value},IsTree w n t x→IsTree w' n t x
 |0,_,_,h=>h
 |_ + 1,_,_,⟨b,i,s,qs,fz,h1,h2,h3,h4,h5,h6⟩ =>
  ⟨b,i,s,qs,fz,h1,hk _ _ _ _ h2 (.inr (.inl rfl)),⟨h3.1.keeps hk,h3.2⟩,h4.keeps hk,h5,fun j u q hu hq=>IsTree.keeps hk (h6 j u q hu hq)⟩
theorem IsPtrs.len {w:World} {s:Value} {ys:List Value} (h:IsPtrs w s ys):∃ o c,s=.slice o ys.length c:=by
 rcases h with ⟨rfl,rfl⟩ | ⟨b,cap,cs,fz,rfl,_⟩
 ·exact ⟨_,_,rfl⟩
 ·exact ⟨_,_,rfl⟩
theorem IsPtrs.cell {w:World} {o:Option Addr} {n c:Nat} {ys:List Value} (h:IsPtrs w (.slice o n c) ys) {i:Nat} {y:Value} (hi:ys[i]? = some y):∃ b,o=some ⟨b,0,none⟩∧w.cell? ⟨b,i,none⟩=some y:=by
 have hlt:i < ys.length:=(List.getElem?_eq_some_iff.1 hi).1
 rcases h with ⟨h1,rfl⟩ | ⟨b,cap,cs,fz,h1,h2,h3,h4,h5⟩
 ·simp at hi
 ·cases h1
  refine ⟨b,rfl,?_⟩
  simp [World.cell?,h3,h5 i hlt,hi]
theorem name_text (s:ByteArray):((s.extract 0 (Lard.tok s.data.toList).2).toList == s.toList)=((Lard.tok s.data.toList).2 == s.data.toList.length):=by
 have hin:=Lard.tok_in s.data.toList 0 (Nat.zero_le _)
 rw [List.drop_zero,Nat.zero_add] at hin
 rw [Lib.toList_data,Lib.toList_data,Lib.extract_data,List.drop_zero,Nat.sub_zero]
 by_cases h:(Lard.tok s.data.toList).2=s.data.toList.length
 ·rw [h,List.take_length]; simp
 ·rw [beq_eq_false_iff_ne.2 h,beq_eq_false_iff_ne]
  intro he
  have:=congrArg List.length he
  rw [List.length_take] at this
  omega
theorem isName_any (s:ByteArray) (w:World) (g:G w) (hs:s.size≤281474976710656) :
  Calls Tryz.prog 48 #[.string s] w fun e w'=>e=.returned (.bool (Lard.isName s.data.toList))∧Below w.heap.size w w':=by
 have ht:=name_text s
 have hform:=isV_form s.data.toList
 have hcall:=firstToken_any s w g hs
 unfold Lard.isName
 unfold firstV at hcall
 generalize ((Lard.tok s.data.toList).2 == s.data.toList.length)=q at ht ⊢
 generalize isV s.data.toList=iv at hform hcall
 generalize s.extract 0 (Lard.tok s.data.toList).2=x at ht hcall
 generalize (Lard.tok s.data.toList).1=k at hcall ⊢
 have hk:((k == 4):Bool)=((k:Int) == 4):=by
  by_cases h:k=4
  ·subst h; rfl
  ·rw [beq_eq_false_iff_ne.2 h]; symm; rw [beq_eq_false_iff_ne]; omega
 rw [hk]
 have HC:=hide hcall
 clear hcall hk
 rcases hform with rfl | ⟨t,a,rfl⟩
 all_goals
  by_cases h4:((k:Int) == 4)=true
  ·rw [h4,Bool.true_and]
   go_enter Tryz.func48,Tryz.ntmps48
   go_wp2_with fail
   refine HC.out.mono ?_
   rintro e w1 ⟨rfl,hB⟩
   clear HC
   go_wp2_with fail
   go_ret
   exact ⟨rfl,hB.alloc hB.size _⟩
  ·have h4':((k:Int) == 4)=false:=by simpa using h4
   rw [h4',Bool.false_and]
   clear h4
   go_enter Tryz.func48,Tryz.ntmps48
   go_wp2_with fail
   refine HC.out.mono ?_
   rintro e w1 ⟨rfl,hB⟩
   clear HC
   go_wp2_with fail
   go_ret
   exact ⟨rfl,hB.alloc hB.size _⟩
end
section
set_option maxRecDepth 100000
set_option maxHeartbeats 1000000
open Go.RowKit Go.Shelf
attribute [local go_sem] ta_nn ta_wn ta_ln ta_nw ta_ww ta_lw ta_nl ta_wl ta_ll
theorem keyOf_len {w:World} {n:Nat} {v:Lard.V} {y:Value} {k:List UInt8} (h:IsVal w n v y) (hk:Lard.keyOf v=.ok k):k.length≤200:=by
 rcases h.forms with ⟨i,rfl,_,h0,h1⟩ | ⟨b,rfl,_,hb⟩ | ⟨_,l,_,_,_,rfl,_⟩
 ·have e:k=107 :: Lib.itoa i:=by
   have h2:Lard.keyOf (Lard.vn i)=.ok (107 :: Lib.itoa i):=rfl
   rw [h2] at hk; cases hk; rfl
  have:=Lib.itoa_length_le i h0 h1
  rw [e]; simp only [List.length_cons]; omega
 ·have h2:Lard.keyOf (Lard.vw b.data.toList)=if Lard.isName b.data.toList=true then .ok b.data.toList else .error 9:=rfl
  rw [h2] at hk
  split at hk
  ·cases hk
   have:b.data.toList.length=b.size:=by simp
   omega
  ·cases hk
 ·have h2:Lard.keyOf (Lard.vl l)=.error 9:=rfl
  rw [h2] at hk; cases hk
theorem keyOf_any {v:Lard.V} {x:Value} (w:World) (g:G w) (hx:IsVal w 3 v x) :
  Calls Tryz.prog 282 #[x] w fun e w'=>Below w.heap.size w w'∧(∀ k,Lard.keyOf v=.ok k→e=.returned (.string ⟨k.toArray⟩))∧(∀ c,Lard.keyOf v=.error c→e=broken c∧c=9):=by
 rcases hx.forms with ⟨i,rfl,rfl,hi⟩ | ⟨b,rfl,rfl,hb⟩ | ⟨m,l,s,ys,hm,rfl,rfl,hr,hl,h12,hv⟩
 ·have hlen:=Lib.itoa_length_le i hi.1 hi.2
  have hres:Lard.keyOf (Lard.vn i)=.ok (107 :: Lib.itoa i):=rfl
  rw [hres]
  clear hx
  go_enter Tryz.func282,Tryz.ntmps282
  go_wp2_with fail
  refine (written_any i _ g hi.1 hi.2).mono ?_
  rintro e w1 ⟨rfl,hB⟩
  go_wp2_with fail
  go_ret
  refine ⟨hB,fun k hk=>?_,fun c hc=>by cases hc⟩
  cases hk
  exact congrArg (fun s=>Ending.returned (.string s)) (bytes_eq (by simp))
 ·have hn:=isName_any b w g (by omega)
  have hres:Lard.keyOf (Lard.vw b.data.toList)=if Lard.isName b.data.toList=true then .ok b.data.toList else .error 9:=rfl
  rw [hres]
  generalize Lard.isName b.data.toList=q at hn ⊢
  have HN:=hide hn
  clear hx hn hres
  cases q with
  |true =>
   rw [if_pos rfl]
   go_enter Tryz.func282,Tryz.ntmps282
   go_wp2_with (go_at_call 48; refine HN.out.mono ?_; rintro e w1 ⟨rfl,hB⟩)
   go_ret
   refine ⟨hB,fun k hk=>?_,fun c hc=>by cases hc⟩
   cases hk
   exact congrArg (fun s=>Ending.returned (.string s)) (bytes_eq (by simp))
  |false =>
   rw [if_neg (by simp)]
   go_enter Tryz.func282,Tryz.ntmps282
   go_wp2_with (go_at_call 48; refine HN.out.mono ?_; rintro e w1 ⟨rfl,hB⟩)
   exact ⟨rfl,hB,fun k hk=>(by cases hk),fun c hc=>by cases hc; exact ⟨rfl,rfl⟩⟩
 ·obtain ⟨o,c,rfl⟩:=hr.len
  have hres:Lard.keyOf (Lard.vl l)=.error 9:=rfl
  rw [hres]
  clear hx
  go_enter Tryz.func282,Tryz.ntmps282
  go_wp2_with fail
  exact ⟨rfl,Below.refl _ _,fun k hk=>(by cases hk),fun c hc=>by cases hc; exact ⟨rfl,rfl⟩⟩
theorem needS_any (E:Env) (ok:EnvOK E) (F:Nat→Prop) (st:Nat×E.σ) (key:ByteArray) (w:World) (h:St E F st w) (hkey:key.size≤200) (hb:E.cnt st.2 + st.1 < 400) :
  Calls Tryz.prog 246 #[.pointer (some ⟨E.rb,0,none⟩),.string key] w (PW (Ψ E F w (Lard.needE E.N key.data.toList st))):=by
 obtain ⟨tc,ti,hr⟩:=h.run
 have hy:=ok.yields key F st.2 w st.1 tc ti h.inv hr h.g hkey hb
 refine (need_any E.rb E.l st.1 E.tree tc ti E.wc E.wi key w (Ψ E F w (Lard.needE E.N key.data.toList st)) hr (hy.mono ?_)).mono ?_
 ·rintro e w' ⟨rfl,c,i,F',hW,hR,hJ,hF,hfm⟩
  exact ⟨rfl,_,c,i,hW,hR,rfl,F',⟨⟨c,i,hR⟩,hJ,hfm.g h.g ok.base8,(by show E.cnt (E.N key.data.toList st.2).2 + st.1≤400; have:=ok.cntN key.data.toList st.2; omega)⟩,hF,hfm⟩
 ·rintro e w' ⟨r,⟨w2,⟨hr,F',hst,hF,hfm⟩,hB⟩,hcase⟩
  exact ⟨r,⟨hr,F',hst.below ok hB,hF,hfm.trans (Fm.below hB (Nat.le_trans (Nat.le_trans ok.baser (Nat.le_of_lt hst.lt)) (Nat.le_refl _)))⟩,hcase⟩
end
end Go.Proofs.YtpekpdimdelncaaGreatDoor
