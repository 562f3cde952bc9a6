/- Out of: J5, Rf, J6. -/
import Derived.Test.YtpekpdimdelncaaGreatDoorP41
import Derived.Test.YtpekpdimdelncaaGreatDoorP39
import Derived.Test.YtpekpdimdelncaaGreatDoorP28
import Derived.Test.YtpekpdimdelncaaGreatDoorP18
set_option linter.unusedVariables false
set_option linter.unusedSimpArgs false
namespace Go.Proofs.YtpekpdimdelncaaGreatDoor
section
set_option maxRecDepth 100000
set_option maxHeartbeats 1000000
open Go.RowKit Go.Shelf
theorem cutPrefix_one (s:ByteArray) (c:UInt8) (w:World) :
  Calls Tryz.prog 227 #[.string s,.string ⟨#[c]⟩] w fun e w'=>e=.returned (.tuple #[str (if s.data.toList.head? = some c then s.data.toList.drop 1 else s.data.toList),.bool (s.data.toList.head? == some c)])∧w'=w:=by
 refine (Tryz.strings_CutPrefix s ⟨#[c]⟩ w).mono ?_
 rintro e w' ⟨rfl,rfl⟩
 refine ⟨?_,rfl⟩
 have h1:Lib.hasPrefix s.data.toList [c]=(s.data.toList.head? == some c):=head_prefix _ _
 have e1:(⟨#[c]⟩:ByteArray).data.toList=[c]:=rfl
 rw [e1,h1]
 unfold Lib.trimPrefix
 rw [h1]
 by_cases h:s.data.toList.head? = some c
 ·have hb:(s.data.toList.head? == some c)=true:=by rw [h]; simp
  rw [hb,if_pos rfl,if_pos h]
  rfl
 ·have hb:(s.data.toList.head? == some c)=false:=by simpa using h
  rw [hb,if_neg (by simp),if_neg h]
  rfl
theorem isKey_any (s:ByteArray) (w:World) (g:G w) (hs:s.size≤1000000) :
  Calls Tryz.prog 228 #[.string s] w fun e w'=>e=.returned (.bool (Lard.isKey s.data.toList))∧Below w.heap.size w w':=by
 have HNM:=hide (isName_any s w g (by omega))
 have HCP:=hide (fun w=>cutPrefix_one s 107 w)
 have hk:Lard.isKey s.data.toList=(Lard.isName s.data.toList || (s.data.toList.head? == some 107 && (Lard.numOf (s.data.toList.drop 1)).isSome)):=rfl
 rw [hk]
 clear hk
 cases hn:Lard.isName s.data.toList with
 |true =>
  rw [hn] at HNM
  go_enter Tryz.func228,Tryz.ntmps228
  go_wp2_with fail
  refine HNM.out.mono ?_
  rintro e w1 ⟨rfl,hB1⟩
  dsimp only
  go_wp2_with fail
  go_ret
  exact ⟨rfl,hB1⟩
 |false =>
  rw [hn] at HNM
  by_cases h:s.data.toList.head? = some 107
  ·have hb:(s.data.toList.head? == some 107)=true:=by rw [h]; simp
   rw [hb,if_pos h] at HCP
   rw [hb]
   obtain ⟨r,hr⟩:∃ b,(⟨(s.data.toList.drop 1).toArray⟩:ByteArray)=b:=⟨_,rfl⟩
   have hrl:r.data.toList=s.data.toList.drop 1:=by rw [←hr]
   have hrs:str (s.data.toList.drop 1)=.string r:=by rw [←hr]; rfl
   have HRN:=hide (fun w g=>readNumber_any r w g (by rw [Lib.size_eq,hrl,List.length_drop]; rw [Lib.size_eq] at hs; omega))
   rw [hrl] at HRN
   rw [hrs] at HCP
   clear hr hrl hrs hb h hn
   generalize Lard.numOf (s.data.toList.drop 1)=q at HRN ⊢
   go_enter Tryz.func228,Tryz.ntmps228
   go_wp2_with fail
   refine HNM.out.mono ?_
   rintro e w1 ⟨rfl,hB1⟩
   dsimp only
   go_wp2_with fail
   refine (HCP.out _).mono ?_
   rintro e w' ⟨rfl,hw'⟩
   obtain rfl:=hw'.symm
   dsimp only
   go_wp2_with fail
   refine (HRN.out _ (g.below hB1 g.size)).mono ?_
   rintro e w2 ⟨rfl,hB2⟩
   dsimp only
   go_wp2_with fail
   go_ret
   exact ⟨rfl,hB1.trans (hB2.mono hB1.size)⟩
  ·have hb:(s.data.toList.head? == some 107)=false:=by simpa using h
   rw [hb] at HCP
   rw [hb]
   go_enter Tryz.func228,Tryz.ntmps228
   go_wp2_with fail
   refine HNM.out.mono ?_
   rintro e w1 ⟨rfl,hB1⟩
   dsimp only
   go_wp2_with fail
   refine (HCP.out _).mono ?_
   rintro e w' ⟨rfl,hw'⟩
   obtain rfl:=hw'.symm
   dsimp only
   go_wp2_with fail
   go_ret
   exact ⟨rfl,hB1⟩
theorem set3 {w w1:World} (x y z:Value) (h:Below w.heap.size w w1):Below w.heap.size w (((w1.setCell ⟨w.heap.size,0,none⟩ x).setCell ⟨w.heap.size,1,none⟩ y).setCell ⟨w.heap.size,2,none⟩ z) :=
 ((h.setCell (p:=⟨w.heap.size,0,none⟩) (Nat.le_refl _) _).setCell (p:=⟨w.heap.size,1,none⟩) (Nat.le_refl _) _).setCell (p:=⟨w.heap.size,2,none⟩) (Nat.le_refl _) _
theorem imm_need:¬ Imm 133:=by unfold Imm; decide
theorem keeps_set3 {w:World} {b:Nat} {cs:Array Value} {t:TypeId} {fz:Nat×Nat} (hb:w.heap[b]? = some (.cells cs t fz)) (ht:¬ Imm t) (x y z:Value):Keeps w (((w.setCell ⟨b,0,none⟩ x).setCell ⟨b,1,none⟩ y).setCell ⟨b,2,none⟩ z):=by
 intro k cs' t' fz' hk hi
 by_cases e:k=b
 ·subst e
  rw [hb] at hk
  cases hk
  exact absurd hi ht
 ·rw [Deep.blk_setCell_other _ _ _ _ e,Deep.blk_setCell_other _ _ _ _ e,Deep.blk_setCell_other _ _ _ _ e]
  exact hk
theorem read3 {w:World} {b:Nat} {t:TypeId} (hb:w.heap[b]? = some (.cells #[.string ⟨#[]⟩,.int .i64 0,.nilIface] t (0,0))) (x y z:Value) (o:Obj) :
  ((((w.setCell ⟨b,0,none⟩ x).setCell ⟨b,1,none⟩ y).setCell ⟨b,2,none⟩ z).alloc o).cell? ⟨b,0,none⟩=some x∧((((w.setCell ⟨b,0,none⟩ x).setCell ⟨b,1,none⟩ y).setCell ⟨b,2,none⟩ z).alloc o).cell? ⟨b,1,none⟩=some y∧((((w.setCell ⟨b,0,none⟩ x).setCell ⟨b,1,none⟩ y).setCell ⟨b,2,none⟩ z).alloc o).cell? ⟨b,2,none⟩=some z:=by
 have hl:=lt_of_some hb
 have hz:b < (((w.setCell ⟨b,0,none⟩ x).setCell ⟨b,1,none⟩ y).setCell ⟨b,2,none⟩ z).heap.size:=by simpa [World.setCell] using hl
 have c0:w.cell? ⟨b,0,none⟩=some (.string ⟨#[]⟩):=by simp [World.cell?,hb]
 have c1:w.cell? ⟨b,1,none⟩=some (.int .i64 0):=by simp [World.cell?,hb]
 have c2:w.cell? ⟨b,2,none⟩=some .nilIface:=by simp [World.cell?,hb]
 refine ⟨(World.cell?_of_block (Below.heap_alloc _ o b hz)).trans ?_,(World.cell?_of_block (Below.heap_alloc _ o b hz)).trans ?_,(World.cell?_of_block (Below.heap_alloc _ o b hz)).trans ?_⟩ <;> simp [go_sem,c0,c1,c2]
def NdPost (w:World) (q:Option ((List UInt8×Lard.Wo)×List UInt8)) (e:Ending) (w':World):Prop :=
 Below w.heap.size w w'∧((∃ (k:ByteArray) (wo:Lard.Wo) (c:Int) (y:Value) (r:ByteArray),q=some ((k.data.toList,wo),r.data.toList)∧k.size≤1000000∧e=.returned (.tuple #[.agg #[.string k,.int .i64 c,y],.string r,.bool true])∧(y=.nilIface∨∃ t a,y=.iface t a)∧IsW w' wo (.agg #[.int .i64 c,y])) ∨
  (q=none∧∃ (k:ByteArray) (r:ByteArray),k.size≤1000000∧e=.returned (.tuple #[.agg #[.string k,.int .i64 0,.nilIface],.string r,.bool false])))
theorem readNeed_any (s:ByteArray) (w:World) (g:G w) (hm:Mx w) (hs:s.size≤1000000) :
  Calls Tryz.prog 191 #[.string s] w (NdPost w (Lard.rdNeed s.data.toList)):=by
 have hB0:Below w.heap.size w (w.alloc (.cells #[.string ⟨#[]⟩,.int .i64 0,.nilIface] 133)):=(Below.refl _ w).alloc (Nat.le_refl _) _
 have HCP:=hide (fun w=>cutPrefix_one s 32 w)
 obtain ⟨t1,ht1⟩:∃ b,(⟨(if s.data.toList.head? = some 32 then s.data.toList.drop 1 else s.data.toList).toArray⟩:ByteArray)=b:=⟨_,rfl⟩
 have hl1:t1.data.toList=if s.data.toList.head? = some 32 then s.data.toList.drop 1 else s.data.toList:=by rw [←ht1]
 have hs1:str (if s.data.toList.head? = some 32 then s.data.toList.drop 1 else s.data.toList)=.string t1:=by rw [←ht1]; rfl
 rw [hs1] at HCP
 have hz1:t1.size≤1000000:=by
  rw [Lib.size_eq,hl1]
  rw [Lib.size_eq] at hs
  split
  ·rw [List.length_drop]; omega
  ·exact hs
 have HCU:=hide (cut_text t1 61 (w.alloc (.cells #[.string ⟨#[]⟩,.int .i64 0,.nilIface] 133)) hz1 (hm.below hB0 (by have:=g.size; omega)))
 obtain ⟨hcu1,hcu2⟩:=Lard.cut_tw 61 t1.data.toList
 rw [hcu1,hcu2] at HCU
 generalize (Lib.cut t1.data.toList [61]).2.2=fnd at HCU
 obtain ⟨kb,hkb⟩:∃ b,(⟨(t1.data.toList.takeWhile fun x=>!(x == 61)).toArray⟩:ByteArray)=b:=⟨_,rfl⟩
 have hkl:kb.data.toList=t1.data.toList.takeWhile fun x=>!(x == 61):=by rw [←hkb]
 have hks:str (t1.data.toList.takeWhile fun x=>!(x == 61))=.string kb:=by rw [←hkb]; rfl
 obtain ⟨t2,ht2⟩:∃ b,(⟨(t1.data.toList.drop ((t1.data.toList.takeWhile fun x=>!(x == 61)).length + 1)).toArray⟩:ByteArray)=b:=⟨_,rfl⟩
 have hl2:t2.data.toList=t1.data.toList.drop ((t1.data.toList.takeWhile fun x=>!(x == 61)).length + 1):=by rw [←ht2]
 have hs2:str (t1.data.toList.drop ((t1.data.toList.takeWhile fun x=>!(x == 61)).length + 1))=.string t2:=by rw [←ht2]; rfl
 rw [hks,hs2] at HCU
 have hkz:kb.size≤1000000:=by
  rw [Lib.size_eq,hkl]
  rw [Lib.size_eq] at hz1
  have:=(List.takeWhile_sublist (fun x=>!(x == 61)) (l:=t1.data.toList)).length_le
  omega
 have hz2:t2.size≤1000000:=by
  rw [Lib.size_eq,hl2,List.length_drop]
  rw [Lib.size_eq] at hz1
  omega
 generalize hRR:NdPost w (Lard.rdNeed s.data.toList)=RR
 have HZ:Hid (∀ (k r:ByteArray) w',Lard.rdNeed s.data.toList=none→k.size≤1000000→Below w.heap.size w w'→RR (.returned (.tuple #[.agg #[.string k,.int .i64 0,.nilIface],.string r,.bool false])) w'):=hide (fun k r w' h hkk hB=>by
  rw [←hRR]
  exact ⟨hB,.inr ⟨h,k,r,hkk,rfl⟩⟩)
 have HT:Hid (∀ wo c y (r:ByteArray) w',Lard.rdNeed s.data.toList=some ((kb.data.toList,wo),r.data.toList)→(y=.nilIface∨∃ t a,y=.iface t a)→IsW w' wo (.agg #[.int .i64 c,y])→Below w.heap.size w w'→RR (.returned (.tuple #[.agg #[.string kb,.int .i64 c,y],.string r,.bool true])) w'):=hide (fun wo c y r w' h hy hw hB=>by
  rw [←hRR]
  exact ⟨hB,.inl ⟨kb,wo,c,y,r,h,hkz,rfl,hy,hw⟩⟩)
 have HIK:=hide (fun w g=>isKey_any kb w g hkz)
 have HRW:=hide (fun w g=>readWorth_any t2 w g hz2)
 have HG:=hide g
 clear hRR hs1 ht1 hks hkb hs2 ht2 hm hcu1 hcu2
 by_cases h32:s.data.toList.head? = some 32
 ·have hb:(s.data.toList.head? == some 32)=true:=by rw [h32]; simp
  rw [hb] at HCP
  rw [if_pos h32] at hl1
  rw [hl1] at hkl hl2
  have hrd:Lard.rdNeed s.data.toList=if Lard.isKey kb.data.toList=true then (Lard.rdWo t2.data.toList).map fun q=>((kb.data.toList,q.1),q.2) else none:=by
   unfold Lard.rdNeed
   rw [hkl,hl2]
   by_cases hk:Lard.isKey ((s.data.toList.drop 1).takeWhile fun c=>!(c == 61))=true
   ·rw [if_pos ⟨h32,hk⟩,if_pos hk]
   ·rw [if_neg (fun h=>hk h.2),if_neg hk]
  clear hl1 hkl hl2 hb h32
  cases hik:Lard.isKey kb.data.toList with
  |false =>
   rw [hik] at HIK hrd
   have HE:=hide (fun w' hB=>HZ.out ⟨#[]⟩ ⟨#[]⟩ w' (by rw [hrd]; rfl) (Nat.zero_le _) hB)
   clear HZ HT HRW hrd
   go_enter Tryz.func191,Tryz.ntmps191
   go_wp2_with fail
   refine (HCP.out _).mono ?_
   rintro e w' ⟨rfl,hw'⟩
   obtain rfl:=hw'.symm
   dsimp only
   go_wp2_with fail
   refine HCU.out.mono ?_
   rintro e w1 ⟨rfl,hB1⟩
   dsimp only
   have hBB:=hB0.trans (hB1.mono hB0.size)
   go_wp2_with fail
   refine (HIK.out _ (HG.out.below hBB HG.out.size)).mono ?_
   rintro e w2 ⟨rfl,hB2⟩
   dsimp only
   have blk:w2.heap[w.heap.size]? = some (.cells #[.string ⟨#[]⟩,.int .i64 0,.nilIface] 133 (0,0)):=(hB2.block _ (by have:=hB1.size; simp at this; omega)).trans ((hB1.block _ (by simp)).trans (heap_alloc_new w _))
   have c0:w2.cell? ⟨w.heap.size,0,none⟩=some (.string ⟨#[]⟩):=by simp [World.cell?,blk]
   have c1:w2.cell? ⟨w.heap.size,1,none⟩=some (.int .i64 0):=by simp [World.cell?,blk]
   have c2:w2.cell? ⟨w.heap.size,2,none⟩=some .nilIface:=by simp [World.cell?,blk]
   have z0:w2.frozen? ⟨w.heap.size,0,none⟩=false:=by simp [World.frozen?,blk]
   have z1:w2.frozen? ⟨w.heap.size,1,none⟩=false:=by simp [World.frozen?,blk]
   have z2:w2.frozen? ⟨w.heap.size,2,none⟩=false:=by simp [World.frozen?,blk]
   have hB3:=hBB.trans (hB2.mono hBB.size)
   clear hB1 hB2
   go_wp2_with fail
   exact bodyPost_ret (v:=.tuple #[.agg #[.string ⟨#[]⟩,.int .i64 0,.nilIface],.string ⟨#[]⟩,.bool false]) (by simp [results,Tryz.results191,go_sem,c0,c1,c2,z0,z1,z2,blk]) rfl (HE.out _ (set3 _ _ _ hB3))
  |true =>
   rw [hik,if_pos rfl] at hrd
   rw [hik] at HIK
   have HE1:=hide (fun c y wo (r:ByteArray) w' (h:Lard.rdWo t2.data.toList=some (wo,r.data.toList)) hy hw hB=>HT.out wo c y r w' (by rw [hrd,h]; rfl) hy hw hB)
   have HE0:=hide (fun w' (h:Lard.rdWo t2.data.toList=none) hB=>HZ.out kb ⟨#[]⟩ w' (by rw [hrd,h]; rfl) hkz hB)
   clear HZ HT hrd hik
   go_enter Tryz.func191,Tryz.ntmps191
   go_wp2_with fail
   refine (HCP.out _).mono ?_
   rintro e w' ⟨rfl,hw'⟩
   obtain rfl:=hw'.symm
   dsimp only
   go_wp2_with fail
   refine HCU.out.mono ?_
   rintro e w1 ⟨rfl,hB1⟩
   dsimp only
   have hBB:=hB0.trans (hB1.mono hB0.size)
   go_wp2_with fail
   refine (HIK.out _ (HG.out.below hBB HG.out.size)).mono ?_
   rintro e w2 ⟨rfl,hB2⟩
   dsimp only
   have hB3:=hBB.trans (hB2.mono hBB.size)
   go_wp2_with fail
   refine (HRW.out _ (HG.out.below hB3 HG.out.size)).mono ?_
   rintro e w3 ⟨hB4,hq⟩
   have hB5:=hB3.trans (hB4.mono hB3.size)
   have hz3:w.heap.size < w3.heap.size:=by have:=hB1.size; have:=hB2.size; have:=hB4.size; simp at *; omega
   have blk:w3.heap[w.heap.size]? = some (.cells #[.string ⟨#[]⟩,.int .i64 0,.nilIface] 133 (0,0)):=(hB4.block _ (by have:=hB1.size; have:=hB2.size; simp at *; omega)).trans ((hB2.block _ (by have:=hB1.size; simp at this; omega)).trans ((hB1.block _ (by simp)).trans (heap_alloc_new w _)))
   have c0:w3.cell? ⟨w.heap.size,0,none⟩=some (.string ⟨#[]⟩):=by simp [World.cell?,blk]
   have c1:w3.cell? ⟨w.heap.size,1,none⟩=some (.int .i64 0):=by simp [World.cell?,blk]
   have c2:w3.cell? ⟨w.heap.size,2,none⟩=some .nilIface:=by simp [World.cell?,blk]
   have z0:w3.frozen? ⟨w.heap.size,0,none⟩=false:=by simp [World.frozen?,blk]
   have z1:w3.frozen? ⟨w.heap.size,1,none⟩=false:=by simp [World.frozen?,blk]
   have z2:w3.frozen? ⟨w.heap.size,2,none⟩=false:=by simp [World.frozen?,blk]
   clear hB1 hB2 hB3 hB4 hBB HCP HCU HIK HRW
   rcases hq with ⟨wo,c,y,r,h1,rfl,hy,hw⟩ | ⟨h1,rfl⟩
   ·dsimp only
    have hB6:∀ (W:World) o,Below W.heap.size W (W.alloc o):=fun W o=>(Below.refl _ W).alloc (Nat.le_refl _) _
    have hs3:=set3 (.string kb) (.int .i64 c) y hB5
    have HE2:=hide (fun o=>HE1.out c y wo r _ h1 hy (hw.keeps ((keeps_set3 blk imm_need (.string kb) (.int .i64 c) y).trans (Keeps.below (hB6 _ o)))) (hs3.trans ((hB6 _ o).mono hs3.size)))
    clear HE1 HE0 hw h1 hB6 hB5 hs3
    rcases hy with rfl | ⟨t,a,rfl⟩
    all_goals
     go_wp2_with fail
     refine bodyPost_ret (v:=.tuple #[.agg #[.string kb,.int .i64 c,_],.string r,.bool true]) ?_ rfl (HE2.out _)
     simp [results,Tryz.results191,go_sem,(read3 blk _ _ _ _).1,(read3 blk _ _ _ _).2.1,(read3 blk _ _ _ _).2.2]
   ·dsimp only
    have hB6:∀ (W:World) o,Below W.heap.size W (W.alloc o):=fun W o=>(Below.refl _ W).alloc (Nat.le_refl _) _
    have hs3:=set3 (.string kb) (.int .i64 0) .nilIface hB5
    have HE2:=hide (fun o=>HE0.out _ h1 (hs3.trans ((hB6 _ o).mono hs3.size)))
    clear HE1 HE0 h1 hB6 hB5 hs3
    go_wp2_with fail
    refine bodyPost_ret (v:=.tuple #[.agg #[.string kb,.int .i64 0,.nilIface],.string ⟨#[]⟩,.bool false]) ?_ rfl (HE2.out _)
    simp [results,Tryz.results191,go_sem,(read3 blk _ _ _ _).1,(read3 blk _ _ _ _).2.1,(read3 blk _ _ _ _).2.2]
 ·have hb:(s.data.toList.head? == some 32)=false:=by simpa using h32
  rw [hb] at HCP
  have HE:=hide (fun w' hB=>HZ.out ⟨#[]⟩ ⟨#[]⟩ w' (by unfold Lard.rdNeed; rw [if_neg (fun h=>h32 h.1)]) (Nat.zero_le _) hB)
  clear HZ HT HRW HIK
  go_enter Tryz.func191,Tryz.ntmps191
  go_wp2_with fail
  refine (HCP.out _).mono ?_
  rintro e w' ⟨rfl,hw'⟩
  obtain rfl:=hw'.symm
  dsimp only
  go_wp2_with fail
  refine HCU.out.mono ?_
  rintro e w1 ⟨rfl,hB1⟩
  dsimp only
  have hBB:=hB0.trans (hB1.mono hB0.size)
  have blk:w1.heap[w.heap.size]? = some (.cells #[.string ⟨#[]⟩,.int .i64 0,.nilIface] 133 (0,0)):=(hB1.block _ (by simp)).trans (heap_alloc_new w _)
  have c0:w1.cell? ⟨w.heap.size,0,none⟩=some (.string ⟨#[]⟩):=by simp [World.cell?,blk]
  have c1:w1.cell? ⟨w.heap.size,1,none⟩=some (.int .i64 0):=by simp [World.cell?,blk]
  have c2:w1.cell? ⟨w.heap.size,2,none⟩=some .nilIface:=by simp [World.cell?,blk]
  have z0:w1.frozen? ⟨w.heap.size,0,none⟩=false:=by simp [World.frozen?,blk]
  have z1:w1.frozen? ⟨w.heap.size,1,none⟩=false:=by simp [World.frozen?,blk]
  have z2:w1.frozen? ⟨w.heap.size,2,none⟩=false:=by simp [World.frozen?,blk]
  clear hB1
  go_wp2_with fail
  exact bodyPost_ret (v:=.tuple #[.agg #[.string ⟨#[]⟩,.int .i64 0,.nilIface],.string ⟨#[]⟩,.bool false]) (by simp [results,Tryz.results191,go_sem,c0,c1,c2,z0,z1,z2,blk]) rfl (HE.out _ (set3 _ _ _ hBB))
end
namespace Lard
theorem brk_len:∀ (cs:List Nat) (l:By) (c:Nat) (r:By),brk cs l=some (c,r)→r.length≤l.length
 |[],l,c,r,h=>by cases h
 |a :: cs,l,c,r,h=>by
  unfold brk at h
  split at h
  ·cases h
   rw [List.length_drop]
   omega
  ·exact brk_len cs l c r h
theorem rdWo_len {l:By} {w:Wo} {r:By} (h:rdWo l=some (w,r)):r.length≤l.length:=by
 unfold rdWo at h
 cases hb:brk [7,8,9,10,11] l with
 |some q =>
  obtain ⟨c,r'⟩:=q
  rw [hb] at h
  cases h
  exact brk_len _ _ _ _ hb
 |none =>
  rw [hb] at h
  simp only at h
  cases hf:rdF 3 l with
  |none=>rw [hf] at h; cases h
  |some q =>
   rw [hf] at h
   cases h
   have:=(rdF_some 3 l q.1 q.2 hf).2
   rw [this,List.length_append]
   omega
theorem rdNeed_len {l:By} {q:By×Wo} {r:By} (h:rdNeed l=some (q,r)):r.length < l.length:=by
 unfold rdNeed at h
 split at h
 ·rename_i hc
  cases hw:rdWo ((l.drop 1).drop (((l.drop 1).takeWhile fun c=>!(c == 61)).length + 1)) with
  |none=>rw [hw] at h; cases h
  |some p =>
   rw [hw] at h
   cases h
   have h1:=rdWo_len (l:=_) (w:=p.1) (r:=p.2) hw
   rw [List.length_drop,List.length_drop] at h1
   have h2:0 < l.length:=by
    cases l with
    |nil=>cases hc.1
    |cons=>simp
   omega
 ·cases h
theorem rdNeed_key {l:By} {q:By×Wo} {r:By} (h:rdNeed l=some (q,r)):isKey q.1=true:=by
 unfold rdNeed at h
 split at h
 ·rename_i hc
  cases hw:rdWo ((l.drop 1).drop (((l.drop 1).takeWhile fun c=>!(c == 61)).length + 1)) with
  |none=>rw [hw] at h; cases h
  |some p =>
   rw [hw] at h
   cases h
   exact hc.2
 ·cases h
theorem rdNeeds_fuel:∀ (n m:Nat) (l:By) (acc:List (By×Wo)),l.length < n→l.length < m→rdNeeds n l acc=rdNeeds m l acc
 |0,m,l,acc,h,_=>by omega
 |n + 1,0,l,acc,_,h=>by omega
 |n + 1,m + 1,l,acc,h1,h2=>by
  unfold rdNeeds
  by_cases hl:l=[]
  ·rw [if_pos hl,if_pos hl]
  ·rw [if_neg hl,if_neg hl]
   cases hq:rdNeed l with
   |none=>rfl
   |some p =>
    obtain ⟨q,r⟩:=p
    simp only
    have:=rdNeed_len hq
    split
    ·rfl
    ·exact rdNeeds_fuel n m r _ (by omega) (by omega)
def rdAll (l:By) (acc:List (By×Wo)):Option (List (By×Wo)):=rdNeeds (l.length + 1) l acc
theorem rdAll_step {l:By} (hl:l≠[]) (acc:List (By×Wo)):rdAll l acc=match rdNeed l with
  |none=>none
  |some (q,r)=>if (look acc q.1).isSome=true then none else rdAll r (acc++[q]):=by
 unfold rdAll
 rw [show rdNeeds (l.length + 1) l acc=if l=[] then some acc else match rdNeed l with
  |none=>none
  |some (q,r)=>if (look acc q.1).isSome=true then none else rdNeeds l.length r (acc++[q]) from rfl,if_neg hl]
 cases hq:rdNeed l with
 |none=>rfl
 |some p =>
  obtain ⟨q,r⟩:=p
  simp only
  have:=rdNeed_len hq
  split
  ·rfl
  ·exact rdNeeds_fuel _ _ r _ (by omega) (by omega)
theorem rdKeep_all (l:By):rdKeep l=match rdWo l with
  |none=>none
  |some (w,r)=>(rdAll r []).map fun ns=>⟨w,ns⟩:=rfl
theorem key_short {k:By} (h:isKey k=true):k.length≤200:=by
 unfold isKey at h
 cases hn:isName k with
 |true =>
  have:=(name_al hn).2.1
  omega
 |false =>
  rw [hn] at h
  simp only [Bool.false_or,Bool.and_eq_true] at h
  obtain ⟨i,hi⟩:=Option.isSome_iff_exists.1 h.2
  have hd:=(numOf_some hi)
  have hr:=parse_range _ _ hd.2
  have hl:=itoa_len30 hr.1 hr.2
  rw [hd.1,List.length_drop] at hl
  omega
end Lard
section
open Go.RowKit Go.Shelf
structure KW (w W:World) (kb:Nat) (c:Int) (y sl:Value) (acc:List (List UInt8×Lard.Wo)) (wo:Lard.Wo):Prop where
 bel:Below w.heap.size w W
 new:w.heap.size≤kb
 blk:W.heap[kb]? = some (.cells #[.int .i64 c,y,sl] 131 (0,0))
 isw:IsW W wo (.agg #[.int .i64 c,y])
 nd:NeedsAt W acc sl
 own:∀ g,sl.ownBlock=some g→w.heap.size≤g
theorem KW.below {w W W':World} {kb:Nat} {c:Int} {y sl:Value} {acc:List (List UInt8×Lard.Wo)} {wo:Lard.Wo} (h:KW w W kb c y sl acc wo) (hB:Below W.heap.size W W'):KW w W' kb c y sl acc wo where
 bel:=h.bel.trans (hB.mono h.bel.size)
 new:=h.new
 blk:=(hB.block _ (lt_of_some h.blk)).trans h.blk
 isw:=h.isw.st (Stay.below hB)
 nd:=h.nd.st (fun k hk cs fz hb=>(hB.block k (lt_of_some hb)).trans hb) (Stay.below hB)
 own:=h.own
theorem KW.tm {w W W':World} {kb mb:Nat} {c:Int} {y sl:Value} {acc:List (List UInt8×Lard.Wo)} {wo:Lard.Wo} (h:KW w W kb c y sl acc wo) (ht:Tm W W' mb) (hm:w.heap.size≤mb):KW w W' kb c y sl acc wo where
 bel:=by
  have hg:=ht.g
  exact ⟨hg.os.trans h.bel.os,hg.tape.trans h.bel.tape,hg.output.trans h.bel.output,Nat.le_trans h.bel.size hg.size,fun k hk=>(hg.block k (Nat.lt_of_lt_of_le hk h.bel.size) (fun e=>by cases e; omega)).trans (h.bel.block k hk)⟩
 new:=h.new
 blk:=ht.cells h.blk
 isw:=h.isw.st ht.stay
 nd:=h.nd.st (fun k hk cs fz hb=>ht.cells hb) ht.stay
 own:=h.own
theorem row_unique {w:World} {e:TypeId} {sl:Value} {n:Nat} {a b:List Value} {size base:Nat} (q1:w.ownsRow base e size sl n a) (hq':w.ownsRow base e size sl n b):b=a:=by
 have a1:=q1.2
 have a2:=hq'.2
 rcases a1 with ⟨a1,b1⟩ | ⟨g1,cap1,cur1,a1,_,c1,_,_,_,d1⟩
 ·have e1:a=[]:=List.eq_nil_of_length_eq_zero (by rw [q1.1,b1,Nat.zero_mul])
  have e2:b=[]:=List.eq_nil_of_length_eq_zero (by rw [hq'.1,b1,Nat.zero_mul])
  rw [e1,e2]
 ·rcases a2 with ⟨a2,b2⟩ | ⟨g2,cap2,cur2,a2,_,c2,_,_,_,d2⟩
  ·rw [a2] at a1; cases a1
  ·rw [a1] at a2
   cases a2
   rw [c1] at c2
   cases c2
   rw [←d1,←d2]
theorem kw_app {w W:World} {kb:Nat} {c:Int} {y:Value} {o:Option Addr} {cp:Nat} {acc:List (List UInt8×Lard.Wo)} {wo:Lard.Wo} (h:KW w W kb c y (.slice o acc.length cp) acc wo) (h8:8≤w.heap.size) (k:ByteArray) (c':Int) (y':Value) (hy:y'=.nilIface∨∃ t a,y'=.iface t a) (hn:acc.length≤1000000) :
  ∃ g' cap W2,(Builtin.append_ #[129,129] 129 #[.slice o acc.length cp,.slice (some ⟨W.heap.size,0,none⟩) 1 1]).run Tryz.prog (W.alloc (.cells #[.string k,.int .i64 c',y'] 133))=.ok (.slice (some ⟨g',0,none⟩) (acc.length + 1) cap) W2∧(∃ v,W2.cell? ⟨kb,2,none⟩=some v)∧W2.frozen? ⟨kb,2,none⟩=false∧(∀ b,b < W.heap.size→(Value.slice o acc.length cp).ownBlock≠some b→W2.heap[b]? = W.heap[b]?) ∧
   Below w.heap.size w (W2.setCell ⟨kb,2,none⟩ (.slice (some ⟨g',0,none⟩) (acc.length + 1) cap))∧(∀ mb l,MapAt W mb l→MapAt (W2.setCell ⟨kb,2,none⟩ (.slice (some ⟨g',0,none⟩) (acc.length + 1) cap)) mb l) ∧
   (∀ wo',IsW W wo' (.agg #[.int .i64 c',y'])→k.size≤200→KW w (W2.setCell ⟨kb,2,none⟩ (.slice (some ⟨g',0,none⟩) (acc.length + 1) cap)) kb c y (.slice (some ⟨g',0,none⟩) (acc.length + 1) cap) (acc++[(k.data.toList,wo')]) wo):=by
 have hB4:Below W.heap.size W (W.alloc (.cells #[.string k,.int .i64 c',y'] 133)):=(Below.refl _ W).alloc (Nat.le_refl _) _
 have h4:=h.below hB4
 obtain ⟨qs,q1,q2,q3⟩:=h4.nd
 have hnew:=heap_alloc_new W (.cells #[.string k,.int .i64 c',y'] 133)
 obtain ⟨g',cap,W2,hr,ho,hg,hloc,hold⟩:=append_row 129 129 133 _ 3 40 Tryz.underlying129 needInfo rfl (by decide) _ acc.length (qs.flatMap cells3) q1 ⟨W.heap.size,0,none⟩ 1 [str k.data.toList,.int .i64 c',y'] rfl (fun j u hj=>by
  rw [addr_add,Nat.zero_add]
  simp only [World.cell?,hnew]
  match j,hj with
  |0,hj=>simp at hj; rw [←hj,str_bytes]; rfl
  |1,hj=>simp at hj; rw [←hj]; rfl
  |2,hj=>simp at hj; rw [←hj]; rfl) (fun u hu=>by
  rcases hy with rfl | ⟨t,a,rfl⟩ <;> (simp at hu; rcases hu with rfl | rfl | rfl <;> rfl)) (by omega) (by unfold maxLen; omega) (Nat.le_trans h8 h4.bel.size)
 have htn:Tn 133 (W.alloc (.cells #[.string k,.int .i64 c',y'] 133)) W2 (Value.ownBlock (.slice o acc.length cp)):=⟨hg,fun b hb=>row_typed q1 hb⟩
 have hst4:Stay _ W2:=htn.stay (.inr (.inr (.inr (.inr (.inr (.inr rfl))))))
 have hblk2:W2.heap[kb]? = some (.cells #[.int .i64 c,y,.slice o acc.length cp] 131 (0,0)):=htn.cells h4.blk (by decide)
 have htk:=tn_set hblk2 2 (.slice (some ⟨g',0,none⟩) (acc.length + 1) cap)
 have hstk:=htk.stay (.inr (.inr (.inr (.inr (.inr (.inl rfl))))))
 have hbel:Below w.heap.size w (W2.setCell ⟨kb,2,none⟩ (.slice (some ⟨g',0,none⟩) (acc.length + 1) cap)):=by
  have hb2:Below w.heap.size w W2:=⟨hg.os.trans h4.bel.os,hg.tape.trans h4.bel.tape,hg.output.trans h4.bel.output,Nat.le_trans h4.bel.size hg.size,fun k hk=>(hg.block k (Nat.lt_of_lt_of_le hk h4.bel.size) (fun e=>by have:=h.own k e.symm; omega)).trans (h4.bel.block k hk)⟩
  exact hb2.setCell (p:=⟨kb,2,none⟩) h.new _
 refine ⟨g',cap,W2,hr,⟨_,by simp [World.cell?,hblk2]; rfl⟩,by simp [World.frozen?,hblk2],(fun b hb hne=>(hg.block b (Nat.lt_of_lt_of_le hb hB4.size) (fun e=>hne e.symm)).trans (hB4.block b hb)),hbel,fun mb l hm=>?_,fun wo' hw' hk'=>?_⟩
 ·have h1:MapAt (W.alloc (.cells #[.string k,.int .i64 c',y'] 133)) mb l:=hm.same (hB4.block _ hm.lt)
  have h2:MapAt W2 mb l:=h1.same (htn.map h1)
  exact h2.same (htk.map h2)
 ·have hnd2:NeedsAt W2 (acc++[(k.data.toList,wo')]) (.slice (some ⟨g',0,none⟩) (acc.length + 1) cap):=NeedsAt.snoc (n:=(k.data.toList,wo')) ⟨qs,q1,q2,q3⟩ hst4 (fun qs' hq'=>by rw [row_unique q1 hq']; exact ho) (by rw [←size_data]; exact hk') (hw'.st (Stay.below hB4))
  exact {
   bel:=hbel
   new:=h.new
   blk:=blk_cell hblk2 2 _
   isw:=h4.isw.st (hst4.trans hstk)
   nd:=hnd2.st (fun b hb cs fz hc=>htk.cells hc (by decide)) hstk
   own:=fun b hb=>by
    cases hb
    rcases hloc with hloc | hloc
    ·exact h.own _ hloc
    ·rw [hloc]; exact h4.bel.size }
def szOf:Value→Nat
 |.string s=>s.size
 |_=>0
def bnOf:Value→Nat
 |.bool true=>1
 |_=>0
theorem look_ones (acc:List (List UInt8×Lard.Wo)) (k:List UInt8):Lard.look (acc.map fun n=>(n.1,Value.int .i64 1)) k=(Lard.look acc k).map fun _=>Value.int .i64 1:=by
 induction acc with
 |nil=>rfl
 |cons a acc ih =>
  rw [List.map_cons,Lard.look_cons,Lard.look_cons]
  split
  ·rfl
  ·exact ih
def KrPost (w:World) (q:Option Lard.Keep) (e:Ending) (w':World):Prop :=
 Below w.heap.size w w'∧((∃ kp kb c y sl,q=some kp∧e=.returned (.tuple #[ptr kb,.bool true])∧KW w w' kb c y sl kp.needs kp.worth) ∨
  (q=none∧∃ v,e=.returned (.tuple #[v,.bool false])))
def KJ (w:World) (kb mb:Nat) (c:Int) (y:Value) (wo:Lard.Wo) (q:Option Lard.Keep) (r:ByteArray) (ok:Bool) (W:World):Prop :=
 (ok=true∧∃ acc sl,KW w W kb c y sl acc wo∧MapAt W mb (acc.map fun n=>(n.1,Value.int .i64 1))∧(Lard.rdAll r.data.toList acc).map (fun ns=>(⟨wo,ns⟩:Lard.Keep))=q∧acc.length + r.size≤1000000)∨(ok=false∧q=none∧Below w.heap.size w W)
end
end Go.Proofs.YtpekpdimdelncaaGreatDoor
