/- Out of: E4, E5. -/
import Derived.Test.YtpekpdimdelncaaGreatDoorP36
import Derived.Deep.OwnRows
import Derived.Deep.RegionWith
set_option linter.unusedVariables false
set_option linter.unusedSimpArgs false
namespace Go.Proofs.YtpekpdimdelncaaGreatDoor
section
open Go.RowKit Go.Shelf
def hasF (H:Nat→Nat×List UInt8) (j:Nat):Value:=if j % 2=0 then .int .i64 ((H (j / 2)).1:Int) else str (H (j / 2)).2
def HM (w:World) (hb:Nat) (H:Nat→Nat×List UInt8):Prop:=∃ (m:Nat) (F:Nat→Value),16≤m∧w.rowIs hb 69 m F∧∀ j,j < 16→F j=hasF H j
section
variable {w w':World} {hb:Nat} {H:Nat→Nat×List UInt8}
theorem HM.at (h:HM w hb H) {j:Nat} (hj:j < 16):w.cell? ⟨hb,j,none⟩=some (hasF H j):=by
 obtain ⟨m,F,hm,h1,h2⟩:=h
 rw [World.rowIs.cell h1 (i:=j) (by omega),h2 j hj]
theorem HM.what (h:HM w hb H) {i:Nat} (hi:i < 8):w.cell? ⟨hb,i * 2,none⟩=some (.int .i64 ((H i).1:Int)):=by
 have:=h.at (j:=i * 2) (by omega)
 unfold hasF at this
 rw [if_pos (by omega),show i * 2 / 2=i by omega] at this
 exact this
theorem HM.text (h:HM w hb H) {i:Nat} (hi:i < 8):w.cell? ⟨hb,i * 2 + 1,none⟩=some (str (H i).2):=by
 have:=h.at (j:=i * 2 + 1) (by omega)
 unfold hasF at this
 rw [if_neg (by omega),show (i * 2 + 1) / 2=i by omega] at this
 exact this
theorem HM.frozen (h:HM w hb H) (i:Nat):w.frozen? ⟨hb,i,none⟩=false:=by
 obtain ⟨m,F,hm,h1,h2⟩:=h
 exact World.rowIs.frozen h1 i
theorem HM.put (h:HM w hb H) {n:Nat} (hn:n < 8) (p:Nat×List UInt8):HM ((w.setCell ⟨hb,n * 2,none⟩ (.int .i64 (p.1:Int))).setCell ⟨hb,n * 2 + 1,none⟩ (str p.2)) hb (Lard.updH H n p):=by
 obtain ⟨m,F,hm,h1,h2⟩:=h
 refine ⟨m,_,hm,(World.rowIs.set h1 (n * 2) (.int .i64 (p.1:Int))).set (n * 2 + 1) (str p.2),fun j hj=>?_⟩
 unfold hasF Lard.updH
 by_cases e1:j=n * 2 + 1
 ·rw [if_pos e1,if_neg (by omega),if_pos (by omega)]
 ·rw [if_neg e1]
  by_cases e2:j=n * 2
  ·rw [if_pos e2,if_pos (by omega),if_pos (by omega)]
  ·rw [if_neg e2,if_neg (show ¬ j / 2=n by omega),h2 j hj]
   rfl
theorem HM.blk (h:HM w hb H):∃ c:Array Value,w.heap[hb]? = some (.cells c 69 (0,0)):=by
 obtain ⟨m,F,hm,⟨c,h1,_⟩,h2⟩:=h
 exact ⟨c,h1⟩
theorem HM.lt (h:HM w hb H):hb < w.heap.size:=by
 obtain ⟨m,F,hm,h1,h2⟩:=h
 exact World.rowIs.lt h1
theorem HM.same (h:HM w hb H) (e:w'.heap[hb]? = w.heap[hb]?):HM w' hb H:=by
 obtain ⟨m,F,hm,h1,h2⟩:=h
 exact ⟨m,F,hm,World.rowIs.of_block h1 e,h2⟩
end
theorem imm_has:¬ Imm 69:=by unfold Imm; decide
structure HL (w0 w:World) (lb hb:Nat) (s:Lard.LS) (L:Nat→Prop) (N:Nat) (H:Nat→Nat×List UInt8):Prop where
 la:La w lb s L N
 hm:HM w hb H
 off:∀ k,L k→w0.heap.size≤k∧k≠hb
 own:w0.heap.size≤hb∧8≤hb
 bel:Below w0.heap.size w0 w
 ok:Lard.HasOk s H 8
 oki:∀ i,i < 8→Lard.OkI (H i)
section
variable {w0 w w':World} {lb hb:Nat} {s s':Lard.LS} {L:Nat→Prop} {N M:Nat} {H H':Nat→Nat×List UInt8}
theorem HL.below (h:HL w0 w lb hb s L N H) (hB:Below w.heap.size w w'):HL w0 w' lb hb s L N H :=
 ⟨h.la.below hB,h.hm.same (hB.block _ h.hm.lt),h.off,h.own,h.bel.trans (hB.mono h.bel.size),h.ok,h.oki⟩
theorem HL.le (h:HL w0 w lb hb s L N H) (hM:N≤M):HL w0 w lb hb s L M H:=⟨h.la.le hM,h.hm,h.off,h.own,h.bel,h.ok,h.oki⟩
theorem HL.post (h:HL w0 w lb hb s L N H) (hP:LaPost w lb L s' M w') (hok:Lard.HasOk s' H' 8) (hH:H'=H):∃ L',HL w0 w' lb hb s' L' M H':=by
 subst hH
 obtain ⟨L',h1,h2,h3,h4⟩:=hP
 have hb0:=h.bel.size
 refine ⟨L',h1,h.hm.same (h4.block _ h.hm.lt (fun hl=>(h.off _ hl).2 rfl)),fun k hk=>?_,h.own,?_,hok,h.oki⟩
 ·rcases h2 k hk with h5 | h5
  ·exact h.off k h5
  ·have:=h.hm.lt
   exact ⟨by omega,by omega⟩
 ·exact h.bel.trans ⟨h4.os,h4.tape,h4.output,h4.size,fun k hk=>h4.block k (by omega) (fun hl=>by have:=(h.off k hl).1; omega)⟩
end
structure KpX (X:Nat→Prop) (w0 w:World):Prop extends Frm (fun k=>¬ X k) w0 w where
 lt:∀ k,X k→k < w0.heap.size
theorem KpX.same {X:Nat→Prop} {w0 w:World} (h:KpX X w0 w) {k:Nat} (hk:X k):w.heap[k]? = w0.heap[k]? := h.block k (h.lt k hk) (fun hn=>hn hk)
theorem KpX.on {X Y:Nat→Prop} {w0 w w':World} (h:KpX X w0 w) (hf:Frm Y w w') (hY:∀ k,Y k→¬ X k):KpX X w0 w' where
 os:=hf.os.trans h.os
 tape:=hf.tape.trans h.tape
 output:=hf.output.trans h.output
 size:=Nat.le_trans h.size hf.size
 block k hk hn:=by
  have hx:X k:=Classical.byContradiction hn
  exact (hf.block k (Nat.lt_of_lt_of_le hk h.size) (fun hy=>hY k hy hx)).trans (h.same hx)
 lt:=h.lt
theorem KpX.below {X:Nat→Prop} {w0 w w':World} (h:KpX X w0 w) (hB:Below w.heap.size w w'):KpX X w0 w':=h.on (Frm.below (L:=fun _=>False) hB) (fun _ h=>h.elim)
structure HX (X:Nat→Prop) (w0 w:World) (lb hb:Nat) (s:Lard.LS) (L:Nat→Prop) (N:Nat) (H:Nat→Nat×List UInt8):Prop where
 la:La w lb s L N
 hm:HM w hb H
 off:∀ k,L k→¬ X k∧k≠hb
 own:¬ X hb∧8≤hb
 bel:KpX X w0 w
 ok:Lard.HasOk s H 8
 oki:∀ i,i < 8→Lard.OkI (H i)
section
variable {X:Nat→Prop} {w0 w w':World} {lb hb:Nat} {s s':Lard.LS} {L:Nat→Prop} {N M:Nat} {H H':Nat→Nat×List UInt8}
theorem HL.hx (h:HL w0 w lb hb s L N H):HX (fun k=>k < w0.heap.size) w0 w lb hb s L N H :=
 ⟨h.la,h.hm,fun k hk=>⟨by have:=(h.off k hk).1; omega,(h.off k hk).2⟩,⟨by have:=h.own.1; omega,h.own.2⟩,{ os:=h.bel.os,tape:=h.bel.tape,output:=h.bel.output,size:=h.bel.size,block:=fun k hk _=>h.bel.block k hk,lt:=fun k hk=>hk },h.ok,h.oki⟩
theorem HX.hl (h:HX (fun k=>k < w0.heap.size) w0 w lb hb s L N H):HL w0 w lb hb s L N H :=
 ⟨h.la,h.hm,fun k hk=>⟨by have:=(h.off k hk).1; omega,(h.off k hk).2⟩,⟨by have:=h.own.1; omega,h.own.2⟩,⟨h.bel.os,h.bel.tape,h.bel.output,h.bel.size,fun k hk=>h.bel.same hk⟩,h.ok,h.oki⟩
theorem HX.below (h:HX X w0 w lb hb s L N H) (hB:Below w.heap.size w w'):HX X w0 w' lb hb s L N H :=
 ⟨h.la.below hB,h.hm.same (hB.block _ h.hm.lt),h.off,h.own,h.bel.below hB,h.ok,h.oki⟩
theorem HX.le (h:HX X w0 w lb hb s L N H) (hM:N≤M):HX X w0 w lb hb s L M H:=⟨h.la.le hM,h.hm,h.off,h.own,h.bel,h.ok,h.oki⟩
theorem KpX.new (h:KpX X w0 w) {k:Nat} (hk:w.heap.size≤k):¬ X k:=fun hx=>by
 have:=h.lt k hx
 have:=h.size
 omega
theorem HX.post (h:HX X w0 w lb hb s L N H) (hP:LaPost w lb L s' M w') (hok:Lard.HasOk s' H' 8) (hH:H'=H):∃ L',HX X w0 w' lb hb s' L' M H':=by
 subst hH
 obtain ⟨L',h1,h2,h3,h4⟩:=hP
 refine ⟨L',h1,h.hm.same (h4.block _ h.hm.lt (fun hl=>(h.off _ hl).2 rfl)),fun k hk=>?_,h.own,h.bel.on h4 (fun k hl=>(h.off k hl).1),hok,h.oki⟩
 rcases h2 k hk with h5 | h5
 ·exact h.off k h5
 ·have:=h.hm.lt
  exact ⟨h.bel.new h5,by omega⟩
theorem HX.note (h:HX X w0 w lb hb s L N H) {n:Nat} (hn:n < 8) (p:Nat×List UInt8):La ((w.setCell ⟨hb,n * 2,none⟩ (.int .i64 (p.1:Int))).setCell ⟨hb,n * 2 + 1,none⟩ (str p.2)) lb s L N∧HM ((w.setCell ⟨hb,n * 2,none⟩ (.int .i64 (p.1:Int))).setCell ⟨hb,n * 2 + 1,none⟩ (str p.2)) hb (Lard.updH H n p)∧KpX X w0 ((w.setCell ⟨hb,n * 2,none⟩ (.int .i64 (p.1:Int))).setCell ⟨hb,n * 2 + 1,none⟩ (str p.2)):=by
 have hblk:∀ k,k≠hb→((w.setCell ⟨hb,n * 2,none⟩ (.int .i64 (p.1:Int))).setCell ⟨hb,n * 2 + 1,none⟩ (str p.2)).heap[k]? = w.heap[k]? := fun k hk=>by
  rw [Deep.blk_setCell_other _ _ _ _ hk,Deep.blk_setCell_other _ _ _ _ hk]
 have hsz:((w.setCell ⟨hb,n * 2,none⟩ (.int .i64 (p.1:Int))).setCell ⟨hb,n * 2 + 1,none⟩ (str p.2)).heap.size=w.heap.size:=by simp [World.setCell]
 refine ⟨h.la.other (L2:=fun k=>k=hb) ⟨rfl,rfl,rfl,by omega,fun k hk hne=>hblk k hne⟩ (fun k hk=>by rw [hk]; exact h.own.2) (fun k hk cs t fz hc=>?_) (fun k hk e=>(h.off k hk).2 e),h.hm.put hn p,h.bel.on (Y:=fun k=>k=hb) ⟨rfl,rfl,rfl,by omega,fun k hk hne=>hblk k hne⟩ (fun k hk=>by rw [hk]; exact h.own.1)⟩
 subst hk
 obtain ⟨c,h1⟩:=h.hm.blk
 rw [h1] at hc
 cases hc
 exact imm_has
end
end
section
open Go.RowKit Go.Shelf
def valOf (c:Int):Lard.V:=(Lard.rdV (Lard.valueText (pickN c 12))).getD (Lard.vn 0)
def stepS (s:Lard.LS) (kd ky wi:Int):Lard.LS :=
 if pickN kd 9 < 2 then s.gv (Lard.keyText (pickN ky 8)) ⟨valOf wi,none,[],none⟩
 else if pickN kd 9 < 5 then s.gv (Lard.keyText (pickN ky 8)) ⟨Lard.vn 0,some (Lard.treeOf (ruleOf wi)),ruleOf wi,none⟩
 else if pickN kd 9=5 then (if (Lard.look s.has (Lard.keyText (pickN ky 8))).isSome=true then s.drop (Lard.keyText (pickN ky 8)) else s)
 else (s.ask (Lard.keyText (pickN ky 8))).2
def stepH (H:Nat→Nat×List UInt8) (kd ky wi:Int):Nat→Nat×List UInt8 :=
 if pickN kd 9 < 2 then Lard.updH H (pickN ky 8) (1,Lard.valueText (pickN wi 12))
 else if pickN kd 9 < 5 then Lard.updH H (pickN ky 8) (2,ruleOf wi)
 else if pickN kd 9=5 then Lard.updH H (pickN ky 8) (0,[])
 else H
theorem ruleOf_ok (c:Int):Lard.check (ruleOf c)=(0,0)∧(Lard.treeOf (ruleOf c)).kind≠0∧(ruleOf c).length≤60:=by
 unfold ruleOf ruleTx
 have h1:pickN c 16 < 16:=Nat.mod_lt _ (by omega)
 have h2:pickN (c.tdiv 16) 8 < 8:=Nat.mod_lt _ (by omega)
 have h3:pickN (c.tdiv 128) 8 < 8:=Nat.mod_lt _ (by omega)
 have h4:pickN (c.tdiv 16) 4=pickN (c.tdiv 16) 8 % 4:=by unfold pickN; omega
 have h5:pickN (c.tdiv 16) 10 < 10:=Nat.mod_lt _ (by omega)
 rw [h4]
 split
 ·exact ⟨Lard.digit_good h5,Lard.digit_tree h5,by show 1≤60; omega⟩
 ·exact ⟨(Lard.rule_good h1 h2 h3).1,Lard.rule_tree h1 h2 h3,(Lard.rule_good h1 h2 h3).2⟩
theorem ruleOf_T (c:Int):Lard.ruleT (ruleOf c)=some (Lard.treeOf (ruleOf c)):=ruleT_of (ruleOf_ok c).1 (ruleOf_ok c).2.1
theorem valOf_rd (c:Int):Lard.rdV (Lard.valueText (pickN c 12))=some (valOf c)∧(Lard.valueText (pickN c 12)).length≤1000:=by
 have h1:pickN c 12 < 12:=Nat.mod_lt _ (by omega)
 obtain ⟨h2,h3⟩:=Lard.value_good h1
 refine ⟨?_,h3⟩
 unfold valOf
 cases h:Lard.rdV (Lard.valueText (pickN c 12)) with
 |none=>rw [h] at h2; cases h2
 |some v=>rfl
section
variable {X:Nat→Prop} {w0 w w':World} {lb hb:Nat} {s:Lard.LS} {L:Nat→Prop} {N:Nat} {H:Nat→Nat×List UInt8}
theorem HX.put (h:HX X w0 w lb hb s L N H) {n:Nat} (hn:n < 8) (c:Int) {L1:Nat→Prop} (hla:La w' lb s L1 N) {M:Nat}
  (hL1:∀ k,L1 k→¬ X k∧k≠hb) (hm:HM w' hb (Lard.updH H n (1,Lard.valueText (pickN c 12)))) (hbel:KpX X w0 w') {w2:World} (hP:LaPost w' lb L1 (s.gv (Lard.keyText n) ⟨valOf c,none,[],none⟩) M w2) :
  ∃ L',HX X w0 w2 lb hb (s.gv (Lard.keyText n) ⟨valOf c,none,[],none⟩) L' M (Lard.updH H n (1,Lard.valueText (pickN c 12))):=by
 obtain ⟨L',h1,h2,h3,h4⟩:=hP
 refine ⟨L',h1,hm.same (h4.block _ hm.lt (fun hl=>(hL1 _ hl).2 rfl)),fun k hk=>?_,h.own,?_,?_,fun i hi=>?_⟩
 ·rcases h2 k hk with h5 | h5
  ·exact hL1 k h5
  ·have:=hm.lt
   exact ⟨hbel.new h5,by omega⟩
 ·exact hbel.on h4 (fun k hl=>(hL1 k hl).1)
 ·exact h.ok.put hn rfl h1.sound (by
   show Lard.srcI (1,_)=_
   unfold Lard.srcI
   rw [if_pos rfl,(valOf_rd c).1]
   rfl)
 ·unfold Lard.updH
  split
  ·exact .inr (.inl ⟨rfl,by rw [(valOf_rd c).1]; rfl,(valOf_rd c).2⟩)
  ·exact h.oki i hi
theorem HX.set (h:HX X w0 w lb hb s L N H) {n:Nat} (hn:n < 8) (c:Int) {L1:Nat→Prop} (hla:La w' lb s L1 N) {M:Nat}
  (hL1:∀ k,L1 k→¬ X k∧k≠hb) (hm:HM w' hb (Lard.updH H n (2,ruleOf c))) (hbel:KpX X w0 w') {w2:World} (hP:LaPost w' lb L1 (s.gv (Lard.keyText n) ⟨Lard.vn 0,some (Lard.treeOf (ruleOf c)),ruleOf c,none⟩) M w2) :
  ∃ L',HX X w0 w2 lb hb (s.gv (Lard.keyText n) ⟨Lard.vn 0,some (Lard.treeOf (ruleOf c)),ruleOf c,none⟩) L' M (Lard.updH H n (2,ruleOf c)):=by
 obtain ⟨L',h1,h2,h3,h4⟩:=hP
 refine ⟨L',h1,hm.same (h4.block _ hm.lt (fun hl=>(hL1 _ hl).2 rfl)),fun k hk=>?_,h.own,?_,?_,fun i hi=>?_⟩
 ·rcases h2 k hk with h5 | h5
  ·exact hL1 k h5
  ·have:=hm.lt
   exact ⟨hbel.new h5,by omega⟩
 ·exact hbel.on h4 (fun k hl=>(hL1 k hl).1)
 ·exact h.ok.put hn rfl h1.sound (by
   show Lard.srcI (2,_)=_
   unfold Lard.srcI
   rw [if_neg (show ¬ (2:Nat)=1 by decide),if_pos rfl,if_pos (ruleOf_ok c).1])
 ·unfold Lard.updH
  split
  ·exact .inr (.inr ⟨rfl,(ruleOf_ok c).1,(ruleOf_ok c).2.1⟩)
  ·exact h.oki i hi
theorem HX.drop (h:HX X w0 w lb hb s L N H) {n:Nat} (hn:n < 8) {s':Lard.LS} {M:Nat} {w2:World} (hs:((Lard.look s.has (Lard.keyText n)).isSome=true∧s'=s.drop (Lard.keyText n))∨((Lard.look s.has (Lard.keyText n)).isSome=false∧s'=s)) (hP:LaPost w lb L s' M w2) :
  HM w2 hb H∧∃ L',HX X w0 ((w2.setCell ⟨hb,n * 2,none⟩ (.int .i64 0)).setCell ⟨hb,n * 2 + 1,none⟩ (.string ⟨#[]⟩)) lb hb s' L' M (Lard.updH H n (0,[])):=by
 obtain ⟨L',h1,h2,h3,h4⟩:=hP
 have hm2:HM w2 hb H:=h.hm.same (h4.block _ h.hm.lt (fun hl=>(h.off _ hl).2 rfl))
 have hL':∀ k,L' k→¬ X k∧k≠hb:=fun k hk=>by
  rcases h2 k hk with h5 | h5
  ·exact h.off k h5
  ·have:=h.hm.lt
   exact ⟨h.bel.new h5,by omega⟩
 have hbel:KpX X w0 w2:=h.bel.on h4 (fun k hl=>(h.off k hl).1)
 have hblk:∀ k,k≠hb→((w2.setCell ⟨hb,n * 2,none⟩ (.int .i64 0)).setCell ⟨hb,n * 2 + 1,none⟩ (.string ⟨#[]⟩)).heap[k]? = w2.heap[k]? := fun k hk=>by
  rw [Deep.blk_setCell_other _ _ _ _ hk,Deep.blk_setCell_other _ _ _ _ hk]
 have hsz:((w2.setCell ⟨hb,n * 2,none⟩ (.int .i64 0)).setCell ⟨hb,n * 2 + 1,none⟩ (.string ⟨#[]⟩)).heap.size=w2.heap.size:=by simp [World.setCell]
 refine ⟨hm2,L',h1.other (L2:=fun k=>k=hb) ⟨rfl,rfl,rfl,by omega,fun k hk hne=>hblk k hne⟩ (fun k hk=>by rw [hk]; exact h.own.2) (fun k hk cs t fz hc=>?_) (fun k hk e=>(hL' k hk).2 e),hm2.put hn (0,[]),hL',h.own,hbel.on (Y:=fun k=>k=hb) ⟨rfl,rfl,rfl,by omega,fun k hk hne=>hblk k hne⟩ (fun k hk=>by rw [hk]; exact h.own.1),?_,fun i hi=>?_⟩
 ·subst hk
  obtain ⟨c,h5⟩:=hm2.blk
  rw [h5] at hc
  cases hc
  exact imm_has
 ·rcases hs with ⟨_,rfl⟩ | ⟨hl,rfl⟩
  ·exact h.ok.drop hn
  ·have h6:=h.ok.look hn (h.oki n hn)
   rw [hl] at h6
   have h7:¬ 0 < (H n).1:=by simpa using h6.symm
   have h8:H n=(0,[]):=by
    rcases h.oki n hn with e | ⟨e,_⟩ | ⟨e,_⟩
    ·exact e
    ·omega
    ·omega
   have h9:Lard.updH H n (0,[])=H:=by
    funext i
    unfold Lard.updH
    by_cases e:i=n
    ·rw [if_pos e,e,h8]
    ·rw [if_neg e]
   rw [h9]
   exact h.ok
 ·unfold Lard.updH
  split
  ·exact .inl rfl
  ·exact h.oki i hi
end
theorem wr_ne (v:Lard.V):Lard.wr 3 v≠[]:=by
 obtain ⟨x⟩:=v
 rcases x with i | b | l
 ·exact Lard.itoa_ne i
 ·exact List.cons_ne_nil _ _
 ·exact List.cons_ne_nil _ _
end
end Go.Proofs.YtpekpdimdelncaaGreatDoor
