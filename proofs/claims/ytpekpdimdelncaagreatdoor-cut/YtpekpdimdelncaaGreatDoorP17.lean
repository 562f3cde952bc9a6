/- Out of: L10, L11, L12, L13. -/
import Derived.Test.YtpekpdimdelncaaGreatDoorP16
set_option linter.unusedVariables false
set_option linter.unusedSimpArgs false
namespace Go.Proofs.YtpekpdimdelncaaGreatDoor
section
open Go.RowKit Go.Shelf
theorem nodup_inj {α β:Type} (f:α→β):∀ {l:List α},(l.map f).Nodup→∀ {a b:α},a∈l→b∈l→f a=f b→a=b
 |[],_,_,_,h,_,_=>by simp at h
 |x :: l,hn,a,b,ha,hb,hab=>by
  simp only [List.map_cons,List.nodup_cons] at hn
  rcases List.mem_cons.1 ha with h1 | h1
  ·rcases List.mem_cons.1 hb with h2 | h2
   ·exact h1.trans h2.symm
   ·exact (hn.1 (by rw [←h1,hab]; exact List.mem_map.2 ⟨b,h2,rfl⟩)).elim
  ·rcases List.mem_cons.1 hb with h2 | h2
   ·exact (hn.1 (by rw [←h2,←hab]; exact List.mem_map.2 ⟨a,h1,rfl⟩)).elim
   ·exact nodup_inj f hn.2 h1 h2 hab
theorem lk_thing (hp:List (List UInt8×(Lard.Thing×Nat))) (k:List UInt8):Lard.look (hp.map fun x=>(x.1,x.2.1)) k=(Lard.look hp k).map (fun x=>x.1) :=
 Lard.look_map (fun x:List UInt8×(Lard.Thing×Nat)=>(x.1,x.2.1)) (fun _ x=>x.1) (fun _=>rfl) hp k
theorem lk_ptr (hp:List (List UInt8×(Lard.Thing×Nat))) (k:List UInt8):Lard.look (hp.map fun x=>(x.1,ptr x.2.2)) k=(Lard.look hp k).map (fun x=>ptr x.2) :=
 Lard.look_map (fun x:List UInt8×(Lard.Thing×Nat)=>(x.1,ptr x.2.2)) (fun _ x=>ptr x.2) (fun _=>rfl) hp k
theorem mem_look {α:Type} {l:List (List UInt8×α)} {k:List UInt8} {a:α} (hn:(l.map (·.1)).Nodup) (h:(k,a)∈l):Lard.look l k=some a:=by
 obtain ⟨j,hj⟩:=List.getElem?_of_mem h
 exact look_at hn hj
theorem HasAt.at {w:World} {L:Nat→Prop} {hb:Nat} {has:List (List UInt8×Lard.Thing)} (h:HasAt w L hb has) {key:List UInt8} {th:Lard.Thing} (hl:Lard.look has key=some th) :
  ∃ p,ThingAt w L th p∧(∀ (c:Bool),key.length≤maxLen→(Instr.lookup 104 (.map (some hb)) (str key) c).run Tryz.prog w=.ok (if c=true then .tuple #[ptr p,.bool true] else ptr p) w):=by
 obtain ⟨hp,h1,h2,h3,h4,h5,h6⟩:=h
 have hlk:(Lard.look hp key).map (fun x=>x.1)=some th:=by
  rw [←hl,h1,lk_thing]
 cases hx:Lard.look hp key with
 |none=>rw [hx] at hlk; cases hlk
 |some x =>
  rw [hx] at hlk
  have e:x.1=th:=by simpa using hlk
  subst e
  have hm:=Lard.look_mem hx
  refine ⟨x.2,h4 _ hm,fun c hk=>?_⟩
  have hml:Lard.look (hp.map fun x=>(x.1,ptr x.2.2)) key=some (ptr x.2):=by
   rw [lk_ptr,hx]; rfl
  cases c
  ·have:=h2.look1 Tryz.underlying104 hk (z:=.pointer none) (by kernel_rfl)
   rw [this,hml]
   rfl
  ·have:=h2.look Tryz.underlying104 hk (z:=.pointer none) (by kernel_rfl)
   rw [this,hml]
   rfl
theorem HasAt.absent {w:World} {L:Nat→Prop} {hb:Nat} {has:List (List UInt8×Lard.Thing)} (h:HasAt w L hb has) {key:List UInt8} (hl:Lard.look has key=none) (hk:key.length≤maxLen) :
  (Instr.lookup 104 (.map (some hb)) (str key) true).run Tryz.prog w=.ok (.tuple #[.pointer none,.bool false]) w:=by
 obtain ⟨hp,h1,h2,h3,h4,h5,h6⟩:=h
 have hx:Lard.look hp key=Option.none:=by
  rw [h1,lk_thing] at hl
  cases hx:Lard.look hp key with
  |none=>rfl
  |some x=>rw [hx] at hl; cases hl
 have hml:Lard.look (hp.map fun x=>(x.1,ptr x.2.2)) key=Option.none:=by
  rw [lk_ptr,hx]; rfl
 have:=h2.look Tryz.underlying104 hk (z:=.pointer Option.none) (by kernel_rfl)
 rw [this,hml]
theorem HasAt.set {w:World} {L:Nat→Prop} {hb:Nat} {has:List (List UInt8×Lard.Thing)} (h:HasAt w L hb has) {key:List UInt8} {th:Lard.Thing} {p:Nat} (hl:Lard.look has key=some th) (o:Option Lard.Keep) (v:Value)
  (ho:(o=none∧v=.pointer none)∨∃ kp kb,o=some kp∧v=ptr kb∧KeepAt w L kp kb∧th.tree≠none) (hp0:(Instr.lookup 104 (.map (some hb)) (str key) false).run Tryz.prog w=.ok (ptr p) w) (hk:key.length≤maxLen) :
  HasAt (w.setCell ⟨p,3,none⟩ v) L hb (Lard.setKept has key o):=by
 obtain ⟨p',ht',hr'⟩:=h.at hl
 have hpp:p'=p:=by
  have:=hr' false hk
  rw [hp0] at this
  simp [ptr] at this
  exact this.symm
 subst hpp
 obtain ⟨hp,h1,h2,h3,h4,h5,h6⟩:=h
 obtain ⟨v0,r0,k0,hb0,hL0,h200,h7,h8⟩:=ht'
 have ht:=tn_set hb0 3 v
 have hkn:=h2.nodup
 rw [List.map_map] at hkn
 have hkn:(hp.map (·.1)).Nodup:=hkn
 have hx:∃ x∈hp,x.1=key∧x.2.1=th∧x.2.2=p':=by
  have hlk:(Lard.look hp key).map (fun x=>x.1)=some th:=by
   rw [←hl,h1,lk_thing]
  cases hx:Lard.look hp key with
  |none=>rw [hx] at hlk; cases hlk
  |some x =>
   rw [hx] at hlk
   have e:x.1=th:=by simpa using hlk
   refine ⟨_,Lard.look_mem hx,rfl,e,?_⟩
   have hml:Lard.look (hp.map fun x=>(x.1,ptr x.2.2)) key=some (ptr x.2):=by
    rw [lk_ptr,hx]; rfl
   have:=h2.look1 Tryz.underlying104 hk (z:=.pointer none) (by kernel_rfl)
   rw [hp0,hml] at this
   simp [ptr] at this
   exact this.symm
 obtain ⟨x0,hx0,e1,e2,e3⟩:=hx
 have hst:Stay w (w.setCell ⟨p',3,none⟩ v):=ht.stay (.inr (.inr (.inr (.inr (.inl rfl)))))
 have hk2:K2 L w (w.setCell ⟨p',3,none⟩ v):=fun k _ cs t fz hc hkt=>ht.cells hc (fun e=>by rcases hkt with hkt | hkt <;> (rw [hkt] at e; revert e; decide))
 refine ⟨hp.map (fun x=>if x.1 == key then (x.1,({ x.2.1 with kept:=o },x.2.2)) else x),?_,?_,?_,?_,?_,h6⟩
 ·rw [h1,Lard.setKept,List.map_map,List.map_map]
  refine List.map_congr_left (fun x _=>?_)
  simp only [Function.comp_def]
  split <;> rfl
 ·have e:(hp.map (fun x=>if x.1 == key then (x.1,({ x.2.1 with kept:=o },x.2.2)) else x)).map (fun x=>(x.1,ptr x.2.2))=hp.map (fun x=>(x.1,ptr x.2.2)):=by
   rw [List.map_map]
   refine List.map_congr_left (fun x _=>?_)
   simp only [Function.comp_def]
   split <;> rfl
  rw [e]
  exact h2.same (ht.map h2)
 ·have e:(hp.map (fun x=>if x.1 == key then (x.1,({ x.2.1 with kept:=o },x.2.2)) else x)).map (·.2.2)=hp.map (·.2.2):=by
   rw [List.map_map]
   refine List.map_congr_left (fun x _=>?_)
   simp only [Function.comp_def]
   split <;> rfl
  rw [e]
  exact h3
 ·intro x' hx'
  obtain ⟨x,hx,rfl⟩:=List.mem_map.1 hx'
  by_cases hkk:x.1=key
  ·have hxe:x=x0:=nodup_inj (fun y:List UInt8×(Lard.Thing×Nat)=>y.1) hkn hx hx0 (hkk.trans e1.symm)
   subst hxe
   rw [if_pos (by simp [hkk])]
   refine ⟨v0,r0,v,?_,?_,?_,?_,?_⟩
   ·show (w.setCell _ _).heap[x.2.2]? = _
    rw [e3,blk_cell hb0 3 v,e2]
    rfl
   ·show L x.2.2
    rw [e3]; exact hL0
   ·show x.2.1.came.length≤200
    rw [e2]; exact h200
   ·show (x.2.1.tree=none∧_)∨_
    rw [e2]
    rcases h7 with ⟨a,b,c,d⟩ | ⟨t,a,b,c,d,e,f⟩
    ·refine .inl ⟨a,b,c.st hst,?_⟩
     rcases ho with ⟨ho,_⟩ | ⟨kp,kb,_,_,_,ho⟩
     ·exact ho
     ·exact (ho a).elim
    ·exact .inr ⟨t,a,b,c,d,e,f.st hst⟩
   ·rcases ho with ⟨ho,hv⟩ | ⟨kp,kb,ho,hv,hkp,_⟩
    ·exact .inl ⟨ho,hv⟩
    ·exact .inr ⟨kp,kb,ho,hv,hkp.st hk2 hst⟩
  ·rw [if_neg (by simp [hkk])]
   have hne:x.2.2≠p':=fun e=>hkk (by
    have:=nodup_inj (fun y:List UInt8×(Lard.Thing×Nat)=>y.2.2) h3 hx hx0 (e.trans e3.symm)
    rw [this]; exact e1)
   exact (h4 x hx).st (Below.heap_setCell w ⟨p',3,none⟩ v x.2.2 hne) hk2 hst
 ·intro x' hx'
  obtain ⟨x,hx,rfl⟩:=List.mem_map.1 hx'
  split
  ·exact h5 x hx
  ·exact h5 x hx
theorem LP.kept {w:World} {lb:Nat} {s:Lard.LS} {L:Nat→Prop} {hb db:Nat} {vb vr vn vj:Value} (h:LP w lb s L hb db vb vr vn vj) {key:List UInt8} {th:Lard.Thing} {p:Nat} (hl:Lard.look s.has key=some th) (o:Option Lard.Keep) (v:Value)
  (ho:(o=none∧v=.pointer none)∨∃ kp kb,o=some kp∧v=ptr kb∧KeepAt w L kp kb∧th.tree≠none) (hp0:(Instr.lookup 104 (.map (some hb)) (str key) false).run Tryz.prog w=.ok (ptr p) w) (hk:key.length≤maxLen) :
  LPost w lb L { s with has:=Lard.setKept s.has key o } (w.setCell ⟨p,3,none⟩ v):=by
 have hpe:∃ cs,w.heap[p]? = some (.cells cs 124 (0,0))∧L p:=by
  obtain ⟨p',ht',hr'⟩:=h.has.at hl
  have:=hr' false hk
  rw [hp0] at this
  simp [ptr] at this
  subst this
  obtain ⟨h1,cs,h2⟩:=ht'.block
  exact ⟨cs,h2,h1⟩
 obtain ⟨cs,hcs,hLp⟩:=hpe
 have ht:=tn_set hcs 3 v
 have hth:LT 124:=.inr (.inr (.inr (.inr (.inl rfl))))
 have hlp:LP (w.setCell ⟨p,3,none⟩ v) lb { s with has:=Lard.setKept s.has key o } L hb db vb vr vn vj:={
  blk:=ht.cells h.blk (by decide)
  here:=h.here
  ne:=h.ne
  has:=h.has.set hl o v ho hp0 hk
  done:=h.done.tn ht hth
  begun:=row_tn h.begun ht (by decide)
  ring:=row_tn h.ring ht (by decide)
  ran:=row_tn h.ran ht (by decide)
  jr:=row_tn h.jr ht (by decide)
  mine:=h.mine
  apart:=h.apart
  rnil:=h.rnil
  typed:=typed_tn h.typed ht hth (fun b hb=>by cases hb; exact ⟨_,_,blk_cell hcs 3 v⟩) }
 refine ⟨L,⟨hb,db,vb,vr,vn,vj,hlp⟩,fun k hk=>.inl hk,fun k hk=>hk,h.frw hlp (Frm.grown ht.g hLp) (fun k hk cs t fz hc hkt=>ht.cells hc (by rcases hkt with rfl | rfl <;> decide)) ?_⟩
 obtain ⟨hp,q1,q2,_⟩:=h.has
 exact ht.map q2
end
section
set_option maxRecDepth 100000
set_option maxHeartbeats 1000000
open Go.RowKit Go.Shelf
theorem LPost.size {w w':World} {lb:Nat} {s:Lard.LS} {L:Nat→Prop} (h:LPost w lb L s w'):w.heap.size≤w'.heap.size:=by
 obtain ⟨_,_,_,_,h⟩:=h
 exact h.size
theorem LPost.g {w w':World} {lb:Nat} {s s0:Lard.LS} {L:Nat→Prop} (h:LPost w lb L s w') (h0:LAt w lb s0 L) (g:G w):G w':=by
 obtain ⟨_,_,_,_,h⟩:=h
 exact frm_g h0 h.toFrm g
theorem LPost.deb {w w':World} {lb:Nat} {s s0:Lard.LS} {L:Nat→Prop} (h:LPost w lb L s w') (h0:LAt w lb s0 L) (g:G w) (hd:Deb w):Deb w':=by
 obtain ⟨_,_,_,_,h⟩:=h
 exact frm_deb h0 h.toFrm g hd
theorem LPost.keeps {w w':World} {lb:Nat} {s s0:Lard.LS} {L:Nat→Prop} (h:LPost w lb L s w') (h0:LAt w lb s0 L):Keeps w w':=by
 obtain ⟨_,_,_,_,h⟩:=h
 exact frm_keeps h0 h.toFrm
theorem LPost.then {w w1:World} {lb:Nat} {s1:Lard.LS} {L:Nat→Prop} (h:LPost w lb L s1 w1):∃ L1,LAt w1 lb s1 L1∧(∀ k,L k→L1 k)∧∀ s2 w2,LPost w1 lb L1 s2 w2→LPost w lb L s2 w2:=by
 obtain ⟨L1,h1,h2,h3,h4⟩:=h
 refine ⟨L1,h1,h3,fun s2 w2 hx=>?_⟩
 obtain ⟨L2,g1,g2,g3,g4⟩:=hx
 refine ⟨L2,g1,fun k hk=>?_,fun k hk=>g3 k (h3 k hk),h4.trans g4 h2 h3⟩
 rcases g2 k hk with hk | hk
 ·exact h2 k hk
 ·have:=h4.size
  exact .inr (by omega)
theorem lose_any (w:World) (lb:Nat) (s:Lard.LS) (L:Nat→Prop) (key:ByteArray) (th:Lard.Thing) (h:LAt w lb s L) (g:G w) (hd:Deb w) (hl:Lard.look s.has key.data.toList=some th) (hk:key.size≤200) (hj:(jbytes (s.lose key.data.toList).jr).length≤140737488355328) :
  Calls Tryz.prog 114 #[ptr lb,.string key] w fun e w'=>e=.returned (.tuple #[])∧LPost w lb L (s.lose key.data.toList) w':=by
 obtain ⟨hb,db,vb,vr,vn,vj,h⟩:=h
 have hkl:key.data.toList.length≤maxLen:=by rw [←size_data]; unfold maxLen; omega
 obtain ⟨p,hth,hrun⟩:=h.has.at hl
 have hr:=hrun false hkl
 have hr':(Instr.lookup 104 (.map (some hb)) (str key.data.toList) false).run Tryz.prog w=.ok (ptr p) w:=hr
 have hP:=h.kept hl none (.pointer none) (.inl ⟨rfl,rfl⟩) hr' hkl
 have c0:w.cell? ⟨lb,0,none⟩=some (.map (some hb)):=by simp [World.cell?,h.blk]
 obtain ⟨v0,r0,k0,hb0,_⟩:=hth
 have c3:w.cell? ⟨p,3,none⟩=some k0:=by simp [World.cell?,hb0]
 have z3:w.frozen? ⟨p,3,none⟩=false:=by simp [World.frozen?,hb0]
 have hA:LAt w lb s L:=⟨_,_,_,_,_,_,h⟩
 have hw:∀ L',LAt (w.setCell ⟨p,3,none⟩ (.pointer none)) lb { s with has:=Lard.setKept s.has key.data.toList none } L'→Calls Tryz.prog 59 #[ptr lb,.string (⟨#[108,111,115,101,32]⟩++key)] (w.setCell ⟨p,3,none⟩ (.pointer none)) (fun e w'=>e=.returned (.tuple #[])∧LPost (w.setCell ⟨p,3,none⟩ (.pointer none)) lb L' (s.lose key.data.toList) w'):=by
  intro L' h'
  have ht:(⟨#[108,111,115,101,32]⟩++key:ByteArray).data.toList=[108,111,115,101,32]++key.data.toList:=by simp
  have hsz:(⟨#[108,111,115,101,32]⟩++key:ByteArray).size=5 + key.size:=by rw [size_data,ht,List.length_append,←size_data]; rfl
  have:=write_any _ lb { s with has:=Lard.setKept s.has key.data.toList none } L' (⟨#[108,111,115,101,32]⟩++key) h' (hP.g hA g) (hP.deb hA g hd) (by omega) (by rw [ht]; exact hj)
  rw [ht] at this
  exact this
 obtain ⟨L1,h1,_,hthen⟩:=hP.then
 have HW:=hide (hw L1 h1)
 have HF:=hide (fun w'=>hthen (s.lose key.data.toList) w')
 rw [str_bytes] at hr
 simp only [Bool.false_eq_true,if_false] at hr
 clear hw hrun hr' h1 hthen h hA hb0 hP
 unfold ptr at *
 go_enter Tryz.func114,Tryz.ntmps114
 go_wp2_with fail
 refine HW.out.mono ?_
 rintro e w2 ⟨rfl,hx⟩
 have hfin:=HF.out w2 hx
 clear HW HF hx
 go_wp2_with fail
 go_end0
 exact ⟨rfl,hfin⟩
theorem keep_any (w:World) (lb:Nat) (s:Lard.LS) (L:Nat→Prop) (key:ByteArray) (th:Lard.Thing) (kp:Lard.Keep) (kb:Nat) (h:LAt w lb s L) (g:G w) (hd:Deb w) (hl:Lard.look s.has key.data.toList=some th) (htr:th.tree≠none) (hkp:KeepAt w L kp kb) (hk:key.size≤200) (hj:(jbytes (s.keep key.data.toList kp).jr).length≤140737488355328) :
  Calls Tryz.prog 143 #[ptr lb,.string key,ptr kb] w fun e w'=>e=.returned (.tuple #[])∧LPost w lb L (s.keep key.data.toList kp) w':=by
 obtain ⟨hb,db,vb,vr,vn,vj,h⟩:=h
 have hkl:key.data.toList.length≤maxLen:=by rw [←size_data]; unfold maxLen; omega
 obtain ⟨p,hth,hrun⟩:=h.has.at hl
 have hr:=hrun false hkl
 have hr':(Instr.lookup 104 (.map (some hb)) (str key.data.toList) false).run Tryz.prog w=.ok (ptr p) w:=hr
 have hP:=h.kept hl (some kp) (ptr kb) (.inr ⟨kp,kb,rfl,rfl,hkp,htr⟩) hr' hkl
 have c0:w.cell? ⟨lb,0,none⟩=some (.map (some hb)):=by simp [World.cell?,h.blk]
 obtain ⟨v0,r0,k0,hb0,_⟩:=hth
 have c3:w.cell? ⟨p,3,none⟩=some k0:=by simp [World.cell?,hb0]
 have z3:w.frozen? ⟨p,3,none⟩=false:=by simp [World.frozen?,hb0]
 have hA:LAt w lb s L:=⟨_,_,_,_,_,_,h⟩
 have ht:=tn_set hb0 3 (ptr kb)
 have hkp1:KeepAt (w.setCell ⟨p,3,none⟩ (ptr kb)) L kp kb:=hkp.st (fun k _ cs t fz hc hkt=>ht.cells hc (fun e=>by rcases hkt with hkt | hkt <;> (rw [hkt] at e; revert e; decide))) (ht.stay (.inr (.inr (.inr (.inr (.inl rfl))))))
 have htx:=keepText_any _ L kp kb key hkp1 (hP.g hA g) hk
 have hklen:(Lard.keepText key.data.toList kp).length≤140737488355328:=by
  have:(jbytes (s.keep key.data.toList kp).jr)=jbytes s.jr++Lard.line (Lard.keepText key.data.toList kp):=by
   show jbytes (s.jr++[Lard.keepText key.data.toList kp])=_
   rw [jbytes_snoc]
  rw [this,List.length_append,line_len] at hj
  omega
 obtain ⟨L1,h1,_,hthen⟩:=hP.then
 have hw:∀ w2,Below (w.setCell ⟨p,3,none⟩ (ptr kb)).heap.size (w.setCell ⟨p,3,none⟩ (ptr kb)) w2→Calls Tryz.prog 59 #[ptr lb,str (Lard.keepText key.data.toList kp)] w2 (fun e w'=>e=.returned (.tuple #[])∧LPost w lb L (s.keep key.data.toList kp) w'):=by
  intro w2 hB
  have hP2:=LPost.below h1 hB
  have g2:=hP2.g h1 (hP.g hA g)
  have d2:=hP2.deb h1 (hP.g hA g) (hP.deb hA g hd)
  obtain ⟨L2,h2,_,hthen2⟩:=hP2.then
  have:=write_any w2 lb { s with has:=Lard.setKept s.has key.data.toList (some kp) } L2 ⟨(Lard.keepText key.data.toList kp).toArray⟩ h2 g2 d2 (by rw [size_mk]; exact hklen) (by rw [data_mk]; exact hj)
  rw [data_mk] at this
  refine this.mono ?_
  rintro e w' ⟨rfl,hx⟩
  exact ⟨rfl,hthen _ _ (hthen2 _ _ hx)⟩
 have HW:=hide hw
 have HT:=hide htx
 rw [str_bytes] at hr
 simp only [Bool.false_eq_true,if_false] at hr
 clear hw htx hrun hr' h1 hthen h hA hb0 hP hkp hkp1 ht
 unfold ptr at *
 go_enter Tryz.func143,Tryz.ntmps143
 go_wp2_with fail
 refine HT.out.mono ?_
 rintro e w2 ⟨rfl,hB⟩
 have HW2:=hide (HW.out w2 hB)
 clear HT HW hB
 go_wp2_with fail
 refine HW2.out.mono ?_
 rintro e w3 ⟨rfl,hfin⟩
 have HFI:=hide hfin
 clear HW2 hfin
 go_wp2_with fail
 go_end0
 exact ⟨rfl,HFI.out⟩
def KeptPtr (w:World) (L:Nat→Prop) (o:Option Lard.Keep) (v:Value):Prop:=(o=none∧v=.pointer none)∨∃ kp kb,o=some kp∧v=ptr kb∧KeepAt w L kp kb
theorem keptOf_any (w:World) (lb:Nat) (s:Lard.LS) (L:Nat→Prop) (key:ByteArray) (h:LAt w lb s L) (hk:key.size≤200) :
  Calls Tryz.prog 56 #[ptr lb,.string key] w fun e w'=>(∃ v,e=.returned v∧KeptPtr w L (Lard.keptOf s.has key.data.toList) v)∧w'=w:=by
 obtain ⟨hb,db,vb,vr,vn,vj,h⟩:=h
 have hkl:key.data.toList.length≤maxLen:=by rw [←size_data]; unfold maxLen; omega
 have c0:w.cell? ⟨lb,0,none⟩=some (.map (some hb)):=by simp [World.cell?,h.blk]
 cases hl:Lard.look s.has key.data.toList with
 |none =>
  have hr:=h.has.absent hl hkl
  rw [str_bytes] at hr
  have hko:Lard.keptOf s.has key.data.toList=none:=by unfold Lard.keptOf; rw [hl]; rfl
  rw [hko]
  clear h hl hko
  unfold ptr
  go_enter Tryz.func56,Tryz.ntmps56
  go_wp2_with fail
  go_ret
  exact ⟨⟨_,rfl,.inl ⟨rfl,rfl⟩⟩,rfl⟩
 |some th =>
  obtain ⟨p,hth,hrun⟩:=h.has.at hl
  have hr:=hrun true hkl
  rw [str_bytes] at hr
  simp only [if_true] at hr
  have hko:Lard.keptOf s.has key.data.toList=th.kept:=by unfold Lard.keptOf; rw [hl]; rfl
  rw [hko]
  obtain ⟨v0,r0,k0,hb0,_,_,_,h8⟩:=hth
  have c3:w.cell? ⟨p,3,none⟩=some k0:=by simp [World.cell?,hb0]
  have hform:∃ q,k0=.pointer q:=by
   rcases h8 with ⟨_,rfl⟩ | ⟨kp,kb,_,rfl,_⟩
   ·exact ⟨_,rfl⟩
   ·exact ⟨_,rfl⟩
  have H8:=hide (show KeptPtr w L th.kept k0 from h8)
  obtain ⟨q0,rfl⟩:=hform
  clear h hl hko hb0 h8 hrun
  unfold ptr at *
  go_enter Tryz.func56,Tryz.ntmps56
  go_wp2_with fail
  go_ret
  exact ⟨⟨_,rfl,H8.out⟩,rfl⟩
end
section
open Go.RowKit Go.Shelf
structure Tm (w w':World) (b:Nat):Prop where
 g:w.grownBy w' (some b)
 was:∃ es c,w.heap[b]? = some (.map es c)
theorem Tm.cells {w w':World} {b:Nat} (h:Tm w w' b) {k:Nat} {cs:Array Value} {t:TypeId} {fz:Nat×Nat} (hk:w.heap[k]? = some (.cells cs t fz)):w'.heap[k]? = some (.cells cs t fz):=by
 obtain ⟨es,c,hb⟩:=h.was
 refine (h.g.block k (lt_of_some hk) (fun e=>?_)).trans hk
 cases e
 rw [hk] at hb
 cases hb
theorem Tm.stay {w w':World} {b:Nat} (h:Tm w w' b):Stay w w':=Keeps.stay (fun k cs t fz hk _=>h.cells hk)
theorem Tm.map {w w':World} {b k:Nat} {l:List (List UInt8×Value)} (h:Tm w w' b) (hm:MapAt w k l) (hne:k≠b):w'.heap[k]? = w.heap[k]? :=
 h.g.block k hm.lt (fun e=>hne (by cases e; rfl))
theorem row_tm {w w':World} {b:Nat} {n size:Nat} {e:TypeId} {v:Value} {xs:List Value} (h:w.ownsRow 8 e size v n xs) (ht:Tm w w' b):w'.ownsRow 8 e size v n xs :=
 row_same h (fun g _ cs fz hc=>ht.cells hc)
theorem typed_tm {w w':World} {b:Nat} {L:Nat→Prop} (h:∀ k,L k→8≤k∧((∃ es c,w.heap[k]? = some (.map es c))∨∃ cs t fz,w.heap[k]? = some (.cells cs t fz)∧LT t)) (ht:Tm w w' b) (hb:∃ es c,w'.heap[b]? = some (.map es c)) :
  ∀ k,L k→8≤k∧((∃ es c,w'.heap[k]? = some (.map es c))∨∃ cs t fz,w'.heap[k]? = some (.cells cs t fz)∧LT t):=by
 intro k hk
 obtain ⟨h8,h1⟩:=h k hk
 refine ⟨h8,?_⟩
 by_cases e:k=b
 ·subst e; exact .inl hb
 ·rcases h1 with ⟨es,c,h1⟩ | ⟨cs,t,fz,h1,h2⟩
  ·exact .inl ⟨es,c,(ht.g.block k (Array.getElem?_eq_some_iff.1 h1).1 (fun e'=>e (by cases e'; rfl))).trans h1⟩
  ·exact .inr ⟨cs,t,fz,ht.cells h1,h2⟩
theorem nodup_map_inj {α β:Type} (f:α→β):∀ {l:List α},l.Nodup→(∀ x∈l,∀ y∈l,f x=f y→x=y)→(l.map f).Nodup
 |[],_,_=>by simp
 |a :: l,hn,hf=>by
  simp only [List.map_cons,List.nodup_cons] at hn ⊢
  refine ⟨fun ha=>?_,nodup_map_inj f hn.2 (fun x hx y hy=>hf x (List.mem_cons_of_mem _ hx) y (List.mem_cons_of_mem _ hy))⟩
  obtain ⟨b,hb,e⟩:=List.mem_map.1 ha
  exact hn.1 (hf b (List.mem_cons_of_mem _ hb) a List.mem_cons_self e ▸ hb)
theorem put_map {α β:Type} (F:α→β) (l:List (List UInt8×α)) (k:List UInt8) (a:α):(Lard.put l k a).map (fun x=>(x.1,F x.2))=Lard.put (l.map fun x=>(x.1,F x.2)) k (F a):=by
 have hl:Lard.look (l.map fun x=>(x.1,F x.2)) k=(Lard.look l k).map F:=Lard.look_map (fun x:List UInt8×α=>(x.1,F x.2)) (fun _ x=>F x) (fun _=>rfl) l k
 unfold Lard.put
 rw [hl]
 cases hx:Lard.look l k with
 |none=>simp
 |some b =>
  simp only [Option.map_some,Option.isSome_some,if_true,List.map_map]
  refine List.map_congr_left (fun x _=>?_)
  simp only [Function.comp_def]
  split <;> rfl
theorem del_map {α β:Type} (F:α→β) (l:List (List UInt8×α)) (k:List UInt8):(Lard.del l k).map (fun x=>(x.1,F x.2))=Lard.del (l.map fun x=>(x.1,F x.2)) k:=by
 unfold Lard.del
 rw [List.filter_map]
 rfl
theorem nodup_put {α β:Type} (f:List UInt8×α→β) {l:List (List UInt8×α)} {k:List UInt8} {a:α} (hk:(l.map (·.1)).Nodup) (hf:(l.map f).Nodup) (hn:∀ x∈l,f x≠f (k,a)):((Lard.put l k a).map f).Nodup:=by
 have hl:l.Nodup:=nodup_of_map _ hk
 unfold Lard.put
 split
 ·rw [List.map_map]
  refine nodup_map_inj _ hl (fun x hx y hy e=>?_)
  simp only [Function.comp_def] at e
  by_cases h1:x.1=k
  ·by_cases h2:y.1=k
   ·exact nodup_inj (fun z:List UInt8×α=>z.1) hk hx hy (h1.trans h2.symm)
   ·rw [if_pos (by simp [h1]),if_neg (by simp [h2])] at e
    exact (hn y hy e.symm).elim
  ·by_cases h2:y.1=k
   ·rw [if_neg (by simp [h1]),if_pos (by simp [h2])] at e
    exact (hn x hx e).elim
   ·rw [if_neg (by simp [h1]),if_neg (by simp [h2])] at e
    exact nodup_inj f hf hx hy e
 ·rw [List.map_append,List.nodup_append]
  refine ⟨hf,by simp,?_⟩
  intro x hx y hy e
  obtain ⟨z,hz,rfl⟩:=List.mem_map.1 hx
  simp at hy
  exact hn z hz (e.trans hy)
theorem LP.tm {w w1:World} {lb:Nat} {s s':Lard.LS} {L:Nat→Prop} {hb db:Nat} {vb vr vn vj:Value} (h:LP w lb s L hb db vb vr vn vj) {b:Nat} (ht:Tm w w1 b) (hb1:∃ es c,w1.heap[b]? = some (.map es c)) (hL:L b) (hhas:HasAt w1 L hb s'.has) (hdone:DoneAt w1 L db s'.done)
  (e1:s'.begun=s.begun) (e2:s'.ring=s.ring) (e3:s'.ran=s.ran) (e4:s'.jr=s.jr):LP w1 lb s' L hb db vb vr vn vj :=
 {
  blk:=ht.cells h.blk
  here:=h.here
  ne:=h.ne
  has:=hhas
  done:=hdone
  begun:=by rw [e1]; exact row_tm h.begun ht
  ring:=by rw [e2]; exact row_tm h.ring ht
  ran:=by rw [e3]; exact row_tm h.ran ht
  jr:=by rw [e4]; exact row_tm h.jr ht
  mine:=h.mine
  apart:=h.apart
  rnil:=by rw [e2]; exact h.rnil
  typed:=typed_tm h.typed ht hb1 }
theorem LP.tm0 {w w1:World} {lb:Nat} {s s':Lard.LS} {L:Nat→Prop} {hb db:Nat} {vb vr vn vj:Value} (h:LP w lb s L hb db vb vr vn vj) {b:Nat} (ht:Tm w w1 b) (hL:L b) (h':LP w1 lb s' L hb db vb vr vn vj):LPost0 w lb L s' w1 :=
 ⟨L,⟨hb,db,vb,vr,vn,vj,h'⟩,fun k hk=>.inl hk,fun k hk=>hk,Frm.grown ht.g hL⟩
theorem LP.tm1 {w w1:World} {lb:Nat} {s s':Lard.LS} {L:Nat→Prop} {hb db:Nat} {vb vr vn vj:Value} (h:LP w lb s L hb db vb vr vn vj) {b:Nat} (ht:Tm w w1 b) (hL:L b) (hne:hb≠b) (h':LP w1 lb s' L hb db vb vr vn vj):LPost w lb L s' w1:=by
 refine ⟨L,⟨hb,db,vb,vr,vn,vj,h'⟩,fun k hk=>.inl hk,fun k hk=>hk,h.frw h' (Frm.grown ht.g hL) (fun k hk cs t fz hc hkt=>ht.cells hc) ?_⟩
 obtain ⟨hp,q1,q2,_⟩:=h.has
 exact ht.map q2 hne
theorem HasAt.tm {w w':World} {L:Nat→Prop} {hb b:Nat} {has:List (List UInt8×Lard.Thing)} (h:HasAt w L hb has) (ht:Tm w w' b) (hne:hb≠b):HasAt w' L hb has:=by
 have hm:w'.heap[hb]? = w.heap[hb]? := by obtain ⟨_,_,hm,_⟩:=h; exact ht.map hm hne
 exact h.st hm (fun k _ cs fz hc=>ht.cells hc) (fun k _ cs t fz hc hk=>ht.cells hc) ht.stay
theorem DoneAt.tm {w w':World} {L:Nat→Prop} {db b:Nat} {done:List (List UInt8×Lard.Wo)} (h:DoneAt w L db done) (ht:Tm w w' b) (hne:db≠b):DoneAt w' L db done:=by
 have hm:w'.heap[db]? = w.heap[db]? := by obtain ⟨_,_,hm,_⟩:=h; exact ht.map hm hne
 exact h.st hm ht.stay
theorem HasAt.here {w:World} {L:Nat→Prop} {hb:Nat} {has:List (List UInt8×Lard.Thing)} (h:HasAt w L hb has):L hb∧∃ es c,w.heap[hb]? = some (.map es c):=by
 obtain ⟨_,_,hm,_,_,_,hl⟩:=h
 exact ⟨hl,hm.isMap⟩
theorem DoneAt.here {w:World} {L:Nat→Prop} {db:Nat} {done:List (List UInt8×Lard.Wo)} (h:DoneAt w L db done):L db∧∃ es c,w.heap[db]? = some (.map es c):=by
 obtain ⟨_,_,hm,_,hl⟩:=h
 exact ⟨hl,hm.isMap⟩
theorem LP.giveTo {w:World} {lb:Nat} {s:Lard.LS} {L:Nat→Prop} {hb db:Nat} {vb vr vn vj:Value} (h:LP w lb s L hb db vb vr vn vj) {key:List UInt8} {th:Lard.Thing} {p:Nat} (hth:ThingAt w L th p) (hnew:∀ x q,ThingAt w L x q→(∃ k,Lard.look s.has k=some x∧(Instr.lookup 104 (.map (some hb)) (str k) false).run Tryz.prog w=.ok (ptr q) w)→q≠p) (hk:key.length≤8) (hlen:s.has.length≤100) :
  ∃ w1,(Instr.mapUpdate 104 (.map (some hb)) (str key) (ptr p)).run Tryz.prog w=.ok () w1∧LPost0 w lb L { s with has:=Lard.put s.has key th } w1∧Keeps w w1∧(∀ (k:Nat) (cs:Array Value) (t:TypeId) (fz:Nat×Nat),w.heap[k]? = some (.cells cs t fz)→w1.heap[k]? = some (.cells cs t fz)):=by
 obtain ⟨hp,h1,h2,h3,h4,h5,h6⟩:=h.has
 have hkn:(hp.map (·.1)).Nodup:=by have:=h2.nodup; rw [List.map_map] at this; exact this
 have hlp:hp.length≤100:=by have:=congrArg List.length h1; rw [List.length_map] at this; omega
 obtain ⟨w1,hr,hm,hg,hsz⟩:=h2.put Tryz.underlying104 (k:=key) (by unfold maxLen; omega) (by rw [List.length_map]; unfold maxLen; omega) (ptr p)
 have ht:Tm w w1 hb:=⟨hg,h2.isMap⟩
 have hfresh:∀ x∈hp,x.2.2≠p:=fun x hx=>by
  refine hnew x.2.1 x.2.2 (h4 x hx) ⟨x.1,?_,?_⟩
  ·rw [h1,lk_thing,mem_look hkn (a:=x.2) (by exact hx)]; rfl
  ·have:=h2.look1 Tryz.underlying104 (k:=x.1) (by have:=h5 x hx; unfold maxLen; omega) (z:=.pointer none) (by kernel_rfl)
   rw [this,lk_ptr,mem_look hkn (a:=x.2) (by exact hx)]
   rfl
 refine ⟨w1,hr,h.tm0 ht h6 (h.tm ht hm.isMap h6 ⟨Lard.put hp key (th,p),?_,?_,?_,?_,?_,h6⟩ (h.done.tm ht (fun e=>h.ne e.symm)) rfl rfl rfl rfl),fun k cs t fz hc _=>ht.cells hc,fun k cs t fz hc=>ht.cells hc⟩
 ·show Lard.put s.has key th=_
  rw [h1]
  exact (put_map (fun x:Lard.Thing×Nat=>x.1) hp key (th,p)).symm
 ·have:=put_map (fun x:Lard.Thing×Nat=>ptr x.2) hp key (th,p)
  rw [this]
  exact hm
 ·exact nodup_put (fun x:List UInt8×(Lard.Thing×Nat)=>x.2.2) hkn h3 hfresh
 ·intro x hx
  have hst:∀ th q,ThingAt w L th q→ThingAt w1 L th q:=fun th q hq=>by
   obtain ⟨_,cs,hc⟩:=hq.block
   exact hq.st ((ht.cells hc).trans hc.symm) (fun k _ cs t fz hc _=>ht.cells hc) ht.stay
  rcases put_keys hx with hx | rfl
  ·exact hst _ _ (h4 x hx)
  ·exact hst _ _ hth
 ·intro x hx
  rcases put_keys hx with hx | rfl
  ·exact h5 x hx
  ·exact hk
theorem LP.dropTo {w:World} {lb:Nat} {s:Lard.LS} {L:Nat→Prop} {hb db:Nat} {vb vr vn vj:Value} (h:LP w lb s L hb db vb vr vn vj) {key:List UInt8} (ty:TypeId) (hk:key.length≤maxLen) :
  ∃ w1,(Builtin.delete_ #[104,9] ty #[.map (some hb),str key]).run Tryz.prog w=.ok (.tuple #[]) w1∧LPost0 w lb L { s with has:=Lard.del s.has key } w1:=by
 obtain ⟨hp,h1,h2,h3,h4,h5,h6⟩:=h.has
 obtain ⟨w1,hr,hm,hg,hsz⟩:=h2.del Tryz.underlying104 (k:=key) (ty:=ty) hk
 have ht:Tm w w1 hb:=⟨hg,h2.isMap⟩
 have hsub:∀ x,x∈Lard.del hp key→x∈hp:=fun x hx=>(List.mem_filter.1 hx).1
 refine ⟨w1,hr,h.tm0 ht h6 (h.tm ht hm.isMap h6 ⟨Lard.del hp key,?_,?_,?_,?_,fun x hx=>h5 x (hsub x hx),h6⟩ (h.done.tm ht (fun e=>h.ne e.symm)) rfl rfl rfl rfl)⟩
 ·show Lard.del s.has key=_
  rw [h1]
  exact (del_map (fun x:Lard.Thing×Nat=>x.1) hp key).symm
 ·have:=del_map (fun x:Lard.Thing×Nat=>ptr x.2) hp key
  rw [this]
  exact hm
 ·exact ((List.filter_sublist).map _).nodup h3
 ·intro x hx
  obtain ⟨_,cs,hc⟩:=(h4 x (hsub x hx)).block
  exact (h4 x (hsub x hx)).st ((ht.cells hc).trans hc.symm) (fun k _ cs t fz hc _=>ht.cells hc) ht.stay
theorem LP.doneTo {w:World} {lb:Nat} {s:Lard.LS} {L:Nat→Prop} {hb db:Nat} {vb vr vn vj:Value} (h:LP w lb s L hb db vb vr vn vj) {key:List UInt8} {r:Lard.Wo} {v:Value} (hv:IsW w r v) (hk:key.length≤maxLen) (hlen:s.done.length < maxLen) :
  ∃ w1,(Instr.mapUpdate 105 (.map (some db)) (str key) v).run Tryz.prog w=.ok () w1∧LPost w lb L { s with done:=Lard.put s.done key r } w1∧(∀ (k:Nat) (cs:Array Value) (t:TypeId) (fz:Nat×Nat),w.heap[k]? = some (.cells cs t fz)→w1.heap[k]? = some (.cells cs t fz)):=by
 obtain ⟨dp,h1,h2,h3,h4⟩:=h.done
 have hlp:dp.length=s.done.length:=by have:=congrArg List.length h1; rw [List.length_map] at this; omega
 obtain ⟨w1,hr,hm,hg,hsz⟩:=h2.put Tryz.underlying105 (k:=key) hk (by rw [List.length_map]; omega) v
 have ht:Tm w w1 db:=⟨hg,h2.isMap⟩
 refine ⟨w1,hr,h.tm1 ht h4 h.ne (h.tm ht hm.isMap h4 (h.has.tm ht h.ne) ⟨Lard.put dp key (r,v),?_,?_,?_,h4⟩ rfl rfl rfl rfl),fun k cs t fz hc=>ht.cells hc⟩
 ·show Lard.put s.done key r=_
  rw [h1]
  exact (put_map (fun x:Lard.Wo×Value=>x.1) dp key (r,v)).symm
 ·have:=put_map (fun x:Lard.Wo×Value=>x.2) dp key (r,v)
  rw [this]
  exact hm
 ·intro x hx
  rcases put_keys hx with hx | rfl
  ·exact (h3 x hx).st ht.stay
  ·exact hv.st ht.stay
theorem LP.clearTo {w:World} {lb:Nat} {s:Lard.LS} {L:Nat→Prop} {hb db:Nat} {vb vr vn vj:Value} (h:LP w lb s L hb db vb vr vn vj) (ty:TypeId) :
  ∃ w1,(Builtin.clear_ #[105] ty #[.map (some db)]).run Tryz.prog w=.ok (.tuple #[]) w1∧LPost w lb L { s with done:=[] } w1∧(∀ (k:Nat) (cs:Array Value) (t:TypeId) (fz:Nat×Nat),w.heap[k]? = some (.cells cs t fz)→w1.heap[k]? = some (.cells cs t fz)):=by
 obtain ⟨dp,h1,h2,h3,h4⟩:=h.done
 obtain ⟨w1,hr,hm,hg,hsz⟩:=h2.clear Tryz.underlying105 (ty:=ty)
 have ht:Tm w w1 db:=⟨hg,h2.isMap⟩
 exact ⟨w1,hr,h.tm1 ht h4 h.ne (h.tm ht hm.isMap h4 (h.has.tm ht h.ne) ⟨[],rfl,hm,fun x hx=>by simp at hx,h4⟩ rfl rfl rfl rfl),fun k cs t fz hc=>ht.cells hc⟩
theorem DoneAt.look {w:World} {L:Nat→Prop} {db:Nat} {done:List (List UInt8×Lard.Wo)} (h:DoneAt w L db done) {key:List UInt8} (hk:key.length≤maxLen) :
  (Lard.look done key=none∧(Instr.lookup 105 (.map (some db)) (str key) true).run Tryz.prog w=.ok (.tuple #[.agg #[.int .i64 0,.nilIface],.bool false]) w) ∨
  ∃ r v,Lard.look done key=some r∧IsW w r v∧(Instr.lookup 105 (.map (some db)) (str key) true).run Tryz.prog w=.ok (.tuple #[v,.bool true]) w:=by
 obtain ⟨dp,h1,h2,h3,h4⟩:=h
 have hl1:Lard.look done key=(Lard.look dp key).map (fun x=>x.1):=by
  rw [h1]; exact Lard.look_map (fun x:List UInt8×(Lard.Wo×Value)=>(x.1,x.2.1)) (fun _ x=>x.1) (fun _=>rfl) dp key
 have hl2:Lard.look (dp.map fun x=>(x.1,x.2.2)) key=(Lard.look dp key).map (fun x=>x.2):=Lard.look_map (fun x:List UInt8×(Lard.Wo×Value)=>(x.1,x.2.2)) (fun _ x=>x.2) (fun _=>rfl) dp key
 have hr:=h2.look Tryz.underlying105 (k:=key) hk (z:=.agg #[.int .i64 0,.nilIface]) (by kernel_rfl)
 rw [hl2] at hr
 cases hx:Lard.look dp key with
 |none =>
  rw [hx] at hl1 hr
  exact .inl ⟨hl1,hr⟩
 |some x =>
  rw [hx] at hl1 hr
  exact .inr ⟨x.1,x.2,hl1,h3 _ (Lard.look_mem hx),hr⟩
end
section
set_option maxRecDepth 100000
set_option maxHeartbeats 1000000
open Go.RowKit Go.Shelf
theorem with1_any (w:World) (k key:ByteArray) (c:Int) (y:Value) (hy:y=.nilIface∨∃ t a,y=.iface t a) (kb:Nat) (hkb:w.cell? ⟨kb,0,none⟩=some (.string key)) :
  Calls Tryz.prog 205 #[.agg #[.string k,.int .i64 c,y],.pointer (some ⟨kb,0,none⟩)] w fun e w'=>e=.returned (.bool (k.toList == key.toList))∧Below w.heap.size w w':=by
 have hlt:kb < w.heap.size:=by
  rcases Nat.lt_or_ge kb w.heap.size with h | h
  ·exact h
  ·simp [World.cell?,Array.getElem?_eq_none h] at hkb
 have hc:∀ o,(w.alloc o).cell? ⟨kb,0,none⟩=some (.string key):=fun o=>(World.cell?_of_block (Below.heap_alloc w o kb hlt)).trans hkb
 rcases hy with rfl | ⟨t,a,rfl⟩
 all_goals
  go_enter Tryz.func205,Tryz.ntmps205
  go_wp2_with fail
  go_ret
  exact ⟨rfl,(Below.refl _ _).alloc (Nat.le_refl _) _⟩
theorem toList_eq (a b:ByteArray):(a.toList == b.toList)=(a.data.toList == b.data.toList):=by rw [Lib.toList_data,Lib.toList_data]
theorem look_drop_hit {α:Type}:∀ {l:List (List UInt8×α)} {k:Nat} {n:List UInt8×α},l[k]? = some n→(Lard.look l n.1).isSome=true
 |[],_,_,h=>by simp at h
 |p :: l,0,n,h=>by
  simp at h
  subst h
  rw [Lard.look_cons,if_pos rfl]
  rfl
 |p :: l,k + 1,n,h=>by
  simp at h
  rw [Lard.look_cons]
  split
  ·rfl
  ·exact look_drop_hit h
theorem indexFunc_any (w:World) (ns:List (List UInt8×Lard.Wo)) (sl:Value) (key:ByteArray) (kb:Nat) (h:NeedsAt w ns sl) (hn:ns.length≤1000) (hkb:w.cell? ⟨kb,0,none⟩=some (.string key)) :
  Calls Tryz.prog 252 #[sl,.func (.func 205) #[] #[.pointer (some ⟨kb,0,none⟩)]] w fun e w'=>(∃ j:Int,e=.returned (.int .i64 j)∧decide (0≤j)=(Lard.look ns key.data.toList).isSome)∧Below w.heap.size w w':=by
 obtain ⟨o,cp,rfl,hcell⟩:=h.cell
 have hlt:kb < w.heap.size:=by
  rcases Nat.lt_or_ge kb w.heap.size with h | h
  ·exact h
  ·simp [World.cell?,Array.getElem?_eq_none h] at hkb
 have HCELL:=hide hcell
 clear hcell h
 go_enter Tryz.func252,Tryz.ntmps252
 go_wp2_with fail
 go_loopw [8] (fun i wr=>∃ k:Nat,k≤ns.length∧i=.int .i64 k∧(∀ j,j < k→∀ n,ns[j]? = some n→n.1≠key.data.toList)∧Below w.heap.size w wr) (fun i _=>ns.length - (intOf i).toNat)
 case atStart=>exact ⟨0,Nat.zero_le _,rfl,fun j hj=>by omega,Below.refl _ _⟩
 case round =>
  obtain ⟨k,hk,rfl,hno,hB⟩:=hrel
  by_cases hlt':k < ns.length
  ·obtain ⟨nd,hnd⟩:∃ nd,ns[k]? = some nd:=⟨_,List.getElem?_eq_getElem hlt'⟩
   obtain ⟨g0,x0,y0,rfl,hg0,hn200,e0,e1,e2,hWn⟩:=HCELL.out k nd hnd
   have f0:wr.cell? ⟨g0,k * 3,none⟩=some (str nd.1):=(hB.cell (p:=⟨g0,k * 3,none⟩) hg0).trans e0
   have f1:wr.cell? ⟨g0,k * 3 + 1,none⟩=some x0:=(hB.cell (p:=⟨g0,k * 3 + 1,none⟩) hg0).trans e1
   have f2:wr.cell? ⟨g0,k * 3 + 2,none⟩=some y0:=(hB.cell (p:=⟨g0,k * 3 + 2,none⟩) hg0).trans e2
   have fk:wr.cell? ⟨kb,0,none⟩=some (.string key):=(hB.cell (p:=⟨kb,0,none⟩) hlt).trans hkb
   obtain ⟨cn,yn,hen,hyn⟩:=hWn.form
   cases hen
   unfold str at f0
   have HW1:=hide (with1_any wr ⟨nd.1.toArray⟩ key cn y0 hyn kb fk)
   have htl:=toList_eq ⟨nd.1.toArray⟩ key
   rw [data_mk] at htl
   have HND:=hide hnd
   have HNO:=hide hno
   clear e0 e1 e2 hWn hnd hno fk hkb
   rcases hyn with rfl | ⟨tn,an,rfl⟩
   all_goals
    by_cases hhit:nd.1=key.data.toList
    ·have hb:((⟨nd.1.toArray⟩:ByteArray).toList == key.toList)=true:=by rw [htl]; simp [hhit]
     rw [hb] at HW1
     have HH:=hide hhit
     clear htl hb hhit
     go_wp2_with fail
     refine HW1.out.mono ?_
     rintro e w3 ⟨rfl,hB3⟩
     clear HW1
     go_wp2_with fail
     go_ret
     refine ⟨⟨(k:Int),rfl,?_⟩,hB.trans (hB3.mono hB.size)⟩
     rw [←HH.out,look_drop_hit HND.out]
     simp
    ·have hb:((⟨nd.1.toArray⟩:ByteArray).toList == key.toList)=false:=by rw [htl]; simpa using hhit
     rw [hb] at HW1
     have HH:=hide hhit
     clear htl hb hhit
     go_wp2_with fail
     refine HW1.out.mono ?_
     rintro e w3 ⟨rfl,hB3⟩
     clear HW1
     go_wp2_with fail
     refine ⟨⟨_,_,_,_,_,_,_,_,_,_,_,_,_,?_,rfl⟩,?_⟩
     ·refine ⟨k + 1,by omega,by go_num,fun j hj n hjn=>?_,hB.trans (hB3.mono hB.size)⟩
      rcases (by omega:j < k∨j=k) with hj | rfl
      ·exact HNO.out j hj n hjn
      ·rw [HND.out] at hjn; cases hjn; exact HH.out
     ·simp [intOf]; omega
  ·have hnone:Lard.look ns key.data.toList=none:=Lard.look_none.2 (fun p hp e=>by
    obtain ⟨j,hj⟩:=List.getElem?_of_mem hp
    have:=(List.getElem?_eq_some_iff.1 hj).1
    exact hno j (by omega) p hj e)
   have HN:=hide hnone
   clear hno hnone HCELL
   go_wp2_with fail
   go_ret
   refine ⟨⟨-1,rfl,?_⟩,hB⟩
   rw [HN.out]
   rfl
theorem containsFunc_any (w:World) (ns:List (List UInt8×Lard.Wo)) (sl:Value) (key:ByteArray) (kb:Nat) (h:NeedsAt w ns sl) (hn:ns.length≤1000) (hkb:w.cell? ⟨kb,0,none⟩=some (.string key)) :
  Calls Tryz.prog 204 #[sl,.func (.func 205) #[] #[.pointer (some ⟨kb,0,none⟩)]] w fun e w'=>e=.returned (.bool (Lard.look ns key.data.toList).isSome)∧Below w.heap.size w w':=by
 obtain ⟨o,cp,rfl,_⟩:=h.cell
 have HC:=hide (indexFunc_any w ns _ key kb h hn hkb)
 clear h hkb
 generalize (Lard.look ns key.data.toList).isSome=b at HC
 go_enter Tryz.func204,Tryz.ntmps204
 go_wp2_with fail
 refine HC.out.mono ?_
 rintro e w1 ⟨⟨j,rfl,hj⟩,hB⟩
 clear HC
 subst hj
 go_wp2_with fail
 go_ret
 exact ⟨rfl,hB⟩
end
end Go.Proofs.YtpekpdimdelncaaGreatDoor
