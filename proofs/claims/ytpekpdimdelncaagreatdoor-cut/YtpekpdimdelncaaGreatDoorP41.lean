/- Out of: J10, J1, J4. -/
import Derived.Test.YtpekpdimdelncaaGreatDoorP40
import Derived.Test.YtpekpdimdelncaaGreatDoorShelf4
import Derived.Test.YtpekpdimdelncaaGreatDoorP21
import Derived.Test.YtpekpdimdelncaaGreatDoorShelf3
import Derived.BigQuiet
import Derived.Test.YtpekpdimdelncaaGreatDoorP30
import Derived.Test.YtpekpdimdelncaaGreatDoorP07
import Derived.Test.YtpekpdimdelncaaGreatDoorP39
import Derived.Deep.Heap
set_option linter.unusedVariables false
set_option linter.unusedSimpArgs false
namespace Go.Proofs.YtpekpdimdelncaaGreatDoor
section
set_option maxRecDepth 100000
set_option maxHeartbeats 4000000
open Go.RowKit Go.Shelf
open Go.WideElems (Fit rd rg)
theorem keys_own {w:World} {b:Nat} {l:List (List UInt8×Value)} (h:MapAt w b l):∃ D:DataW Unit,w.ownsMap Tryz.prog 9 (fun _=>some (.nil,[])) b l.length D∧(strKeys D).Perm (l.map (·.1))∧Maps.size D=l.length:=by
 obtain ⟨es,clock,h1,h2,h3,h4,h5⟩:=h
 have hlen:es.toList.length=l.length:=by simpa using congrArg List.length h4
 have hat:∀ x∈es.toList,∃ p∈l,rd (H:=Unit) Tryz.prog 9 (fun _=>some (.nil,[])) x=some (.string p.1,.nil):=by
  intro x hx
  obtain ⟨j,hj⟩:=List.getElem?_of_mem hx
  have:=entries h4 j
  rw [hj] at this
  cases hl:l[j]? with
  |none=>rw [hl] at this; simp at this
  |some p =>
   rw [hl] at this
   simp at this
   have hp:=List.mem_of_getElem? hl
   refine ⟨p,hp,?_⟩
   unfold rd
   rw [this.1,key_str p.1 (h5 p hp)]
   rfl
 have hmap:es.toList.map (rg (H:=Unit) Tryz.prog 9 (fun _=>some (.nil,[])))=l.map fun p=>(Lit.string p.1,DataW.nil):=by
  refine List.ext_getElem? (fun j=>?_)
  rw [List.getElem?_map,List.getElem?_map]
  have:=entries h4 j
  cases hx:es.toList[j]? with
  |none =>
   rw [hx] at this
   cases hl:l[j]? with
   |none=>rfl
   |some p=>rw [hl] at this; simp at this
  |some x =>
   rw [hx] at this
   cases hl:l[j]? with
   |none=>rw [hl] at this; simp at this
   |some p =>
    rw [hl] at this
    simp at this
    have hp:=List.mem_of_getElem? hl
    show some (rg (H:=Unit) Tryz.prog 9 (fun _=>some (.nil,[])) x)=some (Lit.string p.1,DataW.nil)
    unfold rg rd
    rw [this.1,key_str p.1 (h5 p hp)]
    rfl
 refine ⟨.map ((es.toList.map (rg (H:=Unit) Tryz.prog 9 (fun _=>some (.nil,[])))).foldr DataW.insert []),⟨es,clock,h1,⟨h2,h3,fun x hx=>?_⟩,by rw [←hlen]; simp,rfl⟩,?_,?_⟩
 ·obtain ⟨p,_,hp⟩:=hat x hx
  exact ⟨_,hp⟩
 ·show (List.map (fun p:Lit×DataW Unit=>strOf p.1) _).Perm _
  refine ((WideShapes.sorted_perm _).map _).trans ?_
  rw [hmap,List.map_map]
  exact List.Perm.of_eq (List.map_congr_left (fun p _=>rfl))
 ·show (List.foldr DataW.insert [] _).length=_
  rw [(WideShapes.sorted_perm _).length_eq,List.length_map,hlen]
theorem kept_len {w:World} {L:Nat→Prop} {kp:Lard.Keep} {q:Nat} {key:List UInt8} (h:KeepAt w L kp q) (hk:key.length≤200):(Lard.keepText key kp).length≤49000000:=by
 obtain ⟨c,i,sl,hb,_,hW,hN,_,h401⟩:=h
 have:=keepText_take hk hW hN kp.needs.length (Nat.le_refl _)
 rw [List.take_length] at this
 have:(Lard.keepText key kp).length≤100206 + kp.needs.length * 100202:=this
 omega
theorem text_step (l:List (List UInt8×Lard.Thing)) {i:Nat} {p:List UInt8×Lard.Thing} (hp:l[i]? = some p):(l.take (i + 1)).map (fun p=>Lard.thingText p.1 p.2)=(l.take i).map (fun p=>Lard.thingText p.1 p.2)++[Lard.thingText p.1 p.2]:=by
 rw [List.take_add_one,hp,List.map_append]
 rfl
theorem keep_step (l:List (List UInt8×Lard.Thing)) {i:Nat} {p:List UInt8×Lard.Thing} (hp:l[i]? = some p):Lard.keepLines (l.take (i + 1))=Lard.keepLines (l.take i)++(match p.2.kept with | none=>[] | some kp=>[Lard.keepText p.1 kp]):=by
 rw [List.take_add_one,hp]
 unfold Lard.keepLines
 rw [List.flatMap_append]
 congr 1
 exact List.append_nil _
theorem pack_any {w:World} {lb:Nat} {s:Lard.LS} {L:Nat→Prop} {N:Nat} (h:La w lb s L N) :
  Calls Tryz.prog 32 #[ptr lb] w fun e w'=>e=.returned (.tuple #[])∧∃ l:List (List UInt8×Lard.Thing),l.Perm s.has∧LaPost w lb L { s with jr:=Lard.packLines l } 10000000000 w':=by
 obtain ⟨hb,db,vb,vr,vn,vj,h0⟩:=h.lat
 have c5:w.cell? ⟨lb,5,none⟩=some vj:=by simp [World.cell?,h0.blk]
 have z5:w.frozen? ⟨lb,5,none⟩=false:=by simp [World.frozen?,h0.blk]
 have hP1:LaPost w lb L { s with jr:=[] } 0 (w.setCell ⟨lb,5,none⟩ (.slice none 0 0)):=h.post (h0.jrNil h.g).weak (h.sound.fields rfl rfl) (Nat.le_refl _)
 obtain ⟨L1,a1,a2,hthen⟩:=hP1.then
 have d0:(w.setCell ⟨lb,5,none⟩ (.slice none 0 0)).cell? ⟨lb,0,none⟩=some (.map (some hb)):=by
  have:=blk_cell h0.blk 5 (.slice none 0 0)
  simp [World.cell?,this]
 generalize hw1:w.setCell ⟨lb,5,none⟩ (.slice none 0 0)=w1 at *
 obtain ⟨hb1,db1,vb1,vr1,vn1,vj1,h1⟩:=a1.lat
 have e1:hb1=hb:=by
  have:w1.cell? ⟨lb,0,none⟩=some (.map (some hb1)):=by simp [World.cell?,h1.blk]
  rw [d0] at this
  cases this
  rfl
 subst e1
 have hnd:=has_nodup h1.has
 have hk8:∀ x∈s.has,x.1.length≤8:=by
  obtain ⟨hp,q1,_,_,_,q5,_⟩:=h1.has
  intro x hx
  have hx:x∈({ s with jr:=[] }:Lard.LS).has:=hx
  rw [q1] at hx
  obtain ⟨y,hy,rfl⟩:=List.mem_map.1 hx
  exact q5 y hy
 obtain ⟨lm,hlm,hlk⟩:=has_keys h1.has
 obtain ⟨D,hD,hDp,hDs⟩:=keys_own hlm
 have hl40:lm.length≤40:=by
  have:=congrArg List.length hlk
  have h2:=a1.sound.len
  simp at this
  rw [this]
  exact h2
 have HKY:=hide (fun mb W=>(callsIn_wide (n:=5)).1 (Tryz.maps_Keys_58 mb W))
 have HSO:=hide ((callsIn_wide (n:=5)).1 (Tryz.slices_Sorted_keys_57_58 _ _ D _ w1 hD (by rw [hDs]; unfold maxLen; omega) (by rw [hDs]; omega)))
 have HH:=hide (And.intro a1 (And.intro hnd (And.intro hk8 (And.intro hDp (And.intro hlk hthen)))))
 have h8:∀ k,L1 k→k < w1.heap.size:=fun k hk=>(a1.lat.lt hk).2
 have H8:=hide h8
 clear h h0 hP1 a1 a2 hthen h1 hnd hk8 hlm hlk hD hDp hDs hl40 h8
 unfold ptr
 go_enter Tryz.func32,Tryz.ntmps32
 go_wp2_with fail
 refine (HKY.out _ _).mono ?_
 rintro e w' ⟨rfl,rfl⟩
 dsimp only
 go_wp2_with fail
 refine HSO.out.mono ?_
 rintro e w3 ⟨v,ss,rfl,hS,hrow,hnil,hB3⟩
 obtain ⟨a1,hnd,hk8,hDp,hlk,hthen⟩:=HH.out
 have hks:(ss.mergeSort fun x y=>decide (x≤y)).Perm (s.has.map (·.1)):=((List.mergeSort_perm _ _).trans hS).trans (hDp.trans (List.Perm.of_eq hlk))
 obtain ⟨l,hl,hlks⟩:=perm_lift (fun x:List UInt8×Lard.Thing=>x.1) hks rfl
 have hB13:Below w1.heap.size w1 w3:=((Below.refl _ w1).alloc (Nat.le_refl _) _).trans (hB3.mono (by simp))
 have hln:ss.length=l.length:=by rw [←List.length_map (f:=fun x:List UInt8×Lard.Thing=>x.1),hlks]; exact (List.mergeSort_perm _ _).length_eq.symm
 rw [←hlks,hln] at hrow
 have hl40:l.length≤40:=by rw [hl.length_eq]; exact a1.sound.len
 obtain ⟨o,cp,rfl,hcell⟩:∃ o cp,v=.slice o l.length cp∧∀ i p,l[i]? = some p→∃ g,o=some ⟨g,0,none⟩∧w1.heap.size≤g∧g < w3.heap.size∧w3.cell? ⟨g,i,none⟩=some (.string ⟨p.1.toArray⟩):=by
  have hat:∀ {v:Value} {g:Nat},w3.ownsRow (w1.alloc (.cells #[.map (some hb1)] 104)).heap.size 9 1 v l.length ((l.map fun x=>x.1).map encStr)→v.ownBlock=some g→∀ i p,l[i]? = some p→w3.cell? ⟨g,i,none⟩=some (.string ⟨p.1.toArray⟩):=fun hrow hv i p hp=>by
   have:=World.ownsRow.cells hrow hv i (.string ⟨p.1.toArray⟩) (by rw [List.getElem?_map,List.getElem?_map,hp]; rfl)
   rw [addr_add,Nat.zero_add] at this
   exact this
  rcases hrow.2 with ⟨e,h0⟩ | ⟨g,cap,cur,e,hbg,hgb,_⟩
  ·refine ⟨none,0,by rw [e,h0],fun i p hp=>?_⟩
   have:=(List.getElem?_eq_some_iff.1 hp).1
   omega
  ·refine ⟨some ⟨g,0,none⟩,cap,e,fun i p hp=>⟨g,rfl,?_,lt_of_some hgb,hat hrow (by rw [e]; rfl) i p hp⟩⟩
   simp at hbg
   omega
 have a3:=a1.below hB13
 have HLK:Hid (∀ (i:Nat) (p:List UInt8×Lard.Thing),l[i]? = some p→Lard.look s.has p.1=some p.2∧p.1.length≤8):=hide (fun i p hp=>by
  have hm:=hl.mem_iff.1 (List.mem_of_getElem? hp)
  exact ⟨mem_look hnd hm,hk8 _ hm⟩)
 have HL1:Hid (∀ k,L1 k→k < w1.heap.size):=H8
 have HC:=hide hcell
 have HFI:Hid (∀ q M w2,LaPost w3 lb L1 q M w2→LaPost w lb L q M w2):=hide (fun q M w2 h=>hthen q M w2 (LaPost.from hB13 h))
 have HPE:=hide hl
 have HA:Hid (LaPost w3 lb L1 { s with jr:=(l.take 0).map fun p:List UInt8×Lard.Thing=>Lard.thingText p.1 p.2 } (0 * 50000000) w3):=hide a3.self
 clear hcell a1 hnd hk8 hDp hlk hthen hks hlks hB13 hln hrow hS hnil hB3 HH HSO HKY H8 a3 hw1 d0 c5 z5 hl
 dsimp only
 go_wp2_with fail
 go_loopw [19] (fun iv wr=>∃ i:Nat,i≤l.length∧iv=.int .i64 i∧Hid (LaPost w3 lb L1 { s with jr:=(l.take i).map fun p:List UInt8×Lard.Thing=>Lard.thingText p.1 p.2 } (i * 50000000) wr)) (fun iv _=>l.length - (intOf iv).toNat)
 case atStart=>exact ⟨0,Nat.zero_le _,rfl,HA⟩
 case round =>
  obtain ⟨i,hi,rfl,HP⟩:=hrel
  clear HA
  by_cases hlt:i < l.length
  ·have hin:(i:Int) < (l.length:Int):=by omega
   obtain ⟨p,hp⟩:∃ p,l[i]? = some p:=⟨_,List.getElem?_eq_getElem hlt⟩
   obtain ⟨g,rfl,hg1,hg2,hgc⟩:=HC.out i p hp
   obtain ⟨hlook,hp8⟩:=HLK.out i p hp
   obtain ⟨L',hla,hsub,hsup,hf⟩:=HP.out
   have hng:¬ L1 g:=fun h=>by have:=HL1.out g h; omega
   have c1:wr.cell? ⟨g,i,none⟩=some (.string ⟨p.1.toArray⟩):=(World.cell?_of_block (hf.block g hg2 hng)).trans hgc
   obtain ⟨hb,db,vb,vr,vn,vj,h0⟩:=hla.lat
   have c0:wr.cell? ⟨lb,0,none⟩=some (.map (some hb)):=by simp [World.cell?,h0.blk]
   obtain ⟨q,hth,hrun⟩:=h0.has.at (key:=p.1) (th:=p.2) hlook
   have hr:(Instr.lookup 104 (.map (some hb)) (.string ⟨p.1.toArray⟩) false).run Tryz.prog wr=.ok (.pointer (some ⟨q,0,none⟩)) wr:=hrun false (by unfold maxLen; omega)
   have hks:(⟨p.1.toArray⟩:ByteArray).size≤200:=by rw [size_mk]; omega
   have HT:=hide (thingText_any wr L' p.2 q ⟨p.1.toArray⟩ hth hla.g hks)
   have htl:=thingText_len (key:=p.1) hth (by omega)
   have HP2:=hide (fun w5 (h:LaPost wr lb L' (Lard.LS.write { s with jr:=(l.take i).map fun p:List UInt8×Lard.Thing=>Lard.thingText p.1 p.2 } (Lard.thingText p.1 p.2)) (i * 50000000 + (Lard.thingText p.1 p.2).length + 10) w5)=>show LaPost w3 lb L1 { s with jr:=(l.take (i + 1)).map fun p:List UInt8×Lard.Thing=>Lard.thingText p.1 p.2 } ((i + 1) * 50000000) w5 from by
    rw [text_step l hp]
    obtain ⟨L2,g1,g2,g3,g4⟩:=h.le (M:=(i + 1) * 50000000) (by omega)
    refine ⟨L2,g1,fun k hk=>?_,fun k hk=>g3 k (hsup k hk),hf.trans g4 (fun k hk=>hsub k hk)⟩
    rcases g2 k hk with h | h
    ·exact hsub k h
    ·exact .inr (Nat.le_trans hf.size h))
   have HW:=hide (fun w4 (hB:Below wr.heap.size wr w4)=>(la_write (hla.below hB) ⟨(Lard.thingText p.1 p.2).toArray⟩ (by rw [size_mk]; omega) (by omega)).mono (R':=fun e w5=>e=.returned (.tuple #[])∧LaPost wr lb L' (Lard.LS.write { s with jr:=(l.take i).map fun p:List UInt8×Lard.Thing=>Lard.thingText p.1 p.2 } (Lard.thingText p.1 p.2)) (i * 50000000 + (Lard.thingText p.1 p.2).length + 10) w5) (by
    rintro e w5 ⟨rfl,h⟩
    rw [data_mk,size_mk] at h
    exact ⟨rfl,LaPost.from hB h⟩))
   clear hla hsub hsup hf h0 hth hrun hlook hng hgc HP htl
   unfold ptr at HT HW
   go_wp2_with fail
   refine HT.out.mono ?_
   rintro e w4 ⟨rfl,hB4⟩
   have HW2:=hide (HW.out w4 hB4)
   clear HW HT hB4 hr c0 c1
   unfold str
   dsimp only
   go_wp2_with fail
   refine HW2.out.mono ?_
   rintro e w5 ⟨rfl,h5⟩
   have HP3:=hide (HP2.out w5 h5)
   clear HW2 HP2 h5
   dsimp only
   go_wp2_with fail
   refine ⟨⟨i + 1,by omega,by go_num,HP3⟩,?_⟩
   simp [intOf]; omega
  ·have hin:¬ (i:Int) < (l.length:Int):=by omega
   obtain rfl:i=l.length:=by omega
   have HB:Hid (LaPost w3 lb L1 { s with jr:=(l.map fun p:List UInt8×Lard.Thing=>Lard.thingText p.1 p.2)++Lard.keepLines (l.take 0) } (2000000000 + 0 * 50000000) wr):=hide (by
    have:=HP.out
    rw [List.take_length] at this
    rw [show Lard.keepLines (l.take 0)=[] from rfl,List.append_nil]
    exact this.le (by omega))
   clear HP hlt hi
   go_wp2_with fail
   go_loopw [36] (fun iv wr=>∃ i:Nat,i≤l.length∧iv=.int .i64 i∧Hid (LaPost w3 lb L1 { s with jr:=(l.map fun p:List UInt8×Lard.Thing=>Lard.thingText p.1 p.2)++Lard.keepLines (l.take i) } (2000000000 + i * 50000000) wr)) (fun iv _=>l.length - (intOf iv).toNat)
   case atStart=>exact ⟨0,Nat.zero_le _,rfl,HB⟩
   case round =>
    obtain ⟨i,hi,rfl,HP⟩:=hrel
    clear HB
    by_cases hlt:i < l.length
    ·have hin:(i:Int) < (l.length:Int):=by omega
     obtain ⟨p,hp⟩:∃ p,l[i]? = some p:=⟨_,List.getElem?_eq_getElem hlt⟩
     obtain ⟨g,rfl,hg1,hg2,hgc⟩:=HC.out i p hp
     obtain ⟨hlook,hp8⟩:=HLK.out i p hp
     obtain ⟨L',hla,hsub,hsup,hf⟩:=HP.out
     have hng:¬ L1 g:=fun h=>by have:=HL1.out g h; omega
     have c1:wr.cell? ⟨g,i,none⟩=some (.string ⟨p.1.toArray⟩):=(World.cell?_of_block (hf.block g hg2 hng)).trans hgc
     obtain ⟨hb,db,vb,vr,vn,vj,h0⟩:=hla.lat
     have c0:wr.cell? ⟨lb,0,none⟩=some (.map (some hb)):=by simp [World.cell?,h0.blk]
     obtain ⟨q,hth,hrun⟩:=h0.has.at (key:=p.1) (th:=p.2) hlook
     have hr:(Instr.lookup 104 (.map (some hb)) (.string ⟨p.1.toArray⟩) false).run Tryz.prog wr=.ok (.pointer (some ⟨q,0,none⟩)) wr:=hrun false (by unfold maxLen; omega)
     have hks:(⟨p.1.toArray⟩:ByteArray).size≤200:=by rw [size_mk]; omega
     have hst:=keep_step l hp
     have HP2:=hide (fun (t:List UInt8) w5 (ht:t.length≤49000000) (hkt:p.2.kept.map (Lard.keepText p.1)=some t) (h:LaPost wr lb L' (Lard.LS.write { s with jr:=(l.map fun p:List UInt8×Lard.Thing=>Lard.thingText p.1 p.2)++Lard.keepLines (l.take i) } t) (2000000000 + i * 50000000 + t.length + 10) w5)=>show LaPost w3 lb L1 { s with jr:=(l.map fun p:List UInt8×Lard.Thing=>Lard.thingText p.1 p.2)++Lard.keepLines (l.take (i + 1)) } (2000000000 + (i + 1) * 50000000) w5 from by
      cases hk:p.2.kept with
      |none=>rw [hk] at hkt; cases hkt
      |some kp =>
       rw [hk] at hkt hst
       cases hkt
       rw [hst,←List.append_assoc]
       obtain ⟨L2,g1,g2,g3,g4⟩:=h.le (M:=2000000000 + (i + 1) * 50000000) (by omega)
       refine ⟨L2,g1,fun k hk=>?_,fun k hk=>g3 k (hsup k hk),hf.trans g4 (fun k hk=>hsub k hk)⟩
       rcases g2 k hk with h | h
       ·exact hsub k h
       ·exact .inr (Nat.le_trans hf.size h))
     have HW:=hide (fun (t:List UInt8) w4 (ht:t.length≤49000000) (hB:Below wr.heap.size wr w4)=>(la_write (hla.below hB) ⟨t.toArray⟩ (by rw [size_mk]; omega) (by omega)).mono (R':=fun e w5=>e=.returned (.tuple #[])∧LaPost wr lb L' (Lard.LS.write { s with jr:=(l.map fun p:List UInt8×Lard.Thing=>Lard.thingText p.1 p.2)++Lard.keepLines (l.take i) } t) (2000000000 + i * 50000000 + t.length + 10) w5) (by
      rintro e w5 ⟨rfl,h⟩
      rw [data_mk,size_mk] at h
      exact ⟨rfl,LaPost.from hB h⟩))
     obtain ⟨v0,r0,k0,hq0,_,_,_,hkk⟩:=hth
     have c3:wr.cell? ⟨q,3,none⟩=some k0:=by simp [World.cell?,hq0]
     rcases hkk with ⟨hk0,rfl⟩ | ⟨kp,kb,hk0,rfl,hka⟩
     ·have HP3:Hid (LaPost w3 lb L1 { s with jr:=(l.map fun p:List UInt8×Lard.Thing=>Lard.thingText p.1 p.2)++Lard.keepLines (l.take (i + 1)) } (2000000000 + (i + 1) * 50000000) wr):=hide (by
       rw [hst,hk0]
       show LaPost w3 lb L1 { s with jr:=_++(Lard.keepLines (l.take i)++[]) } _ wr
       rw [List.append_nil]
       exact HP.out.le (by omega))
      clear hla hsub hsup hf h0 hrun hlook hng hgc HP hst HP2 HW hq0
      go_wp2_with fail
      refine ⟨⟨i + 1,by omega,by go_num,HP3⟩,?_⟩
      simp [intOf]; omega
     ·have HT:=hide (keepText_any wr L' kp kb ⟨p.1.toArray⟩ hka hla.g hks)
      have htl:=kept_len (key:=p.1) hka (by omega)
      have hkt:p.2.kept.map (Lard.keepText p.1)=some (Lard.keepText p.1 kp):=by rw [hk0]; rfl
      clear hla hsub hsup hf h0 hrun hlook hng hgc HP hst hq0 hka
      unfold ptr at HT HW
      go_wp2_with fail
      refine HT.out.mono ?_
      rintro e w4 ⟨rfl,hB4⟩
      have HW2:=hide (HW.out _ w4 htl hB4)
      clear HW HT hB4 hr c0 c1 c3
      unfold str
      dsimp only
      go_wp2_with fail
      refine HW2.out.mono ?_
      rintro e w5 ⟨rfl,h5⟩
      have HP3:=hide (HP2.out _ w5 htl hkt h5)
      clear HW2 HP2 h5
      dsimp only
      go_wp2_with fail
      refine ⟨⟨i + 1,by omega,by go_num,HP3⟩,?_⟩
      simp [intOf]; omega
    ·have hin:¬ (i:Int) < (l.length:Int):=by omega
     obtain rfl:i=l.length:=by omega
     have HE:Hid (LaPost w lb L { s with jr:=Lard.packLines l } 10000000000 wr):=hide (by
      have:=HP.out
      rw [List.take_length] at this
      exact HFI.out _ _ _ (this.le (by omega)))
     clear HP hlt hi
     go_wp2_with fail
     go_end0
     exact ⟨rfl,l,HPE.out,HE.out⟩
end
section
set_option maxRecDepth 100000
set_option maxHeartbeats 1000000
open Go.RowKit Go.Shelf
def Mx (w:World):Prop:=∃ m:Int,w.cell? ⟨0,0,none⟩=some (.int .i64 m)
theorem Mx.below {B:Nat} {w w':World} (h:Mx w) (hB:Below B w w') (h0:0 < B):Mx w':=by
 obtain ⟨m,hm⟩:=h
 refine ⟨m,?_⟩
 rw [←hm]
 unfold World.cell?
 rw [hB.block 0 h0]
theorem cut_text (s:ByteArray) (c:UInt8) (w:World) (hs:s.size≤1000000) (hm:Mx w) :
  Calls Tryz.prog 100 #[.string s,.string ⟨#[c]⟩] w fun e w'=>e=.returned (.tuple #[str (Lib.cut s.data.toList [c]).1,str (Lib.cut s.data.toList [c]).2.1,.bool (Lib.cut s.data.toList [c]).2.2])∧Below w.heap.size w w':=by
 obtain ⟨m,hm⟩:=hm
 refine (Tryz.strings_Cut s ⟨#[c]⟩ m w (by omega) hm).mono ?_
 rintro e w' ⟨rfl,n,rfl⟩
 exact ⟨rfl,⟨rfl,rfl,rfl,Nat.le_refl _,fun _ _=>rfl⟩⟩
theorem wp_nrm1 {P:Program} {C:Code} {Q:Exit→Act→World→Prop} {a:Act} {w:World} (h:C.wp P (onlyN (fun a w=>Q .normal a w)) a w):C.wp P Q a w:=wp_onlyN _ (fun _ _ h=>h) h
theorem onlyN_is1 {K:Act→World→Prop} {a:Act} {w:World} (h:K a w):onlyN K .normal a w:=h
theorem lfirst_any (s:ByteArray) (w:World) (hs:s.size≤1000000) (hd:Deb w) (hm:Mx w) (h8:8≤w.heap.size) :
  Calls Tryz.prog 99 #[.string s] w fun e w'=>(∃ (a b:ByteArray) (k:Bool),e=.returned (.tuple #[.string a,.string b,.bool k])∧(match Lard.firstL s.data.toList with | some (t,r)=>a.data.toList=t∧b.data.toList=r∧k=true | none=>k=false))∧Below w.heap.size w w':=by
 have HC:=hide (cut_text s 10 w hs hm)
 rw [Lard.cut_one] at HC
 have hup:Lard.upto 10 s.data.toList=Lard.lead Lard.not10 s.data.toList:=rfl
 rw [hup] at HC
 have hsz:s.data.toList.length=s.size:=by rw [Lib.size_eq]
 generalize hRR:(fun (e:Ending) (w':World)=>(∃ (a b:ByteArray) (k:Bool),e=.returned (.tuple #[.string a,.string b,.bool k])∧(match Lard.firstL s.data.toList with | some (t,r)=>a.data.toList=t∧b.data.toList=r∧k=true | none=>k=false))∧Below w.heap.size w w')=RR
 have HF:Hid (∀ a b w',Lard.firstL s.data.toList=none→Below w.heap.size w w'→RR (.returned (.tuple #[.string a,.string b,.bool false])) w'):=hide (fun a b w' h hB=>by
  rw [←hRR]
  exact ⟨⟨a,b,false,rfl,by rw [h]⟩,hB⟩)
 have HT:Hid (∀ (a b:ByteArray) w',Lard.firstL s.data.toList=some (a.data.toList,b.data.toList)→Below w.heap.size w w'→RR (.returned (.tuple #[.string a,.string b,.bool true])) w'):=hide (fun a b w' h hB=>by
  rw [←hRR]
  exact ⟨⟨a,b,true,rfl,by rw [h]; exact ⟨rfl,rfl,rfl⟩⟩,hB⟩)
 clear hRR hup
 generalize hn:Lard.lead Lard.not10 s.data.toList=n at HC
 by_cases hlt:n < s.data.toList.length
 ·rw [if_pos hlt] at HC
  have hnl:n < s.size:=by omega
  by_cases h9:n < 9
  ·have HE:=hide (fun w' hB=>HF.out ⟨#[]⟩ ⟨#[]⟩ w' (by unfold Lard.firstL; rw [hn,if_neg (fun h=>by have:=h.2.1; omega)]) hB)
   obtain ⟨ln,hln⟩:∃ l,(⟨(s.data.toList.take n).toArray⟩:ByteArray)=l:=⟨_,rfl⟩
   have hlz:ln.size=n:=by rw [←hln,Lib.size_eq]; simp; omega
   have e0:str (s.data.toList.take n)=.string ln:=by rw [←hln]; rfl
   rw [e0] at HC
   have hb9:((ln.size:Int) < 9):=by omega
   clear HF HT hn e0 hln
   go_enter Tryz.func99,Tryz.ntmps99
   go_wp2_with fail
   refine HC.out.mono ?_
   rintro e w1 ⟨rfl,hB1⟩
   dsimp only
   go_wp2_with fail
   exact bodyPost_ret (v:=.tuple #[.string ⟨#[]⟩,.string ⟨#[]⟩,.bool false]) (by simp [results,Tryz.results99,go_sem]) rfl (HE.out _ hB1)
  ·obtain ⟨ln,hln⟩:∃ l,(⟨(s.data.toList.take n).toArray⟩:ByteArray)=l:=⟨_,rfl⟩
   have hll:ln.data.toList=s.data.toList.take n:=by rw [←hln]
   have hlz:ln.size=n:=by rw [←hln,Lib.size_eq]; simp; omega
   have e0:str (s.data.toList.take n)=.string ln:=by rw [←hln]; rfl
   obtain ⟨rs,hrs⟩:∃ l,(⟨(s.data.toList.drop (n + 1)).toArray⟩:ByteArray)=l:=⟨_,rfl⟩
   have hrl:rs.data.toList=s.data.toList.drop (n + 1):=by rw [←hrs]
   have e1:str (s.data.toList.drop (n + 1))=.string rs:=by rw [←hrs]; rfl
   rw [e0,e1] at HC
   have hb9:¬ ((ln.size:Int) < 9):=by omega
   have hw9:IntKind.i64.wrap ((ln.size:Int) - 9)=((n - 9:Nat):Int):=by rw [IntKind.wrap_i64]; omega
   have hw1:IntKind.i64.wrap ((n:Int) + 1)=(n:Int) + 1:=by rw [IntKind.wrap_i64]; omega
   have hq1:(n:Int) + 1≤(s.size:Int):=by omega
   have hq0:(0:Int)≤(n:Int) + 1:=by omega
   have hqn:((n:Int) + 1).toNat=n + 1:=by omega
   obtain ⟨tx,htx⟩:∃ l,ln.extract 0 (n - 9)=l:=⟨_,rfl⟩
   have htl:tx.data.toList=s.data.toList.take (n - 9):=by
    rw [←htx,Lib.extract_data,hll]
    simp [List.take_take]
   obtain ⟨hd1,hhd⟩:∃ l,s.extract 0 (n + 1)=l:=⟨_,rfl⟩
   have hhl:hd1.data.toList=s.data.toList.take (n + 1):=by
    rw [←hhd,Lib.extract_data]
    simp
   have HE:Hid (∀ (b:Bool) w',(b=true↔Lard.line tx.data.toList=hd1.toList)→Below w.heap.size w w'→RR (.returned (.tuple #[.string tx,.string rs,.bool b])) w'):=hide (fun b w' hbi hB=>by
    rw [Lib.toList_data,htl,hhl] at hbi
    cases b with
    |true=>exact HT.out tx rs w' (by unfold Lard.firstL; rw [hn,if_pos ⟨hlt,by omega,hbi.1 rfl⟩,htl,hrl]) hB
    |false=>exact HF.out tx rs w' (by unfold Lard.firstL; rw [hn,if_neg (fun h=>by have:=hbi.2 h.2.2; cases this)]) hB)
   have HOF:=hide (fun (w1:World) (hB:Below w.heap.size w w1)=>of_line tx w1 (by rw [Lib.size_eq,htl]; simp; omega) (hd.below hB h8) (Nat.le_trans h8 hB.size))
   clear HF HT hn e0 e1 hln hrs htl hrl hll hhl hd
   go_enter Tryz.func99,Tryz.ntmps99
   go_wp2_with fail
   refine HC.out.mono ?_
   rintro e w1 ⟨rfl,hB1⟩
   dsimp only
   go_wp2_with fail
   rw [htx]
   refine wp_nrm1 ?_
   have hB1d:=hB1.trans ((Below.refl w1.heap.size w1).drew.mono hB1.size)
   go_region_with (go_at_call 94; refine (HOF.out _ (by assumption)).mono ?_; rintro e w3 ⟨rfl,hB3⟩; unfold str; have hB3':=hB1d.trans (hB3.mono hB1d.size))
   all_goals
    refine onlyN_is1 ?_
    apply_assumption
    simp only [Act.put,List.getElem_toArray,List.getElem_cons_succ,List.getElem_cons_zero,List.setIfInBounds_toArray,List.set_cons_zero,List.set_cons_succ]
    have HE2:=hide (HE.out _ _ beq_iff_eq hB3')
    clear HE HOF HC
    go_wp2_with fail
    exact bodyPost_ret (v:=.tuple #[.string tx,.string rs,.bool _]) (by simp [results,Tryz.results99,go_sem]) rfl HE2.out
 ·rw [if_neg hlt] at HC
  have HE:=hide (fun w' hB=>HF.out ⟨#[]⟩ ⟨#[]⟩ w' (by unfold Lard.firstL; rw [hn,if_neg (fun h=>hlt h.1)]) hB)
  clear HF HT hn
  go_enter Tryz.func99,Tryz.ntmps99
  go_wp2_with fail
  refine HC.out.mono ?_
  rintro e w1 ⟨rfl,hB1⟩
  dsimp only
  go_wp2_with fail
  exact bodyPost_ret (v:=.tuple #[.string ⟨#[]⟩,.string ⟨#[]⟩,.bool false]) (by simp [results,Tryz.results99,go_sem]) rfl (HE.out _ hB1)
end
section
set_option maxRecDepth 100000
set_option maxHeartbeats 1000000
open Go.RowKit Go.Shelf
def WdPost (w:World) (q:Option (Lard.Wo×List UInt8)) (e:Ending) (w':World):Prop :=
 Below w.heap.size w w'∧((∃ wo c y,∃ r:ByteArray,q=some (wo,r.data.toList)∧e=.returned (.tuple #[.agg #[.int .i64 c,y],.string r,.bool true])∧(y=.nilIface∨∃ t a,y=.iface t a)∧IsW w' wo (.agg #[.int .i64 c,y])) ∨
  (q=none∧e=.returned (.tuple #[.agg #[.int .i64 0,.nilIface],.string ⟨#[]⟩,.bool false])))
def brkFrom (i:Nat) (l:List UInt8):Option (Nat×List UInt8):=Lard.brk ([7,8,9,10,11].drop i) l
theorem brk_step {i:Nat} (hi:i < 5) (l:List UInt8):brkFrom i l=if (Lard.brokenW (7 + i)).isPrefixOf l=true then some (7 + i,l.drop (Lard.brokenW (7 + i)).length) else brkFrom (i + 1) l:=by
 have:i=0∨i=1∨i=2∨i=3∨i=4:=by omega
 rcases this with rfl | rfl | rfl | rfl | rfl <;> rfl
theorem keeps_set {w:World} {b:Nat} {cs:Array Value} {t:TypeId} {fz:Nat×Nat} (hb:w.heap[b]? = some (.cells cs t fz)) (ht:¬ Imm t) (x y:Value):Keeps w ((w.setCell ⟨b,0,none⟩ x).setCell ⟨b,1,none⟩ y):=by
 intro k cs' t' fz' hk hi
 by_cases e:k=b
 ·subst e
  rw [hb] at hk
  cases hk
  exact absurd hi ht
 ·rw [Deep.blk_setCell_other _ _ _ _ e,Deep.blk_setCell_other _ _ _ _ e]
  exact hk
theorem imm_wJ:¬ Imm 113:=by unfold Imm; decide
theorem readWorth_any (s:ByteArray) (w:World) (g:G w) (hs:s.size≤1000000) :
  Calls Tryz.prog 190 #[.string s] w (WdPost w (Lard.rdWo s.data.toList)):=by
 generalize hRR:WdPost w (Lard.rdWo s.data.toList)=RR
 have HB:Hid (∀ (c:Nat) (r:ByteArray) w',brkFrom 0 s.data.toList=some (c,r.data.toList)→0 < c→c≤12→Below w.heap.size w w'→RR (.returned (.tuple #[.agg #[.int .i64 c,.nilIface],.string r,.bool true])) w'):=hide (fun c r w' h h0 h12 hB=>by
  rw [←hRR]
  refine ⟨hB,.inl ⟨.error c,c,.nilIface,r,?_,rfl,.inl rfl,.inr ⟨c,rfl,rfl,h0,h12⟩⟩⟩
  unfold Lard.rdWo
  have h:Lard.brk [7,8,9,10,11] s.data.toList=some (c,r.data.toList):=h
  rw [h])
 have HV:Hid (∀ v t a (r:ByteArray) w',brkFrom 0 s.data.toList=none→Lard.rdF 3 s.data.toList=some (v,r.data.toList)→IsVal w' 3 v (.iface t a)→Below w.heap.size w w'→RR (.returned (.tuple #[.agg #[.int .i64 0,.iface t a],.string r,.bool true])) w'):=hide (fun v t a r w' h h2 hv hB=>by
  rw [←hRR]
  refine ⟨hB,.inl ⟨.ok v,0,.iface t a,r,?_,rfl,.inr ⟨t,a,rfl⟩,.inl ⟨v,_,rfl,rfl,hv⟩⟩⟩
  unfold Lard.rdWo
  have h:Lard.brk [7,8,9,10,11] s.data.toList=none:=h
  rw [h,h2]
  rfl)
 have HN:Hid (∀ w',brkFrom 0 s.data.toList=none→Lard.rdF 3 s.data.toList=none→Below w.heap.size w w'→RR (.returned (.tuple #[.agg #[.int .i64 0,.nilIface],.string ⟨#[]⟩,.bool false])) w'):=hide (fun w' h h2 hB=>by
  rw [←hRR]
  refine ⟨hB,.inr ⟨?_,rfl⟩⟩
  unfold Lard.rdWo
  have h:Lard.brk [7,8,9,10,11] s.data.toList=none:=h
  rw [h,h2]
  rfl)
 have HG:=hide g
 have hB0:Below w.heap.size w (w.alloc (.cells #[.int .i64 0,.nilIface] 113)):=(Below.refl _ w).alloc (Nat.le_refl _) _
 have HRF:=hide (first_all 3 (Nat.le_refl _) s (w.alloc (.cells #[.int .i64 0,.nilIface] 113)) (g.below hB0 g.size) (by omega))
 clear hRR g
 go_enter Tryz.func190,Tryz.ntmps190
 go_wp2_with fail
 go_loopw [3,4,5] (fun sv bv cv wr=>∃ i:Nat,i≤5∧sv=.string ⟨#[]⟩∧bv=.bool false∧cv=.int .i64 ((7 + i:Nat):Int)∧wr=w.alloc (.cells #[.int .i64 0,.nilIface] 113)∧Hid (brkFrom i s.data.toList=brkFrom 0 s.data.toList)) (fun _ _ cv _=>12 - (intOf cv).toNat)
 case atStart=>exact ⟨0,Nat.zero_le _,rfl,rfl,rfl,rfl,hide rfl⟩
 case round =>
  obtain ⟨i,hi,rfl,rfl,rfl,rfl,HX⟩:=hrel
  by_cases hlt:i < 5
  ·have hin:((7 + i:Nat):Int)≤11:=by omega
   have hst:=brk_step hlt s.data.toList
   rw [HX.out] at hst
   have HBK:=hide (fun w=>brokenBy_any (7 + i) w (by omega))
   obtain ⟨bw,hbw⟩:∃ b,(⟨(Lard.brokenW (7 + i)).toArray⟩:ByteArray)=b:=⟨_,rfl⟩
   have hbl:bw.data.toList=Lard.brokenW (7 + i):=by rw [←hbw]
   have hbs:str (Lard.brokenW (7 + i))=.string bw:=by rw [←hbw]; rfl
   rw [hbs] at HBK
   have HCP:=hide (fun w=>Tryz.strings_CutPrefix s bw w)
   rw [hbl] at HCP
   obtain ⟨hp,hhp⟩:∃ b,Lib.hasPrefix s.data.toList (Lard.brokenW (7 + i))=b:=⟨_,rfl⟩
   have hpe:(Lard.brokenW (7 + i)).isPrefixOf s.data.toList=hp:=hhp
   rw [hhp] at HCP
   obtain ⟨rs,hrs⟩:∃ b,(⟨(Lib.trimPrefix s.data.toList (Lard.brokenW (7 + i))).toArray⟩:ByteArray)=b:=⟨_,rfl⟩
   rw [hrs] at HCP
   rw [hpe] at hst
   cases hp with
   |true =>
    have hrl:rs.data.toList=s.data.toList.drop (Lard.brokenW (7 + i)).length:=by
     rw [←hrs]
     unfold Lib.trimPrefix
     rw [hhp]
     rfl
    have HE:=hide (fun w' hB=>HB.out (7 + i) rs w' (by rw [hst,hrl]; rfl) (by omega) (by omega) hB)
    clear HB HV HN hst hpe hhp hrl hrs hbs hbl hbw HX HRF
    go_wp2_with fail
    refine (HBK.out _).mono ?_
    rintro e w' ⟨rfl,hw'⟩
    obtain rfl:=hw'.symm
    dsimp only
    go_wp2_with fail
    refine (HCP.out _).mono ?_
    rintro e w' ⟨rfl,hw'⟩
    obtain rfl:=hw'.symm
    dsimp only
    go_wp2_with fail
    exact bodyPost_ret (v:=.tuple #[.agg #[.int .i64 ((7 + i:Nat):Int),.nilIface],.string rs,.bool true]) (by simp [results,Tryz.results190,go_sem]) rfl (HE.out _ ((Below.refl _ w).alloc (Nat.le_refl _) _))
   |false =>
    have HX2:Hid (brkFrom (i + 1) s.data.toList=brkFrom 0 s.data.toList):=hide (by rw [hst]; rfl)
    clear HB HV HN hst hpe hhp hrs hbs hbl hbw HX HRF
    go_wp2_with fail
    refine (HBK.out _).mono ?_
    rintro e w' ⟨rfl,hw'⟩
    obtain rfl:=hw'.symm
    dsimp only
    go_wp2_with fail
    refine (HCP.out _).mono ?_
    rintro e w' ⟨rfl,hw'⟩
    obtain rfl:=hw'.symm
    dsimp only
    go_wp2_with fail
    refine ⟨⟨i + 1,by omega,rfl,rfl,by go_num,trivial,HX2⟩,?_⟩
    simp [intOf]; omega
  ·obtain rfl:i=5:=by omega
   have hnone:brkFrom 0 s.data.toList=none:=HX.out.symm.trans rfl
   go_wp2_with fail
   refine HRF.out.mono ?_
   rintro e w1 ⟨hB1,hq⟩
   have hBB:=hB0.trans (hB1.mono hB0.size)
   have blk:w1.heap[w.heap.size]? = some (.cells #[.int .i64 0,.nilIface] 113 (0,0)):=(hB1.block _ (by simp)).trans (heap_alloc_new w _)
   have c0:w1.cell? ⟨w.heap.size,0,none⟩=some (.int .i64 0):=by simp [World.cell?,blk]
   have c1:w1.cell? ⟨w.heap.size,1,none⟩=some .nilIface:=by simp [World.cell?,blk]
   have z0:w1.frozen? ⟨w.heap.size,0,none⟩=false:=by simp [World.frozen?,blk]
   have z1:w1.frozen? ⟨w.heap.size,1,none⟩=false:=by simp [World.frozen?,blk]
   have hBF:∀ x y,Below w.heap.size w ((w1.setCell ⟨w.heap.size,0,none⟩ x).setCell ⟨w.heap.size,1,none⟩ y):=fun x y=>(hBB.setCell (p:=⟨w.heap.size,0,none⟩) (Nat.le_refl _) _).setCell (p:=⟨w.heap.size,1,none⟩) (Nat.le_refl _) _
   rcases hq with ⟨v,y,t,a,r,h1,rfl,rfl,h4⟩ | ⟨y,r,h1,rfl,h3⟩
   ·dsimp only
    have HE:=hide (HV.out v t a r _ hnone h1 (h4.keeps (keeps_set blk imm_wJ (.int .i64 0) (.iface t a))) (hBF _ _))
    clear HB HV HN HX HRF hBF h4 hB1
    go_wp2_with fail
    exact bodyPost_ret (v:=.tuple #[.agg #[.int .i64 0,.iface t a],.string r,.bool true]) (by simp [results,Tryz.results190,go_sem,c0,c1,z0,z1,blk]) rfl HE.out
   ·dsimp only
    have HE:=hide (HN.out _ hnone h1 (hBF (.int .i64 0) .nilIface))
    clear HB HV HN HX HRF hBF hB1
    rcases h3 with rfl | ⟨t,a,rfl⟩
    all_goals
     go_wp2_with fail
     exact bodyPost_ret (v:=.tuple #[.agg #[.int .i64 0,.nilIface],.string ⟨#[]⟩,.bool false]) (by simp [results,Tryz.results190,go_sem,c0,c1,z0,z1,blk]) rfl HE.out
end
end Go.Proofs.YtpekpdimdelncaaGreatDoor
