/- Out of: L30, L31, Bg4, Dig. -/
import Derived.Test.YtpekpdimdelncaaGreatDoorP24
import Derived.Test.YtpekpdimdelncaaGreatDoorP22
import Derived.Test.YtpekpdimdelncaaGreatDoorP01
set_option linter.unusedVariables false
set_option linter.unusedSimpArgs false
namespace Go.Proofs.YtpekpdimdelncaaGreatDoor
section
set_option maxRecDepth 100000
set_option maxHeartbeats 4000000
open Go.RowKit Go.Shelf
theorem bring_phi (n:Nat) (key:List UInt8) (s:Lard.LS) (hkb:Lard.KB s.has) (hd:Lard.look s.done key=none)
  (hw:Phi (Lard.workL (Lard.bring n) key { s with begun:=s.begun++[key] }).2≤Phi ({ s with begun:=s.begun++[key] }:Lard.LS) + LM) (b:List (List UInt8)) (r:Lard.Wo) :
  Phi { (Lard.workL (Lard.bring n) key { s with begun:=s.begun++[key] }).2 with begun:=b,done:=Lard.put (Lard.workL (Lard.bring n) key { s with begun:=s.begun++[key] }).2.done key r }≤Phi s:=by
 have hs1:Phi ({ s with begun:=s.begun++[key] }:Lard.LS)=Phi s:=phi_same rfl rfl rfl
 cases hl:Lard.look s.has key with
 |none =>
  have e:Lard.workL (Lard.bring n) key { s with begun:=s.begun++[key] }=(.error 7,{ s with begun:=s.begun++[key] }):=by simp only [Lard.workL,hl]
  rw [e]
  exact Nat.le_trans (phi_put b r) (Nat.le_of_eq hs1)
 |some th =>
  cases ht:th.tree with
  |none =>
   have e:Lard.workL (Lard.bring n) key { s with begun:=s.begun++[key] }=(.ok th.value,{ s with begun:=s.begun++[key] }):=by simp only [Lard.workL,hl,ht]
   rw [e]
   exact Nat.le_trans (phi_put b r) (Nat.le_of_eq hs1)
  |some t =>
   have ho:=Lard.work_own n key { s with begun:=s.begun++[key] } hkb hl ht
   have h1:key∈Lard.ruled (Lard.workL (Lard.bring n) key { s with begun:=s.begun++[key] }).2.has:=by
    rw [←Lard.ruled_strip,ho.strip,Lard.ruled_strip]
    exact Lard.mem_ruled hl (by rw [ht]; rfl)
   have h2:Lard.look (Lard.workL (Lard.bring n) key { s with begun:=s.begun++[key] }).2.done key=none:=(ho.dn key (by show key∈s.begun++[key]; simp)).trans hd
   have:=phi_done h1 h2 b r
   rw [hs1] at hw
   exact Nat.le_of_add_le_add_right (Nat.le_trans this hw)
theorem work_done (n:Nat) (key:List UInt8) (s:Lard.LS) (hkb:Lard.KB s.has) (hp:s.done.length + 1000 * Lard.Rs s + 1000 * (n + 1)≤1000000):(Lard.workL (Lard.bring n) key { s with begun:=s.begun++[key] }).2.done.length≤1000000:=by
 cases hl:Lard.look s.has key with
 |none =>
  have e:Lard.workL (Lard.bring n) key { s with begun:=s.begun++[key] }=(.error 7,{ s with begun:=s.begun++[key] }):=by simp only [Lard.workL,hl]
  rw [e]
  show s.done.length≤_
  omega
 |some th =>
  cases ht:th.tree with
  |none =>
   have e:Lard.workL (Lard.bring n) key { s with begun:=s.begun++[key] }=(.ok th.value,{ s with begun:=s.begun++[key] }):=by simp only [Lard.workL,hl,ht]
   rw [e]
   show s.done.length≤_
   omega
  |some t =>
   have ho:=(Lard.work_own n key { s with begun:=s.begun++[key] } hkb hl ht).psi
   have h1:Lard.Rs { s with begun:=s.begun++[key] }=Lard.Rs s:=rfl
   rw [h1] at ho
   have ho:(Lard.workL (Lard.bring n) key { s with begun:=s.begun++[key] }).2.done.length + 1000 * Lard.Rs (Lard.workL (Lard.bring n) key { s with begun:=s.begun++[key] }).2≤s.done.length + 1000 * Lard.Rs s + 801:=ho
   omega
theorem bring_new (n:Nat) (w:World) (lb:Nat) (key:ByteArray) (HB:BSays lb (Lard.bring n) (Pre n)) (s:Lard.LS) (L:Nat→Prop) (h:LAt w lb s L) (g:G w) (hd:Deb w) (hk:key.size≤200) (hpre:Pre (n + 1) s) (hl:Lard.look s.done key.data.toList=none) (hc:s.begun.contains key.data.toList=false) :
  Calls Tryz.prog 49 #[ptr lb,.string key] w fun e w'=>∃ x,e=.returned x∧IsW w' (Lard.workL (Lard.bring n) key.data.toList { s with begun:=s.begun++[key.data.toList] }).1 x ∧
   LPost w lb L { (Lard.workL (Lard.bring n) key.data.toList { s with begun:=s.begun++[key.data.toList] }).2 with begun:=s.begun,done:=Lard.put (Lard.workL (Lard.bring n) key.data.toList { s with begun:=s.begun++[key.data.toList] }).2.done key.data.toList (Lard.workL (Lard.bring n) key.data.toList { s with begun:=s.begun++[key.data.toList] }).1 } w' ∧
   Phi (Lard.workL (Lard.bring n) key.data.toList { s with begun:=s.begun++[key.data.toList] }).2≤Phi ({ s with begun:=s.begun++[key.data.toList] }:Lard.LS) + LM:=by
 have hlen:s.begun.length≤1000:=by have:=hpre.begun; omega
 have hA1:=h.alloc (.cells #[.int .i64 0,.nilIface] 113)
 have hA2:=hA1.alloc (.cells #[.int .i64 0,.nilIface] 113)
 have hkl:key.data.toList.length≤maxLen:=by rw [←size_data]; unfold maxLen; omega
 have hB1:=(Below.refl _ w).alloc (Nat.le_refl _) (.cells #[.int .i64 0,.nilIface] 113)
 have hB2:=(Below.refl _ (w.alloc (.cells #[.int .i64 0,.nilIface] 113))).alloc (Nat.le_refl _) (.cells #[.int .i64 0,.nilIface] 113)
 have g2:=(g.below hB1 g.size).below hB2 (g.below hB1 g.size).size
 have d2:=(hd.below hB1 g.size).below hB2 (g.below hB1 g.size).size
 obtain ⟨hb,db,vb,vr,vn,vj,h1⟩:=hA1
 have c1:(w.alloc (.cells #[.int .i64 0,.nilIface] 113)).cell? ⟨lb,1,none⟩=some (.map (some db)):=by simp [World.cell?,h1.blk]
 have hr:(Instr.lookup 105 (.map (some db)) (.string key) true).run Tryz.prog (w.alloc (.cells #[.int .i64 0,.nilIface] 113))=.ok (.tuple #[.agg #[.int .i64 0,.nilIface],.bool false]) (w.alloc (.cells #[.int .i64 0,.nilIface] 113)):=by
  rcases h1.done.look (key:=key.data.toList) hkl with ⟨_,h3⟩ | ⟨r',v,h2,_⟩
  ·rw [str_bytes] at h3; exact h3
  ·rw [hl] at h2; cases h2
 clear h1
 have hA2':=hA2
 obtain ⟨hb2,db2,vb2,vr2,vn2,vj2,h2⟩:=hA2
 have c2:((w.alloc (.cells #[.int .i64 0,.nilIface] 113)).alloc (.cells #[.int .i64 0,.nilIface] 113)).cell? ⟨lb,2,none⟩=some vb2:=by simp [World.cell?,h2.blk]
 have hI:=idx_any h2 hlen key
 have hform:∃ o m c,vb2=.slice o m c:=by
  rcases h2.rowBegun with ⟨rfl,_⟩ | ⟨gb,cb,rfl,_⟩
  ·exact ⟨_,_,_,rfl⟩
  ·exact ⟨_,_,_,rfl⟩
 -- the key is begun
 obtain ⟨g',cap,w3,hrun,f2,z2,hP4⟩:=begun_append h2 g2 (Below.refl _ _) key hlen
 have e2:((((w.alloc (.cells #[.int .i64 0,.nilIface] 113)).alloc (.cells #[.int .i64 0,.nilIface] 113)).alloc (.cells #[.string key] 9))).cell? ⟨lb,2,none⟩=some vb2:=(World.cell?_of_block (Below.heap_alloc _ _ lb (lt_of_some h2.blk))).trans c2
 have g4:=hP4.g hA2' g2
 have d4:=hP4.deb hA2' g2 d2
 obtain ⟨L4,hA4,hsub4,hthen4⟩:=hP4.then
 -- it is worked out
 have hwork:=work_any n _ lb key HB { s with begun:=s.begun++[key.data.toList] } L4 hA4 g4 d4 hk (by show key.data.toList∈s.begun++[key.data.toList]; simp) (fun th t h1 h2=>hpre.work h1 h2 hc)
 have hwb:(Lard.workL (Lard.bring n) key.data.toList { s with begun:=s.begun++[key.data.toList] }).2.begun=s.begun++[key.data.toList]:=(Lard.work_hk (Lard.bring_hs n) key.data.toList { s with begun:=s.begun++[key.data.toList] }).begun
 have hwd:=work_done n key.data.toList s hpre.kb hpre.psi
 generalize Lard.workL (Lard.bring n) key.data.toList { s with begun:=s.begun++[key.data.toList] }=q at hwork hwb hwd ⊢
 generalize hRR:(fun (e:Ending) (w':World)=>∃ x,e=.returned x∧IsW w' q.1 x∧LPost w lb L { q.2 with begun:=s.begun,done:=Lard.put q.2.done key.data.toList q.1 } w'∧Phi q.2≤Phi ({ s with begun:=s.begun++[key.data.toList] }:Lard.LS) + LM)=RR
 have hfin:∀ wr c i,LPost (w.alloc (.cells #[.int .i64 0,.nilIface] 113)) lb L { q.2 with begun:=s.begun,done:=Lard.put q.2.done key.data.toList q.1 } wr→IsW wr q.1 (.agg #[.int .i64 c,i])→Phi q.2≤Phi ({ s with begun:=s.begun++[key.data.toList] }:Lard.LS) + LM→wr.cell? ⟨w.heap.size,0,none⟩=some (.int .i64 0)∧wr.cell? ⟨w.heap.size,1,none⟩=some .nilIface∧wr.frozen? ⟨w.heap.size,0,none⟩=false∧wr.frozen? ⟨w.heap.size,1,none⟩=false∧((wr.setCell ⟨w.heap.size,0,none⟩ (.int .i64 c)).setCell ⟨w.heap.size,1,none⟩ i).cell? ⟨w.heap.size,0,none⟩=some (.int .i64 c)∧((wr.setCell ⟨w.heap.size,0,none⟩ (.int .i64 c)).setCell ⟨w.heap.size,1,none⟩ i).cell? ⟨w.heap.size,1,none⟩=some i∧RR (.returned (.agg #[.int .i64 c,i])) ((wr.setCell ⟨w.heap.size,0,none⟩ (.int .i64 c)).setCell ⟨w.heap.size,1,none⟩ i):=fun wr c i hP hW hph=>by
  obtain ⟨b0,b1,z0,z1,hP',hW',d0,d1⟩:=box_worth h hP hW
  rw [←hRR]
  exact ⟨b0,b1,z0,z1,d0,d1,_,rfl,hW',hP',hph⟩
 have hthen2:∀ s2 w2,LPost _ lb L4 s2 w2→LPost (w.alloc (.cells #[.int .i64 0,.nilIface] 113)) lb L s2 w2:=fun s2 w2 hx=>LPost.pre hB2 (hthen4 s2 w2 hx)
 simp only [World.size_alloc] at hrun
 have HTH:=hide hthen2
 have HFIN:=hide hfin
 have HW:=hide hwork
 have HI:=hide hI
 have HRUN:=hide hrun
 have HA4:=hide hA4
 have HG4:=hide g4
 clear hfin hwork hI hrun hA4 hthen4 hthen2 hsub4 hP4 h2 hA2' h hl g2 d2 g4 d4 hRR hpre HB
 obtain ⟨o2,m2,cc2,rfl⟩:=hform
 unfold ptr at *
 go_enter Tryz.func49,Tryz.ntmps49
 go_wp2_with fail
 refine HI.out.mono ?_
 rintro e w' ⟨hw',⟨_,rfl⟩ | ⟨j,hj,hc',_⟩⟩
 ·subst hw'
  clear HI
  go_wp2_with (at_builtin; refine wpList_run_append _ rfl _ _ _ _ rfl _ _ _ _ rfl rfl HRUN.out ?_)
  refine HW.out.mono ?_
  rintro e w5 ⟨x,rfl,hW5,hP5,hph5⟩
  obtain ⟨c,i,rfl,hi⟩:=hW5.form
  have g5:=hP5.g HA4.out HG4.out
  obtain ⟨L5,hA5,hsub5,hthen5⟩:=hP5.then
  have hBa:Below w5.heap.size w5 (w5.alloc (.cells #[.int .i64 c,i] 113)):=(Below.refl _ _).alloc (Nat.le_refl _) _
  have hA6:=(hA5.alloc (.cells #[.int .i64 c,i] 113)).drew
  have g6:G (w5.alloc (.cells #[.int .i64 c,i] 113)).drew:=g5.below hBa.drew g5.size
  obtain ⟨gb,cb,k2,hcb,y2,hP7⟩:=pop_one hA6 g6 hwb
  generalize hw6:w5.alloc (.cells #[.int .i64 c,i] 113)=w6 at *
  have hb6:w6.heap[w5.heap.size]? = some (.cells #[.int .i64 c,i] 113 (0,0)):=by rw [←hw6]; exact heap_alloc_new _ _
  have hlb5:lb < w5.heap.size:=(hA5.typed _ hA5.here).2.1
  have hW6:IsW w6 q.1 (.agg #[.int .i64 c,i]):=hW5.keeps (Keeps.below hBa)
  have hW7:=(hW6.keeps (Keeps.below ((Below.refl _ w6).drew))).keeps (hP7.keeps hA6)
  have hb7:(w6.drew.setCell ⟨lb,2,none⟩ (.slice (some ⟨gb,0,none⟩) s.begun.length cb)).heap[w5.heap.size]? = some (.cells #[.int .i64 c,i] 113 (0,0)):=(Below.heap_setCell _ _ _ _ (by show w5.heap.size≠lb; omega)).trans hb6
  obtain ⟨L7,hA7,hsub7,hthen7⟩:=hP7.then
  generalize hw7:w6.drew.setCell ⟨lb,2,none⟩ (.slice (some ⟨gb,0,none⟩) s.begun.length cb)=w7 at *
  obtain ⟨db8,w9,k1,hput,hP9,hst9⟩:=done_one hA7.drew (s6:={ q.2 with begun:=s.begun }) hwd key hk (hW7.keeps (Keeps.below ((Below.refl _ w7).drew)))
  have hb9:=hst9 _ _ _ _ hb7
  have hW9:IsW w9 q.1 (.agg #[.int .i64 c,i]):=(hW7.keeps (Keeps.below ((Below.refl _ w7).drew))).keeps (hP9.keeps hA7.drew)
  have hPF:=HTH.out _ _ (hthen5 _ _ (LPost.pre hBa.drew (hthen7 _ _ (LPost.pre ((Below.refl _ w7).drew) hP9))))
  obtain ⟨b0,b1,z0,z1,e0,e1,hR⟩:=HFIN.out w9 c i hPF hW9 hph5
  have HR:=hide hR
  have HPUT:=hide hput
  have m0:w9.cell? ⟨w5.heap.size,0,none⟩=some (.int .i64 c):=by simp [World.cell?,hb9]
  have m1:w9.cell? ⟨w5.heap.size,1,none⟩=some i:=by simp [World.cell?,hb9]
  have hS7:w7.cell? ⟨lb,1,none⟩=some (.map (some db8))∧w7.cell? ⟨w5.heap.size,0,none⟩=some (.int .i64 c)∧w7.cell? ⟨w5.heap.size,1,none⟩=some i:=⟨k1,by simp [World.cell?,hb7],by simp [World.cell?,hb7]⟩
  have hS9:w9.cell? ⟨lb,1,none⟩=some (.map (some db8))∧w9.cell? ⟨w5.heap.size,0,none⟩=some (.int .i64 c)∧w9.cell? ⟨w5.heap.size,1,none⟩=some i:=by
   refine ⟨?_,m0,m1⟩
   obtain ⟨hbA,dbA,vbA,vrA,vnA,vjA,hlpA⟩:=hA7.drew
   have hlb9:=hst9 _ _ _ _ hlpA.blk
   have:some (Value.map (some dbA))=some (Value.map (some db8)):=by rw [←k1]; simp [World.cell?,hlpA.blk]
   cases this
   simp [World.cell?,hlb9]
  clear hR hput hPF hP9 hst9 hb9 hW9 HFIN hthen7 hA7 hsub7 hP7 hW7 hb7 HTH hthen5 hA6 hA5 hsub5 hP5 hW6 g6 g5 HW HA4 HG4 hph5 hW5 HRUN f2 z2 e2 c2 c1 hr
  have k2':w6.cell? ⟨lb,2,none⟩=some (.slice (some ⟨gb,0,none⟩) (s.begun.length + 1) cb):=k2
  have hwr:IntKind.i64.wrap (s.begun.length:Int)=(s.begun.length:Int):=by rw [IntKind.wrap_i64]; omega
  have hle:s.begun.length≤cb:=by omega
  have HX:=hide (And.intro hS7 (And.intro hS9 (And.intro b0 (And.intro b1 (And.intro z0 (And.intro z1 (And.intro e0 (And.intro e1 (And.intro m0 m1)))))))))
  clear hS7 hS9 b0 b1 z0 z1 e0 e1 m0 m1 k1 hb6 hcb hwb hwd hBa hlb5 hB1 hB2 hkl
  have HW6:=hide hw6
  have HW7:Hid ((w6.setCell ⟨lb,2,none⟩ (.slice (some ⟨gb,0,none⟩) s.begun.length cb)).drew=w7):=hide hw7
  clear hw6 hw7
  rcases hi with rfl | ⟨ti,ai,rfl⟩
  all_goals
   go_wp2_with fail
   rw [HW6.out]
   rename_i K5 HK5
   refine wp_onlyN K5 (fun a w h=>h) ?_
   refine wp_region_held_drew (S:=fun _=>True) (by kernel_rfl) trivial (fun hHeld=>?_)
   refine wpAnyH_take (i:=0) (v:=?_) rfl (by kernel_rfl) (by kernel_rfl) (by kernel_rfl) (fun _ _ _ h=>h) (Or.inl ⟨by rfl,?_⟩) trivial ?_
   rotate_left
   ·intro w' s0
    go_simp
    try with_reducible rfl
   simp only [Act.put,List.setIfInBounds_toArray,List.set_cons_zero,List.set_cons_succ]
   refine wpAnyH_take (i:=1) (v:=?_) rfl (by kernel_rfl) (by kernel_rfl) (by kernel_rfl) (fun _ _ _ h=>h) (Or.inl ⟨by rfl,?_⟩) trivial ?_
   rotate_left
   ·intro w' s0
    go_simp
    try with_reducible rfl
   simp only [Act.put,List.setIfInBounds_toArray,List.set_cons_zero,List.set_cons_succ]
   refine wpAnyH_take (i:=2) (v:=?_) rfl (by kernel_rfl) (by kernel_rfl) (by kernel_rfl) (fun _ _ _ h=>h) (Or.inl ⟨by rfl,?_⟩) trivial ?_
   rotate_left
   ·intro w' s0
    go_simp
    try with_reducible rfl
   simp only [Act.put,List.setIfInBounds_toArray,List.set_cons_zero,List.set_cons_succ]
   refine wpAnyH_take (i:=3) (v:=?_) rfl (by kernel_rfl) (by kernel_rfl) (by kernel_rfl) (fun _ _ _ h=>h) (Or.inl ⟨by rfl,?_⟩) trivial ?_
   rotate_left
   ·intro w' s0
    go_simp
    try with_reducible rfl
   simp only [Act.put,List.setIfInBounds_toArray,List.set_cons_zero,List.set_cons_succ]
   refine wpAnyH_take (i:=5) (v:=?_) rfl (by kernel_rfl) (by kernel_rfl) (by kernel_rfl) (fun _ _ _ h=>h) (Or.inl ⟨by rfl,?_⟩) trivial ?_
   rotate_left
   ·intro w' s0
    go_simp
    try with_reducible rfl
   simp only [Act.put,List.setIfInBounds_toArray,List.set_cons_zero,List.set_cons_succ]
   refine wpAnyH_take (i:=6) (v:=?_) rfl (by kernel_rfl) (by kernel_rfl) (by kernel_rfl) (fun _ _ _ h=>h) (Or.inl ⟨by rfl,?_⟩) trivial ?_
   rotate_left
   ·intro w' s0
    go_simp
    try with_reducible rfl
   simp only [Act.put,List.setIfInBounds_toArray,List.set_cons_zero,List.set_cons_succ]
   refine wpAnyH_take (i:=7) (v:=?_) rfl (by kernel_rfl) (by kernel_rfl) (by kernel_rfl) (fun _ _ _ h=>h) (Or.inl ⟨by rfl,?_⟩) trivial ?_
   rotate_left
   ·intro w' s0
    go_simp
    try with_reducible rfl
   simp only [Act.put,List.setIfInBounds_toArray,List.set_cons_zero,List.set_cons_succ]
   refine wpAnyH_ready (rs:=[4,8]) (by kernel_rfl) (by simp) ?_
   refine AllReadyH.cons rfl (fun K hK=>?_) (AllReadyH.cons rfl (fun K hK=>?_) AllReadyH.nil)
   all_goals
    first
    |go_simp
     refine hK.out _ _ trivial (fun _=>?_)
     clear hK
     refine wpAnyH_ready (rs:=[8]) (by kernel_rfl) (by simp) ?_
     refine AllReadyH.cons rfl (fun K hK=>?_) AllReadyH.nil
     go_simp
     refine hK.out _ _ trivial (fun _=>?_)
     clear hK
     refine wpAnyH_ready (rs:=[9]) (by kernel_rfl) (by simp) ?_
     refine AllReadyH.cons rfl (fun K hK=>?_) AllReadyH.nil
     go_simp
     refine hK.out _ _ trivial (fun _=>?_)
     clear hK
     refine wpAnyH_ready (rs:=[10]) (by kernel_rfl) (by simp) ?_
     refine AllReadyH.cons rfl (fun K hK=>?_) AllReadyH.nil
     go_simp
     refine hK.out _ _ trivial (fun _=>?_)
     clear hK
     refine wpAnyH_ready (rs:=[11]) (by kernel_rfl) (by simp) ?_
     refine AllReadyH.cons rfl (fun K hK=>?_) AllReadyH.nil
     go_simp
     refine hK.out _ _ trivial (fun _=>?_)
     clear hK
     refine wpAnyH_ready (rs:=[12]) (by kernel_rfl) (by simp) ?_
     refine AllReadyH.cons rfl (fun K hK=>?_) AllReadyH.nil
     go_simp
     refine hK.out _ _ trivial (fun _=>?_)
     clear hK
     refine wpAnyH_ready (rs:=[13]) (by kernel_rfl) (by simp) ?_
     refine AllReadyH.cons rfl (fun K hK=>?_) AllReadyH.nil
     go_simp
     refine hK.out _ _ trivial (fun _=>?_)
     clear hK
     refine wpAnyH_ready (rs:=[14]) (by kernel_rfl) (by simp) ?_
     refine AllReadyH.cons rfl (fun K hK=>?_) AllReadyH.nil
     go_simp
     refine hK.out _ _ trivial (fun _=>?_)
     clear hK
     refine wpAnyH_done (by kernel_rfl) ?_ _
    |go_simp
     refine hK.out _ _ trivial (fun _=>?_)
     clear hK
     refine wpAnyH_take (i:=9) (v:=?_) rfl (by kernel_rfl) (by kernel_rfl) (by kernel_rfl) (fun _ _ _ h=>h) (Or.inl ⟨by rfl,?_⟩) trivial ?_
     rotate_left
     ·intro w' s0
      go_simp
      try with_reducible rfl
     simp only [Act.put,List.setIfInBounds_toArray,List.set_cons_zero,List.set_cons_succ]
     refine wpAnyH_take (i:=10) (v:=?_) rfl (by kernel_rfl) (by kernel_rfl) (by kernel_rfl) (fun _ _ _ h=>h) (Or.inl ⟨by rfl,?_⟩) trivial ?_
     rotate_left
     ·intro w' s0
      go_simp
      try with_reducible rfl
     simp only [Act.put,List.setIfInBounds_toArray,List.set_cons_zero,List.set_cons_succ]
     refine wpAnyH_ready (rs:=[4]) (by kernel_rfl) (by simp) ?_
     refine AllReadyH.cons rfl (fun K hK=>?_) AllReadyH.nil
     go_simp
     refine hK.out _ _ trivial (fun _=>?_)
     clear hK
     refine wpAnyH_ready (rs:=[11]) (by kernel_rfl) (by simp) ?_
     refine AllReadyH.cons rfl (fun K hK=>?_) AllReadyH.nil
     go_simp
     refine hK.out _ _ trivial (fun _=>?_)
     clear hK
     refine wpAnyH_ready (rs:=[12]) (by kernel_rfl) (by simp) ?_
     refine AllReadyH.cons rfl (fun K hK=>?_) AllReadyH.nil
     go_simp
     refine hK.out _ _ trivial (fun _=>?_)
     clear hK
     refine wpAnyH_ready (rs:=[13]) (by kernel_rfl) (by simp) ?_
     refine AllReadyH.cons rfl (fun K hK=>?_) AllReadyH.nil
     go_simp
     refine hK.out _ _ trivial (fun _=>?_)
     clear hK
     refine wpAnyH_ready (rs:=[14]) (by kernel_rfl) (by simp) ?_
     refine AllReadyH.cons rfl (fun K hK=>?_) AllReadyH.nil
     go_simp
     refine hK.out _ _ trivial (fun _=>?_)
     clear hK
     refine wpAnyH_done (by kernel_rfl) ?_ _
   all_goals
    show K5 _ _
    rw [HW7.out]
    clear hHeld k2' y2 HW6 HW7 hwr hle
    go_wp2_with fail
    rename_i K6 HK6
    obtain ⟨⟨j1,j2,k7⟩,⟨j4,j5,j6⟩,HX9⟩:=HX.out
    have hS7:=And.intro j1 (And.intro j2 (Eq.refl (w7.cell? ⟨w5.heap.size,1,none⟩)))
    have hS9:=And.intro j4 (And.intro j5 (j6.trans k7.symm))
    clear j1 j2 j4 j5 j6
    have HY:=hide HX9
    clear HX9
    refine wp_onlyN K6 (fun a w h=>h) ?_
    refine wp_region_held_drew (S:=fun w'=>w'.cell? ⟨lb,1,none⟩=some (.map (some db8))∧w'.cell? ⟨w5.heap.size,0,none⟩=some (.int .i64 c)∧w'.cell? ⟨w5.heap.size,1,none⟩=w7.cell? ⟨w5.heap.size,1,none⟩) (by kernel_rfl) hS7 (fun hHeld=>?_)
    refine wpAnyH_take (i:=0) (v:=?_) rfl (by kernel_rfl) (by kernel_rfl) (by kernel_rfl) (fun _ _ _ h=>h) (Or.inl ⟨by rfl,?_⟩) hS7 ?_
    rotate_left
    ·rintro w' ⟨s0,s1,s2⟩
     go_simp
     try with_reducible rfl
    simp only [Act.put,List.setIfInBounds_toArray,List.set_cons_zero,List.set_cons_succ]
    refine wpAnyH_take (i:=1) (v:=?_) rfl (by kernel_rfl) (by kernel_rfl) (by kernel_rfl) (fun _ _ _ h=>h) (Or.inl ⟨by rfl,?_⟩) hS7 ?_
    rotate_left
    ·rintro w' ⟨s0,s1,s2⟩
     go_simp
     try with_reducible rfl
    simp only [Act.put,List.setIfInBounds_toArray,List.set_cons_zero,List.set_cons_succ]
    refine wpAnyH_take (i:=2) (v:=?_) rfl (by kernel_rfl) (by kernel_rfl) (by kernel_rfl) (fun _ _ _ h=>h) (Or.inl ⟨by rfl,?_⟩) hS7 ?_
    rotate_left
    ·rintro w' ⟨s0,s1,s2⟩
     go_simp
     try with_reducible rfl
    simp only [Act.put,List.setIfInBounds_toArray,List.set_cons_zero,List.set_cons_succ]
    refine wpAnyH_take (i:=3) (v:=?_) rfl (by kernel_rfl) (by kernel_rfl) (by kernel_rfl) (fun _ _ _ h=>h) (Or.inl ⟨by rfl,?_⟩) hS7 ?_
    rotate_left
    ·rintro w' ⟨s0,s1,s2⟩
     go_simp
     try with_reducible rfl
    simp only [Act.put,List.setIfInBounds_toArray,List.set_cons_zero,List.set_cons_succ]
    refine wpAnyH_take (i:=4) (v:=?_) rfl (by kernel_rfl) (by kernel_rfl) (by kernel_rfl) (fun _ _ _ h=>h) (Or.inl ⟨by rfl,?_⟩) hS7 ?_
    rotate_left
    ·rintro w' ⟨s0,s1,s2⟩
     go_simp
     try with_reducible rfl
    simp only [Act.put,List.setIfInBounds_toArray,List.set_cons_zero,List.set_cons_succ]
    refine wpAnyH_ready (rs:=[5]) (by kernel_rfl) (by simp) ?_
    refine AllReadyH.cons rfl (fun K hK=>?_) AllReadyH.nil
    go_simp
    refine hK.out _ _ hS7 (fun _=>?_)
    clear hK
    refine wpAnyH_ready (rs:=[6]) (by kernel_rfl) (by simp) ?_
    refine AllReadyH.cons rfl (fun K hK=>?_) AllReadyH.nil
    refine step_run_put rfl (.tmp 67) (.tmp 68) (.tmp 69) 105 rfl _ _ _ _ rfl rfl rfl HPUT.out ?_
    simp only [Act.put,List.setIfInBounds_toArray,List.set_cons_zero,List.set_cons_succ]
    refine hK.out _ _ hS9 (fun _=>?_)
    clear hK HPUT hHeld hS7
    refine wpAnyH_done (by kernel_rfl) ?_ _
    show K6 _ w9
    clear hS9
    obtain ⟨b0,b1,z0,z1,e0,e1,m0,m1⟩:=HY.out
    clear HX HY
    go_wp2_with fail
    exact bodyPost_ret (v:=.agg #[.int .i64 c,_]) (by simp [results,Tryz.results49,go_sem,e0,e1]) rfl HR.out
 ·rw [hc] at hc'; cases hc'
end
section
open Go.RowKit Go.Shelf
theorem bring_says (lb:Nat):∀ n,BSays lb (Lard.bring n) (Pre n)
 |0=>fun W s L key _ _ _ hpre _=>by have:=hpre.un; omega
 |n + 1=>fun W s L key h g hd hpre hk=>by
  have HB:=bring_says lb n
  have hN:=Lard.bring_nst (n + 1) key.data.toList s hpre.kb
  have hlen:s.begun.length≤1000:=by have:=hpre.begun; omega
  cases hl:Lard.look s.done key.data.toList with
  |some r =>
   have e:Lard.bring (n + 1) key.data.toList s=(r,s):=by
    show Lard.bringW _ _ _=_
    unfold Lard.bringW
    rw [hl]
   rw [e] at hN ⊢
   refine (bring_done W lb key s L h hk r hl).mono ?_
   rintro e w' ⟨x,rfl,h1,h2⟩
   exact ⟨x,rfl,h1,h2,Nat.le_refl _,hN⟩
  |none =>
   cases hc:s.begun.contains key.data.toList with
   |true =>
    have e:Lard.bring (n + 1) key.data.toList s=(.error 12,s.meet key.data.toList):=by
     show Lard.bringW _ _ _=_
     unfold Lard.bringW
     rw [hl]
     simp only
     rw [if_pos hc]
    rw [e] at hN ⊢
    refine (bring_met W lb key s L h g hk hl hc hlen).mono ?_
    rintro e w' ⟨x,rfl,h1,h2⟩
    refine ⟨x,rfl,h1,h2,?_,hN⟩
    show Phi (s.meet key.data.toList)≤Phi s
    unfold Lard.LS.meet
    split
    ·exact Nat.le_of_eq (phi_same rfl rfl rfl)
    ·exact Nat.le_refl _
   |false =>
    have hwb:(Lard.workL (Lard.bring n) key.data.toList { s with begun:=s.begun++[key.data.toList] }).2.begun=s.begun++[key.data.toList]:=(Lard.work_hk (Lard.bring_hs n) key.data.toList { s with begun:=s.begun++[key.data.toList] }).begun
    have e:Lard.bring (n + 1) key.data.toList s=((Lard.workL (Lard.bring n) key.data.toList { s with begun:=s.begun++[key.data.toList] }).1,{ (Lard.workL (Lard.bring n) key.data.toList { s with begun:=s.begun++[key.data.toList] }).2 with begun:=s.begun,done:=Lard.put (Lard.workL (Lard.bring n) key.data.toList { s with begun:=s.begun++[key.data.toList] }).2.done key.data.toList (Lard.workL (Lard.bring n) key.data.toList { s with begun:=s.begun++[key.data.toList] }).1 }):=by
     show Lard.bringW _ _ _=_
     unfold Lard.bringW
     rw [hl]
     simp only
     rw [if_neg (by rw [hc]; exact Bool.false_ne_true),hwb]
     simp
    rw [e] at hN ⊢
    refine (bring_new n W lb key HB s L h g hd hk hpre hl hc).mono ?_
    rintro e w' ⟨x,rfl,h1,h2,h3⟩
    exact ⟨x,rfl,h1,h2,bring_phi n key.data.toList s hpre.kb hl h3 _ _,hN⟩
end
section
namespace Lard
theorem fromKey_len (l:List By) (k:By):(fromKey l k).length≤l.length:=by
 unfold fromKey
 induction l with
 |nil=>simp
 |cons a l ih =>
  rw [List.dropWhile_cons]
  split
  ·simp; omega
  ·exact Nat.le_refl _
section
variable {Br:By→LS→Wo×LS} {b:List By} {K:Nat}
theorem due_rk (hs:∀ k s,Hs s (Br k s).2) (hB:∀ k s,s.begun=b→s.ring.length≤K→(Br k s).2.ring.length≤K) (key:By):∀ (l:List (By×Wo)) (s:LS),s.begun=b→s.ring.length≤K→(dueL Br key l s).2.ring.length≤K
 |[],s,_,h=>h
 |(k,w) :: r,s,hb,h=>by
  unfold dueL
  split
  ·exact due_rk hs hB key r _ ((hs k s).begun.trans hb) (hB k s hb h)
  ·exact hB k s hb h
theorem prog_rk (hs:∀ k s,Hs s (Br k s).2) (hB:∀ k s,s.begun=b→s.ring.length≤K→(Br k s).2.ring.length≤K) (p:Pg Wo):∀ (s:LS) (ns:List (By×Wo)),s.begun=b→s.ring.length≤K→(p.run (needL Br) (s,ns)).2.1.ring.length≤K :=
 Pg.ind (P:=fun p=>∀ (s:LS) (ns:List (By×Wo)),s.begun=b→s.ring.length≤K→(p.run (needL Br) (s,ns)).2.1.ring.length≤K) (fun a s ns _ h=>h) (fun k f ih s ns hb h=>ih _ _ _ ((hs k s).begun.trans hb) (hB k s hb h)) p
theorem ran_ring (key:By) (q:Wo×(LS×List (By×Wo))):(ranL key q).2.ring=q.2.1.ring:=by
 unfold ranL
 by_cases h:isRound q.1=true
 ·simp only [h,if_true]
  split <;> rfl
 ·simp only [h]
  rfl
theorem work_rk (hs:∀ k s,Hs s (Br k s).2) (hB:∀ k s,s.begun=b→s.ring.length≤K→(Br k s).2.ring.length≤K) (key:By) (s:LS) (hb:s.begun=b) (h:s.ring.length≤K):(workL Br key s).2.ring.length≤K:=by
 have hrun:∀ t y (s:LS),s.begun=b→s.ring.length≤K→(runL Br key t y s).2.ring.length≤K:=fun t y s hb h=>by
  unfold runL
  rw [ran_ring]
  exact prog_rk hs hB (prog t) { s with ran:=s.ran++[y] } [] hb h
 cases hl:look s.has key with
 |none =>
  simp only [workL,hl]
  exact h
 |some th =>
  cases ht:th.tree with
  |none =>
   simp only [workL,hl,ht]
   exact h
  |some t =>
   simp only [workL,hl,ht]
   cases th.kept with
   |none=>exact hrun t _ s hb h
   |some k =>
    have h1:=due_rk hs hB key k.needs s hb h
    have h2:=(due_hs hs key k.needs s).begun
    unfold ruleL
    cases hd:dueL Br key k.needs s with
    |mk o s1 =>
     rw [hd] at h1 h2
     simp only [hd]
     cases o with
     |none=>exact h1
     |some y=>exact hrun t y s1 (h2.trans hb) h1
end
theorem bringW_rk {Wk:By→LS→Wo×LS} {b:List By} {K:Nat} (key:By) (s:LS) (hW:s.ring.length≤K→(Wk key { s with begun:=s.begun++[key] }).2.ring.length≤K) (hb:s.begun.length≤K) (h:s.ring.length≤K):(bringW Wk key s).2.ring.length≤K:=by
 unfold bringW
 cases look s.done key with
 |some w=>exact h
 |none =>
  by_cases hc:s.begun.contains key=true
  ·rw [if_pos hc]
   show (s.meet key).ring.length≤K
   unfold LS.meet
   split
   ·exact Nat.le_trans (fromKey_len _ _) hb
   ·exact h
  ·rw [if_neg hc]
   exact hW h
theorem bring_rk {K:Nat}:∀ (n:Nat) (key:By) (s:LS),s.begun.length + n≤K→s.ring.length≤K→(bring n key s).2.ring.length≤K
 |0,key,s,hb,h=>bringW_rk (b:=s.begun) key s (fun h=>h) (by omega) h
 |n + 1,key,s,hb,h=>bringW_rk (b:=s.begun) key s (fun h=>work_rk (b:=s.begun++[key]) (bring_hs n) (fun k s' hs' h'=>bring_rk n k s' (by rw [hs']; simp; omega) h') key _ rfl h) (by omega) h
end Lard
end
namespace Lard
def digFold:List UInt8→Nat→Option Nat
 |[],n=>some n
 |c :: r,n=>if isDig c=true then (if (9223372036854775807 - (c.toNat - 48)) / 10 < n then none else digFold r (10 * n + (c.toNat - 48))) else none
def refDig (l:List UInt8):Option Nat :=
 if l=[]∨(l.head? = some 48∧1 < l.length) then none else digFold l 0
def val:List UInt8→Nat→Nat
 |[],n=>n
 |c :: r,n=>val r (10 * n + (c.toNat - 48))
theorem val_ge:∀ (l:List UInt8) (n:Nat),n≤val l n:=by
 intro l
 induction l with
 |nil=>intro n; exact Nat.le_refl _
 |cons c r ih=>intro n; have:=ih (10 * n + (c.toNat - 48)); simp only [val]; omega
theorem dig_bd {c:UInt8} (h:isDig c=true):48≤c.toNat∧c.toNat≤57:=by
 simp [isDig,digB] at h; omega
theorem M_eq:∀ (l:List UInt8) (n:Nat),(∀ c∈l,isDig c=true)→n≤18446744073709551615→Lib.parseUintM 18446744073709551615 n l=if val l n≤18446744073709551615 then .ok (val l n) else .range:=by
 intro l
 induction l with
 |nil =>
  intro n _ h
  have e1:val [] n=n:=rfl
  rw [e1,if_pos h]; rfl
 |cons c r ih =>
  intro n hd hn
  have hc:=hd c (by simp)
  have hb:=dig_bd hc
  have hv:=val_ge r (10 * n + (c.toNat - 48))
  have e1:val (c :: r) n=val r (10 * n + (c.toNat - 48)):=rfl
  rw [e1,Lib.parseUintM,if_pos hb,show n * 10 + (c.toNat - 48)=10 * n + (c.toNat - 48) by omega]
  by_cases h1:1844674407370955162≤n
  ·have hg:¬ val r (10 * n + (c.toNat - 48))≤18446744073709551615:=by omega
   rw [if_pos h1,if_neg hg]
  ·rw [if_neg h1]
   by_cases h2:18446744073709551615 < 10 * n + (c.toNat - 48)
   ·have hg:¬ val r (10 * n + (c.toNat - 48))≤18446744073709551615:=by omega
    rw [if_pos h2,if_neg hg]
   ·rw [if_neg h2]
    exact ih _ (fun x hx=>hd x (by simp [hx])) (by omega)
theorem val_snoc (l:List UInt8) (c:UInt8) (n:Nat):val (l++[c]) n=10 * val l n + (c.toNat - 48):=by
 induction l generalizing n with
 |nil=>rfl
 |cons d r ih=>exact ih _
end Lard
end Go.Proofs.YtpekpdimdelncaaGreatDoor
