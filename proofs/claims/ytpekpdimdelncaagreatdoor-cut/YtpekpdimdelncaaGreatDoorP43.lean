/- Out of: J7, J8, J9. -/
import Derived.Test.YtpekpdimdelncaaGreatDoorP42
import Derived.Test.YtpekpdimdelncaaGreatDoorP41
import Derived.Test.YtpekpdimdelncaaGreatDoorP36
import Derived.Test.YtpekpdimdelncaaGreatDoorP40
set_option linter.unusedVariables false
set_option linter.unusedSimpArgs false
namespace Go.Proofs.YtpekpdimdelncaaGreatDoor
section
set_option maxRecDepth 100000
set_option maxHeartbeats 4000000
open Go.RowKit Go.Shelf
theorem mapInt (w:World):(Instr.makeMap 278 none).run Tryz.prog w=.ok (.map (some w.heap.size)) (w.alloc (.map #[] 0)):=by kernel_rfl
theorem kj_count {w W:World} {kb mb:Nat} {c:Int} {y sl:Value} {acc:List (List UInt8×Lard.Wo)} {wo:Lard.Wo} (h:KW w W kb c y sl acc wo) (hm:MapAt W mb (acc.map fun n=>(n.1,Value.int .i64 1))) (hmb:w.heap.size≤mb) (k:ByteArray) (hk:k.size≤1000000) (hn:acc.length≤1000000) :
  ∃ (n m:Int) (W1:World),(n=0∧m=1∧(Lard.look acc k.data.toList).isSome=false∨n=1∧m=2∧(Lard.look acc k.data.toList).isSome=true)∧(Instr.lookup 278 (.map (some mb)) (.string k) false).run Tryz.prog W=.ok (.int .i64 n) W ∧
   (Instr.mapUpdate 278 (.map (some mb)) (.string k) (.int .i64 m)).run Tryz.prog W=.ok () W1∧(Instr.lookup 278 (.map (some mb)) (.string k) false).run Tryz.prog W1=.ok (.int .i64 m) W1 ∧
   KW w W1 kb c y sl acc wo∧Tm W W1 mb∧(n=0→∀ wo':Lard.Wo,MapAt W1 mb ((acc++[(k.data.toList,wo')]).map fun n:List UInt8×Lard.Wo=>(n.1,Value.int .i64 1))):=by
 have hkl:k.data.toList.length≤maxLen:=by rw [←size_data]; unfold maxLen; omega
 have hz:∀ w,(zeroValue 3).run Tryz.prog w=.ok (.int .i64 0) w:=fun w=>by kernel_rfl
 have h1:=hm.look1 Tryz.underlying278 hkl (hz W)
 rw [look_ones,str_bytes] at h1
 have hput:∀ (m:Int),∃ W1,(Instr.mapUpdate 278 (.map (some mb)) (.string k) (.int .i64 m)).run Tryz.prog W=.ok () W1∧(Instr.lookup 278 (.map (some mb)) (.string k) false).run Tryz.prog W1=.ok (.int .i64 m) W1∧KW w W1 kb c y sl acc wo∧Tm W W1 mb∧MapAt W1 mb (Lard.put (acc.map fun n=>(n.1,Value.int .i64 1)) k.data.toList (.int .i64 m)):=fun m=>by
  obtain ⟨W1,hr,hm1,hg,_⟩:=hm.put Tryz.underlying278 (k:=k.data.toList) hkl (by rw [List.length_map]; unfold maxLen; omega) (.int .i64 m)
  rw [str_bytes] at hr
  have ht:Tm W W1 mb:=⟨hg,hm.isMap⟩
  have h2:=hm1.look1 Tryz.underlying278 hkl (hz W1)
  rw [Lard.look_put,if_pos rfl,str_bytes] at h2
  exact ⟨W1,hr,h2,h.tm ht hmb,ht,hm1⟩
 cases hl:Lard.look acc k.data.toList with
 |none =>
  rw [hl] at h1
  obtain ⟨W1,a1,a2,a3,a4,a5⟩:=hput 1
  refine ⟨0,1,W1,.inl ⟨rfl,rfl,rfl⟩,h1,a1,a2,a3,a4,fun _ wo'=>?_⟩
  rw [put_new (by rw [look_ones,hl]; rfl)] at a5
  rw [List.map_append]
  exact a5
 |some u =>
  rw [hl] at h1
  obtain ⟨W1,a1,a2,a3,a4,a5⟩:=hput 2
  exact ⟨1,2,W1,.inr ⟨rfl,rfl,rfl⟩,h1,a1,a2,a3,a4,fun e=>by cases e⟩
def tailJ:Nat→Code→Code
 |0,c=>c
 |n + 1,.seq _ y=>tailJ n y
 |_,c=>c
theorem rk_loop (w W:World) (kb mb:Nat) (c:Int) (y:Value) (wo:Lard.Wo) (q:Option Lard.Keep) (r:ByteArray) (ok:Bool) (v0 v4 v10 v11 v12 v13 v14 v15 v16 v17 v18 v19:Value) (g:G w) (hmx:Mx w) (hmb:w.heap.size≤mb) (hJ:KJ w kb mb c y wo q r ok W) :
  Code.wp Tryz.prog (tailJ 4 (Tryz.f142.body.getD .skip)) (bodyPost Tryz.prog Tryz.f142 (KrPost w q)) { tmps:=#[v0,undef,.pointer none,.bool false,v4,.string r,.bool ok,.pointer (some ⟨kb,0,none⟩),.map (some mb),undef,v10,v11,v12,v13,v14,v15,v16,v17,v18,v19,undef,undef,undef,undef,undef,undef,undef,undef,undef,undef,undef,undef,undef,undef,undef,undef,undef,undef,undef,undef,undef,undef,undef,undef,undef,undef,undef,undef,undef,undef,undef,undef,undef,undef,undef,undef],defers:=[] } W:=by
 have HG:=hide (And.intro g (And.intro hmx hmb))
 have HJ0:=hide hJ
 clear g hmx hmb hJ
 obtain ⟨cd,hcd⟩:∃ cd,tailJ 4 (Tryz.f142.body.getD .skip)=cd:=⟨_,rfl⟩
 rw [hcd]
 simp only [tailJ,Tryz.f142,Option.getD] at hcd
 subst hcd
 go_wp2_with fail
 go_loopw [5,6] (fun rv ov wr=>∃ (r:ByteArray) (ok:Bool),rv=.string r∧ov=.bool ok∧Hid (KJ w kb mb c y wo q r ok wr)) (fun rv ov _=>bnOf ov * (szOf rv + 1))
 case atStart=>exact ⟨r,ok,rfl,rfl,HJ0⟩
 case round =>
  obtain ⟨r,ok,rfl,rfl,HJ⟩:=hrel
  clear HJ0
  cases ok with
  |false =>
   have HE:Hid (KrPost w q (.returned (.tuple #[.pointer (some ⟨kb,0,none⟩),.bool false])) wr):=hide (by
    rcases HJ.out with ⟨h,_⟩ | ⟨_,h1,h2⟩
    ·cases h
    ·exact ⟨h2,.inr ⟨h1,_,rfl⟩⟩)
   clear HJ
   go_wp2_with fail
   exact bodyPost_ret (v:=.tuple #[.pointer (some ⟨kb,0,none⟩),.bool false]) (by simp [results,Tryz.results142,go_sem]) rfl HE.out
  |true =>
   obtain ⟨acc,sl,hK,hM,hR,hL⟩:∃ acc sl,KW w wr kb c y sl acc wo∧MapAt wr mb (acc.map fun n=>(n.1,Value.int .i64 1))∧(Lard.rdAll r.data.toList acc).map (fun ns=>(⟨wo,ns⟩:Lard.Keep))=q∧acc.length + r.size≤1000000:=by
    rcases HJ.out with ⟨_,h⟩ | ⟨h,_⟩
    ·exact h
    ·cases h
   clear HJ
   cases he:r.toList.isEmpty with
   |true =>
    have hne:(!r.toList.isEmpty)=false:=by rw [he]; rfl
    have hr0:r.data.toList=[]:=by rw [←Lib.toList_data]; exact List.isEmpty_iff.1 he
    have HE:Hid (KrPost w q (.returned (.tuple #[.pointer (some ⟨kb,0,none⟩),.bool true])) wr):=hide (by
     rw [hr0] at hR
     exact ⟨hK.bel,.inl ⟨⟨wo,acc⟩,kb,c,y,sl,hR.symm,rfl,hK⟩⟩)
    clear hK hM hR hL he hr0
    go_wp2_with fail
    exact bodyPost_ret (v:=.tuple #[.pointer (some ⟨kb,0,none⟩),.bool true]) (by simp [results,Tryz.results142,go_sem]) rfl HE.out
   |false =>
    have hne:(!r.toList.isEmpty)=true:=by rw [he]; rfl
    have hr0:r.data.toList≠[]:=fun h=>by rw [Lib.toList_data,h] at he; cases he
    rw [Lard.rdAll_step hr0] at hR
    obtain ⟨g,hmx,hmb⟩:=HG.out
    have hB0:Below wr.heap.size wr (wr.alloc (.cells #[.string ⟨#[]⟩,.int .i64 0,.nilIface] 133)):=(Below.refl _ wr).alloc (Nat.le_refl _) _
    have hBw:=(hK.below hB0).bel
    have HRN:=hide (readNeed_any r _ (g.below hBw g.size) (hmx.below hBw (by have:=g.size; omega)) (by omega))
    obtain ⟨o,cp,rfl⟩:=hK.nd.len
    have HK:=hide (And.intro hK (And.intro hM (And.intro hR (And.intro hL (And.intro hr0 (And.intro g hmb))))))
    clear hK hM hR hr0 he g hmx hBw
    go_wp2_with fail
    refine HRN.out.mono ?_
    rintro e w2 ⟨hB2,hq⟩
    obtain ⟨hK,hM,hR,hL,hr0,g,hmb⟩:=HK.out
    have hB1:=hB0.trans (hB2.mono hB0.size)
    have hz2:wr.heap.size < w2.heap.size:=by have:=hB2.size; simp at this; omega
    have blk:w2.heap[wr.heap.size]? = some (.cells #[.string ⟨#[]⟩,.int .i64 0,.nilIface] 133 (0,0)):=(hB2.block _ (by simp)).trans (heap_alloc_new wr _)
    have c0:w2.cell? ⟨wr.heap.size,0,none⟩=some (.string ⟨#[]⟩):=by simp [World.cell?,blk]
    have c1:w2.cell? ⟨wr.heap.size,1,none⟩=some (.int .i64 0):=by simp [World.cell?,blk]
    have c2:w2.cell? ⟨wr.heap.size,2,none⟩=some .nilIface:=by simp [World.cell?,blk]
    have z0:w2.frozen? ⟨wr.heap.size,0,none⟩=false:=by simp [World.frozen?,blk]
    have z1:w2.frozen? ⟨wr.heap.size,1,none⟩=false:=by simp [World.frozen?,blk]
    have z2:w2.frozen? ⟨wr.heap.size,2,none⟩=false:=by simp [World.frozen?,blk]
    obtain ⟨k,c',y',r2,b,hk,rfl,hy,hcase⟩:∃ (k:ByteArray) (c':Int) (y':Value) (r2:ByteArray) (b:Bool),k.size≤1000000∧e=.returned (.tuple #[.agg #[.string k,.int .i64 c',y'],.string r2,.bool b])∧(y'=.nilIface∨∃ t a,y'=.iface t a)∧((b=true∧∃ wo',Lard.rdNeed r.data.toList=some ((k.data.toList,wo'),r2.data.toList)∧IsW w2 wo' (.agg #[.int .i64 c',y']))∨(b=false∧Lard.rdNeed r.data.toList=none)):=by
     rcases hq with ⟨k,wo',c',y',r2,h1,h2,rfl,h3,h4⟩ | ⟨h1,k,r2,h2,rfl⟩
     ·exact ⟨k,c',y',r2,true,h2,rfl,h3,.inl ⟨rfl,wo',h1,h4⟩⟩
     ·exact ⟨k,0,.nilIface,r2,false,h2,rfl,.inl rfl,.inr ⟨rfl,h1⟩⟩
    have hBc:Below wr.heap.size wr (((w2.setCell ⟨wr.heap.size,0,none⟩ (.string k)).setCell ⟨wr.heap.size,1,none⟩ (.int .i64 c')).setCell ⟨wr.heap.size,2,none⟩ y'):=set3 _ _ _ hB1
    have hKc:=hK.below hBc
    have hMc:=hM.same (hBc.block _ hM.lt)
    have blc:(((w2.setCell ⟨wr.heap.size,0,none⟩ (.string k)).setCell ⟨wr.heap.size,1,none⟩ (.int .i64 c')).setCell ⟨wr.heap.size,2,none⟩ y').heap[wr.heap.size]? = some (.cells #[.string k,.int .i64 c',y'] 133 (0,0)):=blk_cell (blk_cell (blk_cell blk 0 (.string k)) 1 (.int .i64 c')) 2 y'
    have hkeep:=keeps_set3 blk imm_need (.string k) (.int .i64 c') y'
    obtain ⟨n,m,W1,hn,hl1,hp1,hl2,hK1,hT,hM1⟩:=kj_count hKc hMc hmb k hk (by omega)
    have bl1:=hT.cells blc
    have kb1:=hK1.blk
    have hBd:Below W1.heap.size W1 W1.drew:=(Below.refl _ W1).drew
    obtain ⟨gg,cap,W2,ha,hac,haz,hao,hab,ham,haw⟩:=kw_app (hK1.below hBd) g.size k c' y' hy (by omega)
    obtain ⟨b',hb',hfin⟩:∃ b':Bool,((b=true∧n=0∧m=1∧b'=true)∨(b=true∧n=1∧m=2∧b'=false)∨(b=false∧n=0∧m=1∧b'=false)∨(b=false∧n=1∧m=2∧b'=false))∧KJ w kb mb c y wo q r2 b' (W2.setCell ⟨kb,2,none⟩ (.slice (some ⟨gg,0,none⟩) (acc.length + 1) cap))∧(b'=true→r2.size < r.size):=by
     rcases hcase with ⟨rfl,wo',h1,h2⟩ | ⟨rfl,h1⟩
     ·rw [h1] at hR
      rcases hn with ⟨rfl,rfl,hl⟩ | ⟨rfl,rfl,hl⟩
      ·have hlt:r2.size < r.size:=by
        have:=Lard.rdNeed_len h1
        rw [size_data,size_data]
        exact this
       simp only [hl] at hR
       refine ⟨true,.inl ⟨rfl,rfl,rfl,rfl⟩,.inl ⟨rfl,_,_,haw wo' ((h2.keeps hkeep).st (hT.stay.trans (Stay.below hBd))) ?_,ham _ _ ((hM1 rfl wo').same rfl),hR,?_⟩,fun _=>hlt⟩
       ·rw [size_data]
        exact Lard.key_short (Lard.rdNeed_key h1)
       ·rw [List.length_append,List.length_singleton]
        omega
      ·simp only [hl,if_true] at hR
       exact ⟨false,.inr (.inl ⟨rfl,rfl,rfl,rfl⟩),.inr ⟨rfl,hR.symm,hab⟩,fun h=>by cases h⟩
     ·rw [h1] at hR
      rcases hn with ⟨rfl,rfl,hl⟩ | ⟨rfl,rfl,hl⟩
      ·exact ⟨false,.inr (.inr (.inl ⟨rfl,rfl,rfl,rfl⟩)),.inr ⟨rfl,hR.symm,hab⟩,fun h=>by cases h⟩
      ·exact ⟨false,.inr (.inr (.inr ⟨rfl,rfl,rfl,rfl⟩)),.inr ⟨rfl,hR.symm,hab⟩,fun h=>by cases h⟩
    have n0:W1.cell? ⟨wr.heap.size,0,none⟩=some (.string k):=by simp [World.cell?,bl1]
    have n1:W1.cell? ⟨wr.heap.size,1,none⟩=some (.int .i64 c'):=by simp [World.cell?,bl1]
    have n2:W1.cell? ⟨wr.heap.size,2,none⟩=some y':=by simp [World.cell?,bl1]
    have k2:W1.cell? ⟨kb,2,none⟩=some (.slice o acc.length cp):=by simp [World.cell?,kb1]
    have hkw:kb≠wr.heap.size:=fun e=>by have:=lt_of_some hK.blk; omega
    have hnw:W2.heap[wr.heap.size]? = some (.cells #[.string k,.int .i64 c',y'] 133 (0,0)):=(hao _ (show wr.heap.size < W1.heap.size from lt_of_some bl1) (fun e=>by
     obtain ⟨cs,fz,h1⟩:=hK.nd.typed _ e
     have:=lt_of_some h1
     omega)).trans bl1
    have hS2:W2.cell? ⟨wr.heap.size,0,none⟩=some (.string k)∧W2.cell? ⟨wr.heap.size,1,none⟩=some (.int .i64 c')∧W2.cell? ⟨wr.heap.size,2,none⟩=some y':=⟨by simp [World.cell?,hnw],by simp [World.cell?,hnw],by simp [World.cell?,hnw]⟩
    have hS3:∀ v,(W2.setCell ⟨kb,2,none⟩ v).cell? ⟨wr.heap.size,0,none⟩=some (.string k)∧(W2.setCell ⟨kb,2,none⟩ v).cell? ⟨wr.heap.size,1,none⟩=some (.int .i64 c')∧(W2.setCell ⟨kb,2,none⟩ v).cell? ⟨wr.heap.size,2,none⟩=some y':=fun v=>by
     have:=(Below.heap_setCell W2 ⟨kb,2,none⟩ v wr.heap.size hkw.symm).trans hnw
     exact ⟨by simp [World.cell?,this],by simp [World.cell?,this],by simp [World.cell?,this]⟩
    have hS1:∀ o,(W1.drew.alloc o).cell? ⟨wr.heap.size,0,none⟩=some (.string k)∧(W1.drew.alloc o).cell? ⟨wr.heap.size,1,none⟩=some (.int .i64 c')∧(W1.drew.alloc o).cell? ⟨wr.heap.size,2,none⟩=some y':=fun o=>by
     have:(W1.drew.alloc o).heap[wr.heap.size]? = _:=(Below.heap_alloc W1.drew o wr.heap.size (show wr.heap.size < W1.heap.size from lt_of_some bl1)).trans bl1
     exact ⟨by simp [World.cell?,this],by simp [World.cell?,this],by simp [World.cell?,this]⟩
    have k3:∀ oo,(W1.drew.alloc oo).cell? ⟨kb,2,none⟩=some (.slice o acc.length cp):=fun oo=>by
     have:(W1.drew.alloc oo).heap[kb]? = _:=(Below.heap_alloc W1.drew oo kb (show kb < W1.heap.size from lt_of_some kb1)).trans kb1
     simp [World.cell?,this]
    have k4:∀ oo,(W1.alloc oo).drew.cell? ⟨kb,2,none⟩=some (.slice o acc.length cp):=k3
    have k5:∀ oo,(W1.alloc oo).cell? ⟨kb,2,none⟩=some (.slice o acc.length cp):=k3
    have HKJ:Hid (KJ w kb mb c y wo q r2 b' (W2.setCell ⟨kb,2,none⟩ (.slice (some ⟨gg,0,none⟩) (acc.length + 1) cap))):=hide hfin.1
    have HLT:Hid (b'=true→r2.size < r.size):=hide hfin.2
    obtain ⟨va,hva⟩:=hac
    clear hfin hao hnw hab ham haw hK hM hR hL hr0 g hmb hKc hMc blc bl1 kb1 hkeep hn hK1 hT hM1 hcase hBc hB1 hB2 hB0 hq blk hz2 hk HRN HK hBd
    dsimp only
    rcases hy with rfl | ⟨t,a,rfl⟩
    all_goals
     rcases hb' with ⟨rfl,rfl,rfl,rfl⟩ | ⟨rfl,rfl,rfl,rfl⟩ | ⟨rfl,rfl,rfl,rfl⟩ | ⟨rfl,rfl,rfl,rfl⟩
    all_goals
     go_wp2_with fail
     refine wp_nrm1 ?_
     have hS0:W1.drew.cell? ⟨wr.heap.size,0,none⟩=some (.string k)∧W1.drew.cell? ⟨wr.heap.size,1,none⟩=some (.int .i64 c')∧W1.drew.cell? ⟨wr.heap.size,2,none⟩=some _:=⟨n0,n1,n2⟩
     refine wp_region_held_drew (S:=fun w'=>w'.cell? ⟨wr.heap.size,0,none⟩=some (.string k)∧w'.cell? ⟨wr.heap.size,1,none⟩=some (.int .i64 c')∧w'.cell? ⟨wr.heap.size,2,none⟩=some _) (by kernel_rfl) hS0 (fun hHeld=>?_)
     refine wpAnyH_take (i:=0) (v:=?_) rfl (by kernel_rfl) (by kernel_rfl) (by kernel_rfl) (fun _ _ _ h=>h) (Or.inl ⟨by kernel_rfl,?_⟩) hS0 ?_
     rotate_left
     ·intro w' s0
      obtain ⟨m0,m1,m2⟩:=s0
      go_simp
      try with_reducible rfl
     simp only [Act.put,List.getElem_toArray,List.getElem_cons_succ,List.getElem_cons_zero,List.setIfInBounds_toArray,List.set_cons_zero,List.set_cons_succ]
     refine wpAnyH_take (i:=1) (v:=?_) rfl (by kernel_rfl) (by kernel_rfl) (by kernel_rfl) (fun _ _ _ h=>h) (Or.inl ⟨by kernel_rfl,?_⟩) hS0 ?_
     rotate_left
     ·intro w' s0
      obtain ⟨m0,m1,m2⟩:=s0
      go_simp
      try with_reducible rfl
     simp only [Act.put,List.getElem_toArray,List.getElem_cons_succ,List.getElem_cons_zero,List.setIfInBounds_toArray,List.set_cons_zero,List.set_cons_succ]
     refine wpAnyH_take (i:=2) (v:=?_) rfl (by kernel_rfl) (by kernel_rfl) (by kernel_rfl) (fun _ _ _ h=>h) (Or.inl ⟨by kernel_rfl,?_⟩) hS0 ?_
     rotate_left
     ·intro w' s0
      obtain ⟨m0,m1,m2⟩:=s0
      go_simp
      try with_reducible rfl
     simp only [Act.put,List.getElem_toArray,List.getElem_cons_succ,List.getElem_cons_zero,List.setIfInBounds_toArray,List.set_cons_zero,List.set_cons_succ]
     refine wpAnyH_take (i:=3) (v:=?_) rfl (by kernel_rfl) (by kernel_rfl) (by kernel_rfl) (fun _ _ _ h=>h) (Or.inl ⟨by kernel_rfl,?_⟩) hS0 ?_
     rotate_left
     ·intro w' s0
      obtain ⟨m0,m1,m2⟩:=s0
      go_simp
      try with_reducible rfl
     simp only [Act.put,List.getElem_toArray,List.getElem_cons_succ,List.getElem_cons_zero,List.setIfInBounds_toArray,List.set_cons_zero,List.set_cons_succ]
     refine wpAnyH_take (i:=5) (v:=?_) rfl (by kernel_rfl) (by kernel_rfl) (by kernel_rfl) (fun _ _ _ h=>h) (Or.inl ⟨by kernel_rfl,?_⟩) hS0 ?_
     rotate_left
     ·intro w' s0
      obtain ⟨m0,m1,m2⟩:=s0
      go_simp
      try with_reducible rfl
     simp only [Act.put,List.getElem_toArray,List.getElem_cons_succ,List.getElem_cons_zero,List.setIfInBounds_toArray,List.set_cons_zero,List.set_cons_succ]
     have d2:W1.drew.cell? ⟨kb,2,none⟩=some (.slice o acc.length cp):=k2
     refine wpAnyH_ready (rs:=[4,6]) (by kernel_rfl) (by simp) ?_
     refine AllReadyH.cons rfl (fun K hK=>?_) (AllReadyH.cons rfl (fun K hK=>?_) AllReadyH.nil)
     ·go_simp
      refine hK.out _ _ hS0 (fun _=>?_)
      clear hK
      refine wpAnyH_ready (rs:=[6]) (by kernel_rfl) (by simp) ?_
      refine AllReadyH.cons rfl (fun K hK=>?_) AllReadyH.nil
      go_simp
      refine hK.out _ _ (hS1 _) (fun _=>?_)
      clear hK
      refine wpAnyH_ready (rs:=[7]) (by kernel_rfl) (by simp) ?_
      refine AllReadyH.cons rfl (fun K hK=>?_) AllReadyH.nil
      refine step_run_append rfl (.tmp 48) (.tmp 50) 129 129 rfl _ _ _ _ rfl rfl ha ?_
      simp only [Act.put,List.getElem_toArray,List.getElem_cons_succ,List.getElem_cons_zero,List.setIfInBounds_toArray,List.set_cons_zero,List.set_cons_succ]
      refine hK.out _ _ hS2 (fun _=>?_)
      clear hK ha
      refine wpAnyH_ready (rs:=[8]) (by kernel_rfl) (by simp) ?_
      refine AllReadyH.cons rfl (fun K hK=>?_) AllReadyH.nil
      go_simp
      refine hK.out _ _ hS2 (fun _=>?_)
      clear hK
      refine wpAnyH_ready (rs:=[9]) (by kernel_rfl) (by simp) ?_
      refine AllReadyH.cons rfl (fun K hK=>?_) AllReadyH.nil
      go_simp
      refine hK.out _ _ hS2 (fun _=>?_)
      clear hK
      refine wpAnyH_ready (rs:=[10]) (by kernel_rfl) (by simp) ?_
      refine AllReadyH.cons rfl (fun K hK=>?_) AllReadyH.nil
      go_simp
      refine hK.out _ _ (hS3 _) (fun _=>?_)
      clear hK
      refine wpAnyH_done (by kernel_rfl) ?_ _
      refine onlyN_is1 ?_
      go_wp2_with fail
      refine ⟨⟨r2,_,rfl,rfl,HKJ⟩,?_⟩
      have hlt:=HLT.out
      simp [bnOf,szOf] at hlt ⊢
      try omega
     ·go_simp
      refine hK.out _ _ (hS1 _) (fun _=>?_)
      clear hK
      refine wpAnyH_ready (rs:=[4]) (by kernel_rfl) (by simp) ?_
      refine AllReadyH.cons rfl (fun K hK=>?_) AllReadyH.nil
      go_simp
      refine hK.out _ _ (hS1 _) (fun _=>?_)
      clear hK
      refine wpAnyH_ready (rs:=[7]) (by kernel_rfl) (by simp) ?_
      refine AllReadyH.cons rfl (fun K hK=>?_) AllReadyH.nil
      refine step_run_append rfl (.tmp 48) (.tmp 50) 129 129 rfl _ _ _ _ rfl rfl ha ?_
      simp only [Act.put,List.getElem_toArray,List.getElem_cons_succ,List.getElem_cons_zero,List.setIfInBounds_toArray,List.set_cons_zero,List.set_cons_succ]
      refine hK.out _ _ hS2 (fun _=>?_)
      clear hK ha
      refine wpAnyH_ready (rs:=[8]) (by kernel_rfl) (by simp) ?_
      refine AllReadyH.cons rfl (fun K hK=>?_) AllReadyH.nil
      go_simp
      refine hK.out _ _ hS2 (fun _=>?_)
      clear hK
      refine wpAnyH_ready (rs:=[9]) (by kernel_rfl) (by simp) ?_
      refine AllReadyH.cons rfl (fun K hK=>?_) AllReadyH.nil
      go_simp
      refine hK.out _ _ hS2 (fun _=>?_)
      clear hK
      refine wpAnyH_ready (rs:=[10]) (by kernel_rfl) (by simp) ?_
      refine AllReadyH.cons rfl (fun K hK=>?_) AllReadyH.nil
      go_simp
      refine hK.out _ _ (hS3 _) (fun _=>?_)
      clear hK
      refine wpAnyH_done (by kernel_rfl) ?_ _
      refine onlyN_is1 ?_
      go_wp2_with fail
      refine ⟨⟨r2,_,rfl,rfl,HKJ⟩,?_⟩
      have hlt:=HLT.out
      simp [bnOf,szOf] at hlt ⊢
      try omega
theorem kj_start {w w1:World} {wo:Lard.Wo} {c:Int} {y:Value} {r:ByteArray} {q:Option Lard.Keep} (g:G w) (hB1:Below w.heap.size w w1) (hw:IsW w1 wo (.agg #[.int .i64 c,y])) (hq:(Lard.rdAll r.data.toList []).map (fun ns=>(⟨wo,ns⟩:Lard.Keep))=q) (hr:r.size≤1000000) :
  KJ w (w1.heap.size + 1) (w1.heap.size + 1 + 1) c y wo q r true (((w1.alloc (.cells #[.int .i64 c,y] 113)).alloc (.cells #[.int .i64 c,y,.slice none 0 0] 131)).alloc (.map #[] 0)):=by
 have hBw:Below w1.heap.size w1 (((w1.alloc (.cells #[.int .i64 c,y] 113)).alloc (.cells #[.int .i64 c,y,.slice none 0 0] 131)).alloc (.map #[] 0)):=(((Below.refl _ w1).alloc (Nat.le_refl _) _).alloc (by simp) _).alloc (by simp; omega) _
 have hs:=hB1.size
 refine .inl ⟨rfl,[],.slice none 0 0,⟨hB1.trans (hBw.mono hs),by omega,?_,hw.st (Stay.below hBw),⟨[],World.ownsRow_nil _ _ _ _,rfl,fun i n q hn=>by simp at hn⟩,fun g hg=>by cases hg⟩,?_,hq,by simpa using hr⟩
 ·have:=heap_alloc_new (w1.alloc (.cells #[.int .i64 c,y] 113)) (.cells #[.int .i64 c,y,.slice none 0 0] 131)
  rw [World.size_alloc] at this
  exact (Below.heap_alloc _ _ _ (by simp)).trans this
 ·have:=mapAt_new ((w1.alloc (.cells #[.int .i64 c,y] 113)).alloc (.cells #[.int .i64 c,y,.slice none 0 0] 131))
  simp only [World.size_alloc] at this
  exact this
theorem readKeeping_any (s:ByteArray) (w:World) (g:G w) (hmx:Mx w) (hs:s.size≤1000000) :
  Calls Tryz.prog 142 #[.string s] w (KrPost w (Lard.rdKeep s.data.toList)):=by
 have HRW:=hide (readWorth_any s w g hs)
 have hmm:=mapInt
 have HG:=hide (And.intro g hmx)
 generalize hq0:Lard.rdKeep s.data.toList=q
 rw [Lard.rdKeep_all] at hq0
 have HQ:=hide hq0
 clear hq0 g hmx
 obtain ⟨c4,h4⟩:∃ c,tailJ 4 (Tryz.f142.body.getD .skip)=c:=⟨_,rfl⟩
 have H4:=hide h4
 simp only [tailJ,Tryz.f142,Option.getD] at h4
 go_enter Tryz.func142,Tryz.ntmps142
 rw [h4]
 clear h4
 go_wp2_with fail
 refine HRW.out.mono ?_
 rintro e w1 ⟨hB1,hq⟩
 rcases hq with ⟨wo,c,y,r,h1,rfl,hy,hw⟩ | ⟨h1,rfl⟩
 ·dsimp only
  have hq:=HQ.out
  rw [h1] at hq
  have hrs:r.size≤1000000:=by
   have:=Lard.rdWo_len h1
   rw [size_data] at hs ⊢
   omega
  have HJ:=hide (kj_start HG.out.1 hB1 hw hq hrs)
  have hsz:=hB1.size
  clear HQ HRW h1 hq hw
  rcases hy with rfl | ⟨t,a,rfl⟩
  all_goals
   go_wp2_with fail
   rw [←H4.out]
   exact rk_loop _ _ _ _ _ _ _ _ _ _ _ _ _ _ _ _ _ _ _ _ _ _ HG.out.1 HG.out.2 (by omega) HJ.out
 ·dsimp only
  have hq:=HQ.out
  rw [h1] at hq
  have hsz:=hB1.size
  have HJ:Hid (KJ w (w1.heap.size + 1) (w1.heap.size + 1 + 1) 0 .nilIface (.error 0) q ⟨#[]⟩ false (((w1.alloc (.cells #[.int .i64 0,.nilIface] 113)).alloc (.cells #[.int .i64 0,.nilIface,.slice none 0 0] 131)).alloc (.map #[] 0))):=hide (.inr ⟨rfl,hq.symm,hB1.trans (Below.mono ((((Below.refl _ w1).alloc (Nat.le_refl _) _).alloc (by simp) _).alloc (by simp; omega) _) hsz)⟩)
  clear HQ HRW h1 hq
  go_wp2_with fail
  rw [←H4.out]
  exact rk_loop _ _ _ _ _ _ _ _ _ _ _ _ _ _ _ _ _ _ _ _ _ _ HG.out.1 HG.out.2 (by omega) HJ.out
end
section
set_option maxRecDepth 100000
set_option maxHeartbeats 1000000
open Go.RowKit Go.Shelf
theorem cut_says (tb ab rb:ByteArray) (c:UInt8) (b:Bool) (h:Lib.cut tb.data.toList [c]=(ab.data.toList,rb.data.toList,b)) (w:World) (hs:tb.size≤1000000) (hm:Mx w) :
  Calls Tryz.prog 100 #[.string tb,.string ⟨#[c]⟩] w fun e w'=>e=.returned (.tuple #[.string ab,.string rb,.bool b])∧Below w.heap.size w w':=by
 have:=cut_text tb c w hs hm
 rw [h] at this
 simpa only [str_bytes] using this
theorem redo_line {w:World} {lb:Nat} {tb rb kb vb A:ByteArray} {b:Bool} {RR:World→Prop} (hm:Mx w) (h8:8≤w.heap.size) (ht:tb.data.toList=A.data.toList++32 :: rb.data.toList) (hA:∀ x∈A.data.toList,x≠32) (h2:Lib.cut rb.data.toList [32]=(kb.data.toList,vb.data.toList,b)) (hs:tb.size≤1000000)
  (hc:(A=⟨#[112,117,116]⟩∧∀ w1,Below w.heap.size w w1→Calls Tryz.prog 23 #[ptr lb,.string kb,.string vb] w1 fun e w'=>e=.returned (.int .i64 0)∧RR w') ∨
   (A=⟨#[115,101,116]⟩∧∀ w1,Below w.heap.size w w1→Calls Tryz.prog 25 #[ptr lb,.string kb,.string vb] w1 fun e w'=>e=.returned (.tuple #[.int .i64 0,.int .i64 0])∧RR w') ∨
   (A=⟨#[107,101,101,112]⟩∧∀ w1,Below w.heap.size w w1→Calls Tryz.prog 101 #[ptr lb,.string kb,.string vb] w1 fun e w'=>e=.returned (.bool true)∧RR w') ∨
   (A=⟨#[100,114,111,112]⟩∧∀ w1,Below w.heap.size w w1→Calls Tryz.prog 47 #[ptr lb,.string rb] w1 fun e w'=>e=.returned (.int .i64 0)∧RR w') ∨
   (A=⟨#[108,111,115,101]⟩∧∀ w1,Below w.heap.size w w1→Calls Tryz.prog 75 #[ptr lb,.string rb] w1 fun e w'=>e=.returned (.int .i64 0)∧RR w')) :
  Calls Tryz.prog 63 #[ptr lb,.string tb] w fun e w'=>e=.returned (.bool true)∧RR w':=by
 have hrs:rb.size≤1000000:=by
  rw [size_data] at hs ⊢
  rw [ht] at hs
  simp at hs ⊢
  omega
 have HC1:=hide (cut_says tb A rb 32 true (by rw [ht]; exact Lard.cut_there hA) w hs hm)
 have HC2:=hide (fun w1 (hB:Below w.heap.size w w1)=>cut_says rb kb vb 32 b h2 w1 hrs (hm.below hB (by omega)))
 clear ht hA h2 hrs hs hm
 unfold ptr at hc ⊢
 rcases hc with ⟨rfl,HP⟩ | ⟨rfl,HP⟩ | ⟨rfl,HP⟩ | ⟨rfl,HP⟩ | ⟨rfl,HP⟩
 all_goals
  have HPP:=hide HP
  clear HP
  go_enter Tryz.func63,Tryz.ntmps63
  go_wp2_with fail
  refine HC1.out.mono ?_
  rintro e w1 ⟨rfl,hB1⟩
  dsimp only
  go_wp2_with fail
  refine (HC2.out w1 hB1).mono ?_
  rintro e w2 ⟨rfl,hB2⟩
  have hB3:=hB1.trans (hB2.mono hB1.size)
  have HP2:=hide (HPP.out w2 hB3)
  clear HPP HC1 HC2
  dsimp only
  go_wp2_with fail
  refine HP2.out.mono ?_
  rintro e w3 ⟨rfl,hR⟩
  dsimp only
  go_wp2_with fail
  go_ret
  exact ⟨rfl,hR⟩
end
section
set_option maxRecDepth 100000
set_option maxHeartbeats 1000000
open Go.RowKit Go.Shelf
theorem la_forget {w:World} {lb:Nat} {s:Lard.LS} {L:Nat→Prop} {N:Nat} (h:La w lb s L N) (key:ByteArray) (kp:Lard.Keep) (hn:Lard.isName key.data.toList=true) (hk:Lard.keptOf s.has key.data.toList=some kp) (hN:N≤10000000000000) :
  Calls Tryz.prog 75 #[ptr lb,.string key] w fun e w'=>e=.returned (.int .i64 0)∧LaPost w lb L (s.lose key.data.toList) (N + 2000) w':=by
 have hk8:=name_len hn
 have hk8':key.size≤8:=by rw [size_data]; exact hk8
 obtain ⟨th,hlk⟩:=Option.isSome_iff_exists.1 (Lard.kept_look hk)
 have HNM:=isName_any key w h.g (by omega)
 rw [hn] at HNM
 have HN:=hide HNM
 have HK:=hide (fun w1 (hB:Below w.heap.size w w1)=>keptOf_any w1 lb s L key (h.below hB).lat (by omega))
 have hj:(jbytes (s.lose key.data.toList).jr).length≤N + 2000:=by
  show (jbytes (s.jr++[_])).length≤_
  rw [jr_snoc]
  have:=h.jr
  simp
  omega
 have HL:=hide (fun w1 (hB:Below w.heap.size w w1)=>(lose_any w1 lb s L key th (h.below hB).lat (h.below hB).g (h.below hB).deb hlk (by omega) (by omega)).mono (R':=fun e w'=>e=.returned (.tuple #[])∧LaPost w lb L (s.lose key.data.toList) (N + 2000) w') (by
  rintro e w' ⟨rfl,hP⟩
  exact ⟨rfl,LaPost.from hB ((h.below hB).post hP.weak (h.sound.lose _) hj)⟩))
 clear HNM hj hlk hn
 unfold ptr at HK HL ⊢
 go_enter Tryz.func75,Tryz.ntmps75
 go_wp2_with fail
 refine HN.out.mono ?_
 rintro e w1 ⟨rfl,hB1⟩
 dsimp only
 go_wp2_with fail
 refine (HK.out w1 hB1).mono ?_
 rintro e w2 ⟨⟨v,rfl,hv⟩,hw2⟩
 obtain rfl:=hw2.symm
 rcases hv with ⟨h0,_⟩ | ⟨kp',kb,h0,rfl,_⟩
 ·rw [hk] at h0; cases h0
 unfold ptr
 dsimp only
 have HL2:=hide (HL.out _ hB1)
 clear HL HK HN h
 go_wp2_with fail
 refine HL2.out.mono ?_
 rintro e w3 ⟨rfl,hP⟩
 dsimp only
 go_wp2_with fail
 go_ret
 exact ⟨rfl,hP⟩
theorem src_inr {h:List (List UInt8×Lard.Thing)} {k:List UInt8} {t:Lard.T} (e:Lard.srcOf h k=some (.inr t)):∃ th,Lard.look h k=some th∧th.tree=some t:=by
 unfold Lard.srcOf at e
 cases hl:Lard.look h k with
 |none=>rw [hl] at e; cases e
 |some th =>
  rw [hl] at e
  refine ⟨th,rfl,?_⟩
  cases ht:th.tree with
  |none=>simp [ht] at e
  |some t'=>simp [ht] at e; rw [e]
theorem la_redoKeep {w:World} {lb:Nat} {s:Lard.LS} {L:Nat→Prop} {N:Nat} (h:La w lb s L N) (hmx:Mx w) (key text:ByteArray) (t:Lard.T) (kp:Lard.Keep) (hn:Lard.isName key.data.toList=true) (hsrc:Lard.srcOf s.has key.data.toList=some (.inr t)) (hrd:Lard.rdKeep text.data.toList=some kp) (hlen:kp.needs.length≤401) (hs:Lard.Sound (s.keep key.data.toList kp)) (hts:text.size≤200000) (hkt:(Lard.keepText key.data.toList kp).length≤200000) (hN:N≤10000000000000) :
  Calls Tryz.prog 101 #[ptr lb,.string key,.string text] w fun e w'=>e=.returned (.bool true)∧LaPost w lb L (s.keep key.data.toList kp) (N + 300000) w':=by
 have hk8:=name_len hn
 have hk8':key.size≤8:=by rw [size_data]; exact hk8
 have hkl:key.data.toList.length≤maxLen:=by rw [←size_data]; unfold maxLen; omega
 obtain ⟨th,hlk,htr⟩:=src_inr hsrc
 obtain ⟨hb,db,vb,vr,vn,vj,h0⟩:=h.lat
 have c0:w.cell? ⟨lb,0,none⟩=some (.map (some hb)):=by simp [World.cell?,h0.blk]
 obtain ⟨p,hth,hrun⟩:=h0.has.at hlk
 have hr:=hrun true hkl
 rw [str_bytes] at hr
 simp only [if_true] at hr
 obtain ⟨v0,r0,k0,hb0,_,_,hkind,_⟩:=hth
 have c1:w.cell? ⟨p,1,none⟩=some r0:=by simp [World.cell?,hb0]
 rcases hkind with ⟨h1,_⟩ | ⟨t',a,h1,rfl,_⟩
 ·rw [htr] at h1; cases h1
 have HRK:=hide (readKeeping_any text w h.g hmx (by omega))
 have hj:(jbytes (s.keep key.data.toList kp).jr).length≤N + 300000:=by
  show (jbytes (s.jr++[_])).length≤_
  rw [jr_snoc]
  have:=h.jr
  omega
 have HK:=hide (fun w1 kb c y sl (hw:KW w w1 kb c y sl kp.needs kp.worth)=>show Calls Tryz.prog 143 #[ptr lb,.string key,ptr kb] w1 (fun e w'=>e=.returned (.tuple #[])∧LaPost w lb L (s.keep key.data.toList kp) (N + 300000) w') from by
  have hB:=hw.bel
  obtain ⟨L2,g1,g2,g3⟩:=(LPost.below h.lat hB).keepAt h.g.size hw.blk hw.new hw.nd hw.own hw.isw hlen
  refine (keep_any w1 lb s L2 key th kp kb g1 (h.below hB).g (h.below hB).deb hlk (by rw [htr]; exact fun e=>by cases e) g2 (by omega) (by omega)).mono ?_
  rintro e w' ⟨rfl,hP⟩
  exact ⟨rfl,h.post (g3 _ _ hP).weak hs hj⟩)
 clear hj hs hlk hrun h0 hb0
 unfold ptr at HK hr ⊢
 go_enter Tryz.func101,Tryz.ntmps101
 go_wp2_with fail
 refine HRK.out.mono ?_
 rintro e w1 ⟨hB1,hq⟩
 rw [hrd] at hq
 rcases hq with ⟨kp',kb,c,y,sl,hq,rfl,hw⟩ | ⟨hq,_⟩
 ·cases hq
  unfold ptr
  dsimp only
  have HK2:=hide (HK.out w1 kb c y sl hw)
  clear HK HRK hw h
  go_wp2_with fail
  refine HK2.out.mono ?_
  rintro e w3 ⟨rfl,hP⟩
  dsimp only
  go_wp2_with fail
  go_ret
  exact ⟨rfl,hP⟩
 ·cases hq
theorem give_room2 {s:Lard.LS} {key:List UInt8} {th:Lard.Thing} (h:(Lard.look s.has key).isSome=true∨s.has.length < 40):s.give key th=(0,s.gv key th):=by
 unfold Lard.LS.give
 rw [if_neg]
 ·rfl
 ·rintro ⟨h1,h2⟩
  rcases h with h | h
  ·cases hl:Lard.look s.has key with
   |none=>rw [hl] at h; cases h
   |some x=>rw [hl] at h1; cases h1
  ·omega
theorem la_redo {w:World} {lb:Nat} {s:Lard.LS} {L:Nat→Prop} {N:Nat} (h:La w lb s L N) (hmx:Mx w) (tb:ByteArray) {h':List (List UInt8×Lard.Thing)} (hl:Lard.Ln s.has tb.data.toList h') (hs:tb.size≤200000) (hN:N≤10000000000000) :
  Calls Tryz.prog 63 #[ptr lb,.string tb] w fun e w'=>e=.returned (.bool true)∧LaPost w lb L { s with has:=h',jr:=s.jr++[tb.data.toList] } (N + 300000) w':=by
 have hjr:=h.jr
 have hmxB:∀ w1,Below w.heap.size w w1→Mx w1:=fun w1 hB=>hmx.below hB (by have:=h.g.size; omega)
 have hts:tb.data.toList.length≤200000:=by rw [←size_data]; exact hs
 have hJ:(jbytes (s.jr++[tb.data.toList])).length≤N + 300000:=by
  rw [jr_snoc]
  omega
 have hblank:∀ {k:List UInt8},Lard.isName k=true→∀ x∈k,x≠32:=fun hn x hx=>(Lard.key_bytes (Lard.name_key hn) x hx).2.2
 generalize htt:tb.data.toList=t at hl hts hJ ⊢
 cases hl using Lard.Ln.cs with
 |@put key v h1 h2 h3 =>
  obtain ⟨kb,rfl⟩:=byteOf key
  obtain ⟨vb,hvb⟩:=byteOf (Lard.wr 3 v)
  obtain ⟨rb,hrb⟩:=byteOf (kb.data.toList++32 :: vb.data.toList)
  have hS:=(Lard.Ln.put h1 h2 h3).sound h.sound rfl
  have htx:Lard.thingText kb.data.toList ⟨v,none,[],none⟩=[112,117,116]++32 :: rb.data.toList:=by rw [hrb,hvb]; rfl
  have hvs:vb.size≤200000:=by
   rw [htx,hrb] at hts
   simp at hts
   omega
  refine redo_line (A:=⟨#[112,117,116]⟩) (kb:=kb) (vb:=vb) (rb:=rb) (b:=true) hmx h.g.size (by rw [htt,htx]) (by decide) (by rw [hrb]; exact Lard.cut_there (hblank h1)) (by omega) (.inl ⟨rfl,fun w1 hB=>?_⟩)
  have hput:s.putC kb.data.toList vb.data.toList=(0,s.gv kb.data.toList ⟨v,none,[],none⟩):=by
   unfold Lard.LS.putC
   rw [if_neg (by rw [h1]; exact fun e=>by cases e),hvb,Lard.rdV_wr h2]
   exact give_room2 h3
  have hk8:=name_len h1
  have:=put_any w1 lb kb vb s L (h.below hB).lat (h.below hB).g (h.below hB).deb (by rw [size_data]; omega) (by omega) h.sound.len (by omega)
  rw [hput] at this
  refine this.mono ?_
  rintro e w' ⟨rfl,hP⟩
  exact ⟨rfl,LaPost.from hB ((h.below hB).post hP hS hJ)⟩
 |@set key came h1 h2 h3 h4 h5 =>
  obtain ⟨kb,rfl⟩:=byteOf key
  obtain ⟨vb,rfl⟩:=byteOf came
  obtain ⟨rb,hrb⟩:=byteOf (kb.data.toList++32 :: vb.data.toList)
  have hS:=(Lard.Ln.set h1 h2 h3 h4 h5).sound h.sound rfl
  have htx:Lard.thingText kb.data.toList ⟨Lard.vn 0,some (Lard.treeOf vb.data.toList),vb.data.toList,none⟩=[115,101,116]++32 :: rb.data.toList:=by rw [hrb]; rfl
  refine redo_line (A:=⟨#[115,101,116]⟩) (kb:=kb) (vb:=vb) (rb:=rb) (b:=true) hmx h.g.size (by rw [htt,htx]) (by decide) (by rw [hrb]; exact Lard.cut_there (hblank h1)) (by omega) (.inr (.inl ⟨rfl,fun w1 hB=>?_⟩))
  have:=set_ok w1 lb kb vb s L _ (h.below hB).lat (h.below hB).g (h.below hB).deb h1 (ruleT_of h2 h3) h.sound.len (by omega)
  rw [give_room2 h5] at this
  refine this.mono ?_
  rintro e w' ⟨rfl,hP⟩
  exact ⟨rfl,LaPost.from hB ((h.below hB).post hP hS hJ)⟩
 |@drop key h1 h2 =>
  obtain ⟨kb,rfl⟩:=byteOf key
  refine redo_line (A:=⟨#[100,114,111,112]⟩) (kb:=kb) (vb:=⟨#[]⟩) (rb:=kb) (b:=false) hmx h.g.size (by rw [htt]; rfl) (by decide) (by rw [Lard.cut_not (hblank h1)]) (by omega) (.inr (.inr (.inr (.inl ⟨rfl,fun w1 hB=>?_⟩))))
  refine (la_drop (h.below hB) kb h1 hN).mono ?_
  rintro e w' ⟨c,s',rfl,hc,hP⟩
  rcases hc with ⟨rfl,_,rfl⟩ | ⟨_,hno,_⟩
  ·refine ⟨rfl,LaPost.from hB ?_⟩
   obtain ⟨L',a,b⟩:=hP
   exact ⟨L',a.le (by omega),b⟩
  ·rw [h2] at hno; cases hno
 |@lose key kp h1 h2 =>
  obtain ⟨kb,rfl⟩:=byteOf key
  refine redo_line (A:=⟨#[108,111,115,101]⟩) (kb:=kb) (vb:=⟨#[]⟩) (rb:=kb) (b:=false) hmx h.g.size (by rw [htt]; rfl) (by decide) (by rw [Lard.cut_not (hblank h1)]) (by omega) (.inr (.inr (.inr (.inr ⟨rfl,fun w1 hB=>?_⟩))))
  refine (la_forget (h.below hB) kb kp h1 h2 hN).mono ?_
  rintro e w' ⟨rfl,hP⟩
  refine ⟨rfl,LaPost.from hB ?_⟩
  obtain ⟨L',a,b⟩:=hP
  exact ⟨L',a.le (by omega),b⟩
 |@keep key t kp h1 h2 h3 h4 h5 =>
  obtain ⟨kb,rfl⟩:=byteOf key
  obtain ⟨vb,hvb⟩:=byteOf (Lard.woText kp.worth++kp.needs.flatMap Lard.needText)
  obtain ⟨rb,hrb⟩:=byteOf (kb.data.toList++32 :: vb.data.toList)
  have hS:=(Lard.Ln.keep h1 h2 h3 h4 h5).sound h.sound rfl
  have htx:Lard.keepText kb.data.toList kp=[107,101,101,112]++32 :: rb.data.toList:=by rw [hrb,hvb]; simp [Lard.keepText]
  have hvs:vb.size≤200000:=by
   rw [htx,hrb] at hts
   simp at hts
   omega
  refine redo_line (A:=⟨#[107,101,101,112]⟩) (kb:=kb) (vb:=vb) (rb:=rb) (b:=true) hmx h.g.size (by rw [htt,htx]) (by decide) (by rw [hrb]; exact Lard.cut_there (hblank h1)) (by omega) (.inr (.inr (.inl ⟨rfl,fun w1 hB=>?_⟩)))
  refine (la_redoKeep (h.below hB) (hmxB w1 hB) kb vb t kp h1 h2 (by rw [hvb]; exact (Lard.kept_reads (h.sound.ef.rule _ _ h2) h3 h4 h5).2) (Lard.hon_few h3) hS hvs hts hN).mono ?_
  rintro e w' ⟨rfl,hP⟩
  exact ⟨rfl,LaPost.from hB hP⟩
end
end Go.Proofs.YtpekpdimdelncaaGreatDoor
