/- Out of: J15, J16, J17. -/
import Derived.Test.YtpekpdimdelncaaGreatDoorP38
import Derived.Test.YtpekpdimdelncaaGreatDoorP40
import Derived.Test.YtpekpdimdelncaaGreatDoorP41
import Derived.Test.YtpekpdimdelncaaGreatDoorP45
set_option linter.unusedVariables false
set_option linter.unusedSimpArgs false
namespace Go.Proofs.YtpekpdimdelncaaGreatDoor
section
set_option maxRecDepth 100000
set_option maxHeartbeats 8000000
open Go.RowKit Go.Shelf
theorem filter_lines (p:List UInt8→Bool):∀ l:List (List UInt8),((l.filter p).flatMap Lard.line).length≤(l.flatMap Lard.line).length
 |[]=>Nat.le_refl _
 |t :: l=>by
  have:=filter_lines p l
  rw [List.filter_cons]
  split
  ·rw [List.flatMap_cons,List.flatMap_cons,List.length_append,List.length_append]; omega
  ·rw [List.flatMap_cons,List.length_append]; omega
theorem cw_make {w0 w wp wq wb:World} {lb hb qb pb bb:Nat} {s q p b:Lard.LS} {L Lq Lp Lb:Nat→Prop} {N:Nat} {H:Nat→Nat×List UInt8} (hl:HL w0 w lb hb s L N H) (hN:200000≤N)
  (h1:La wp pb p Lp 200000) (h2:∀ k,Lp k→w.heap.size≤k) (h3:Below w.heap.size w wp) (g1:La wq qb q Lq 200000) (g2:∀ k,Lq k→wp.heap.size≤k) (g3:Below wp.heap.size wp wq) (f1:La wb bb b Lb 200000) (f2:∀ k,Lb k→wq.heap.size≤k) (f3:Below wq.heap.size wq wb) (hs:Lard.srcOf p.has=Lard.srcOf b.has):CW w0 wb lb hb qb pb bb s q p b L Lq Lp Lb N H:=by
 have e1:=h3.size
 have e2:=g3.size
 have e3:=f3.size
 have e0:=hl.bel.size
 have hlt:=hl.hm.lt
 have l1:∀ k,L k→k < w.heap.size:=fun k hk=>(hl.la.lat.lt hk).2
 have l2:∀ k,Lp k→k < wp.heap.size:=fun k hk=>(h1.lat.lt hk).2
 have l3:∀ k,Lq k→k < wq.heap.size:=fun k hk=>(g1.lat.lt hk).2
 refine ⟨((hl.below h3).below g3).below f3,(g1.below f3).le hN,((h1.below g3).below f3).le hN,f1.le hN,fun k hk=>?_,fun k hk=>?_,fun k hk=>?_,fun k hk hb=>?_,hs⟩
 ·have:=g2 k hk
  exact ⟨by omega,by omega,fun h=>by have:=l1 k h; omega⟩
 ·have:=h2 k hk
  exact ⟨by omega,by omega,(fun h=>by have:=l1 k h; omega),fun h=>by have:=g2 k h; have:=l2 k hk; omega⟩
 ·have:=f2 k hk
  exact ⟨by omega,by omega,(fun h=>by have:=l1 k h; omega),fun h=>by have:=l3 k h; omega⟩
 ·have:=f2 k hb
  have:=l2 k hk
  omega
theorem ct_open {E:Ending→World→Prop} (w0 w:World) (lb hb:Nat) (s:Lard.LS) (L:Nat→Prop) (N:Nat) (H:Nat→Nat×List UInt8) (o:Option Addr) (len cap:Nat) (K Y Z:Nat→Int) (tb:ByteArray) (k wh m:Nat) (pp:List UInt8) (h:List (List UInt8×Lard.Thing)) (v0 v1 v3 v4 v5 v6 v7 v9 v13 v14 v17 u31 u32 u33 u34 u35 u36 u37 u38 u39 u40 u41 u42 u43 u44 u45 u46 u47 u48 u49 u50 u51 u52 u53 u54 u55 u56 u57 u58 u59 u60 u61 u62 u63 u64 u65 u66 u67 u68 u69 u70 u71 u72 u73 u74 u75 u76:Value)
  (hv:StepsAt w0 o len K Y Z) (hl:HL w0 w lb hb s L N H) (hN:200000≤N∧N≤500000000000) (hmx:Mx w) (hst:Lard.Sto s.jr h) (hlook:∀ k,Lard.look s.has k=Lard.look h k) (hnd:(h.map (·.1)).Nodup) (htb:tb.data.toList=s.jr.flatMap Lard.line) (hsz:tb.size≤200000) (hk:k≤tb.size) (hm:(s.jr.flatMap Lard.line).take k=(s.jr.take m).flatMap Lard.line++pp) (hpp:Lard.No10 pp) (hwh:wh=((s.jr.take m).flatMap Lard.line).length)
  (hE:∀ w',Below w0.heap.size w0 w'→E (.returned (.bool true)) w') :
  Code.wp Tryz.prog (tailJ 11 (Tryz.f12.body.getD .skip)) (bodyPost Tryz.prog Tryz.f12 E) { tmps:=#[v0,v1,.slice o len cap,v3,v4,v5,v6,v7,.bool false,v9,.slice (some ⟨hb,0,none⟩) 8 8,.pointer (some ⟨lb,0,none⟩),.string tb,v13,v14,.int .i64 (k:Int),.int .i64 (wh:Int),v17,undef,undef,undef,undef,undef,undef,undef,undef,undef,undef,undef,undef,undef,u31,u32,u33,u34,u35,u36,u37,u38,u39,u40,u41,u42,u43,u44,u45,u46,u47,u48,u49,u50,u51,u52,u53,u54,u55,u56,u57,u58,u59,u60,u61,u62,u63,u64,u65,u66,u67,u68,u69,u70,u71,u72,u73,u74,u75,u76,undef,undef,undef,undef,undef,undef,undef,undef,undef,undef,undef,undef,undef,undef,undef,undef,undef,undef,undef,undef,undef,undef,undef,undef,undef,undef,undef,undef,undef,undef,undef,undef,undef,undef,undef,undef,undef,undef,undef,undef,undef,undef,undef,undef,undef,undef,undef,undef,undef,undef,undef,undef,undef,undef,undef,undef,undef,undef,undef,undef,undef,undef,undef,undef,undef,undef,undef,undef,undef,undef,undef,undef,undef,undef,undef,undef,undef,undef,undef,undef,undef,undef,undef,undef,undef,undef,undef],defers:=[] } w:=by
 obtain ⟨hp,hsp⟩:=hst.pre m
 obtain ⟨h0,hs0,hsrc,_⟩:=hsp.bare
 have hwk:wh≤k:=by
  have:=congrArg List.length hm
  rw [List.length_take,List.length_append,←hwh] at this
  omega
 have hxk:(tb.extract 0 k).data.toList=(s.jr.take m).flatMap Lard.line++pp:=by rw [Lib.extract_data,List.drop_zero,Nat.sub_zero,htb,hm]
 have hxw:(tb.extract 0 wh).data.toList=(s.jr.take m).flatMap Lard.line:=by
  rw [Lib.extract_data,List.drop_zero,Nat.sub_zero,htb]
  have e1:(s.jr.flatMap Lard.line).take wh=((s.jr.flatMap Lard.line).take k).take wh:=by rw [List.take_take,Nat.min_eq_left hwk]
  rw [e1,hm,hwh]
  exact List.take_left' rfl
 have hxks:(tb.extract 0 k).size≤200000:=by
  rw [size_data,hxk,←hm,List.length_take,←htb,←size_data]
  omega
 have hxws:(tb.extract 0 wh).size≤1000000:=by
  rw [size_data,hxw,←hwh]
  omega
 have hputs:Lard.putsF (tb.extract 0 wh).data.toList [] []=((s.jr.take m).filter Lard.bareL).flatMap Lard.line:=by
  rw [hxw,Lard.putsF_lines _ (sto_no10 hsp),List.nil_append]
 have h8:=hl.la.g.size
 have HO1:=hide (open_any w hl.la.g hl.la.deb hmx (tb.extract 0 k) _ pp hp hsp hpp hxk hxks)
 have HO2:=hide (fun w1 (hB:Below w.heap.size w w1)=>open_any w1 (hl.below hB).la.g (hl.below hB).la.deb (hmx.below hB (by omega)) tb s.jr [] h hst (fun c hc=>by cases hc) (by rw [htb,List.append_nil]) hsz)
 have HPU:=hide (fun w1=>puts_any (tb.extract 0 wh) w1 hxws)
 rw [hputs] at HPU
 obtain ⟨ub,hub⟩:=byteOf (((s.jr.take m).filter Lard.bareL).flatMap Lard.line)
 have hubs:ub.size≤200000:=by
  rw [size_data,hub]
  have e1:=filter_lines Lard.bareL (s.jr.take m)
  rw [←hwh] at e1
  omega
 have hus:str (((s.jr.take m).filter Lard.bareL).flatMap Lard.line)=.string ub:=by rw [←hub,str_bytes]
 rw [hus] at HPU
 have HO3:=hide (fun w1 (hB:Below w.heap.size w w1)=>open_any w1 (hl.below hB).la.g (hl.below hB).la.deb (hmx.below hB (by omega)) ub _ [] h0 hs0 (fun c hc=>by cases hc) (by rw [hub,List.append_nil]) hubs)
 have HL0:=hide (And.intro hl (And.intro hv (And.intro hlook (And.intro hnd (And.intro hsrc hE)))))
 have hki:(k:Int)≤(tb.size:Int):=by omega
 have hwi:(wh:Int)≤(tb.size:Int):=by omega
 have hjp:str (jbytes (Lard.LS.of hp (s.jr.take m)).jr)=.string (tb.extract 0 wh):=by rw [←str_bytes,hxw]; rfl
 have hjq:str (jbytes (Lard.LS.of h s.jr).jr)=.string tb:=by rw [←str_bytes,htb]; rfl
 clear hl hv hlook hnd hE hmx hst hsp hs0 hsrc hm hpp hputs hub hubs hus hxk hxks hxws hwh hxw htb
 obtain ⟨c16,h16⟩:∃ c,tailJ 16 (Tryz.f12.body.getD .skip)=c:=⟨_,rfl⟩
 have H16:=hide h16
 simp only [tailJ,Tryz.f12,Option.getD] at h16
 obtain ⟨cd,hcd⟩:∃ cd,tailJ 11 (Tryz.f12.body.getD .skip)=cd:=⟨_,rfl⟩
 rw [hcd]
 simp only [tailJ,Tryz.f12,Option.getD] at hcd
 rw [h16] at hcd
 subst hcd
 clear h16
 go_wp2_with fail
 refine HO1.out.mono ?_
 rintro e wp ⟨pb,Lp,rfl,p1,p2,p3⟩
 unfold ptr
 dsimp only
 have HO2b:=hide (HO2.out wp p3)
 clear HO1 HO2
 go_wp2_with fail
 refine HO2b.out.mono ?_
 rintro e wq ⟨qb,Lq,rfl,q1,q2,q3⟩
 unfold ptr
 dsimp only
 have HJ1:=hide (journal_any wq.drew pb _ Lp ((p1.below q3).below ((Below.refl _ wq).drew)).lat)
 have HJ2:=hide (journal_any wq.drew qb _ Lq (q1.below ((Below.refl _ wq).drew)).lat)
 have HPQ:=hide (And.intro p1 (And.intro p2 (And.intro p3 (And.intro q1 (And.intro q2 q3)))))
 clear p1 p2 p3 q1 q2 q3 HO2b
 unfold ptr at HJ1 HJ2
 rw [hjp] at HJ1
 rw [hjq] at HJ2
 clear hjp hjq
 go_wp2_with fail
 refine wp_nrm1 ?_
 refine wp_region_held_drew (S:=fun w'=>w'=wq.drew) (by kernel_rfl) rfl (fun hHeld=>?_)
 refine wpAnyH_take (i:=0) (v:=?_) rfl (by kernel_rfl) (by kernel_rfl) (by kernel_rfl) (fun _ _ _ h=>h) (Or.inl ⟨by kernel_rfl,?_⟩) rfl ?_
 rotate_left
 ·rintro w' rfl
  go_simp
  try with_reducible rfl
 simp only [Act.put,List.getElem_toArray,List.getElem_cons_succ,List.getElem_cons_zero,List.setIfInBounds_toArray,List.set_cons_zero,List.set_cons_succ]
 refine wpAnyH_take (i:=1) (v:=?_) rfl (by kernel_rfl) (by kernel_rfl) (by kernel_rfl) (fun _ _ _ h=>h) (Or.inl ⟨by kernel_rfl,?_⟩) rfl ?_
 rotate_left
 ·rintro w' rfl
  go_simp
  try with_reducible rfl
 simp only [Act.put,List.getElem_toArray,List.getElem_cons_succ,List.getElem_cons_zero,List.setIfInBounds_toArray,List.set_cons_zero,List.set_cons_succ]
 refine wpAnyH_take (i:=2) (v:=?_) rfl (by kernel_rfl) (by kernel_rfl) (by kernel_rfl) (fun _ _ _ h=>h) (Or.inl ⟨by kernel_rfl,?_⟩) rfl ?_
 rotate_left
 ·rintro w' rfl
  go_simp
  try with_reducible rfl
 simp only [Act.put,List.getElem_toArray,List.getElem_cons_succ,List.getElem_cons_zero,List.setIfInBounds_toArray,List.set_cons_zero,List.set_cons_succ]
 refine wpAnyH_take (i:=3) (v:=?_) rfl (by kernel_rfl) (by kernel_rfl) (by kernel_rfl) (fun _ _ _ h=>h) (Or.inl ⟨by kernel_rfl,?_⟩) rfl ?_
 rotate_left
 ·rintro w' rfl
  go_simp
  try with_reducible rfl
 simp only [Act.put,List.getElem_toArray,List.getElem_cons_succ,List.getElem_cons_zero,List.setIfInBounds_toArray,List.set_cons_zero,List.set_cons_succ]
 refine wpAnyH_take (i:=4) (v:=?_) rfl (by kernel_rfl) (by kernel_rfl) (by kernel_rfl) (fun _ _ _ h=>h) (Or.inl ⟨by kernel_rfl,?_⟩) rfl ?_
 rotate_left
 ·rintro w' rfl
  go_simp
  try with_reducible rfl
 simp only [Act.put,List.getElem_toArray,List.getElem_cons_succ,List.getElem_cons_zero,List.setIfInBounds_toArray,List.set_cons_zero,List.set_cons_succ]
 refine wpAnyH_take (i:=5) (v:=?_) rfl (by kernel_rfl) (by kernel_rfl) (by kernel_rfl) (fun _ _ _ h=>h) (Or.inl ⟨by kernel_rfl,?_⟩) rfl ?_
 rotate_left
 ·rintro w' rfl
  go_simp
  try with_reducible rfl
 simp only [Act.put,List.getElem_toArray,List.getElem_cons_succ,List.getElem_cons_zero,List.setIfInBounds_toArray,List.set_cons_zero,List.set_cons_succ]
 refine wpAnyH_take (i:=6) (v:=?_) rfl (by kernel_rfl) (by kernel_rfl) (by kernel_rfl) (fun _ _ _ h=>h) (Or.inl ⟨by kernel_rfl,?_⟩) rfl ?_
 rotate_left
 ·rintro w' rfl
  go_simp
  try with_reducible rfl
 simp only [Act.put,List.getElem_toArray,List.getElem_cons_succ,List.getElem_cons_zero,List.setIfInBounds_toArray,List.set_cons_zero,List.set_cons_succ]
 refine wpAnyH_take (i:=7) (v:=?_) rfl (by kernel_rfl) (by kernel_rfl) (by kernel_rfl) (fun _ _ _ h=>h) (Or.inl ⟨by kernel_rfl,?_⟩) rfl ?_
 rotate_left
 ·rintro w' rfl
  go_simp
  try with_reducible rfl
 simp only [Act.put,List.getElem_toArray,List.getElem_cons_succ,List.getElem_cons_zero,List.setIfInBounds_toArray,List.set_cons_zero,List.set_cons_succ]
 refine wpAnyH_take (i:=8) (v:=?_) rfl (by kernel_rfl) (by kernel_rfl) (by kernel_rfl) (fun _ _ _ h=>h) (Or.inl ⟨by kernel_rfl,?_⟩) rfl ?_
 rotate_left
 ·rintro w' rfl
  go_simp
  try with_reducible rfl
 simp only [Act.put,List.getElem_toArray,List.getElem_cons_succ,List.getElem_cons_zero,List.setIfInBounds_toArray,List.set_cons_zero,List.set_cons_succ]
 refine wpAnyH_take (i:=9) (v:=?_) rfl (by kernel_rfl) (by kernel_rfl) (by kernel_rfl) (fun _ _ _ h=>h) (Or.inl ⟨by kernel_rfl,?_⟩) rfl ?_
 rotate_left
 ·rintro w' rfl
  go_simp
  try with_reducible rfl
 simp only [Act.put,List.getElem_toArray,List.getElem_cons_succ,List.getElem_cons_zero,List.setIfInBounds_toArray,List.set_cons_zero,List.set_cons_succ]
 refine wpAnyH_take (i:=10) (v:=?_) rfl (by kernel_rfl) (by kernel_rfl) (by kernel_rfl) (fun _ _ _ h=>h) (Or.inl ⟨by kernel_rfl,?_⟩) rfl ?_
 rotate_left
 ·rintro w' rfl
  go_simp
  try with_reducible rfl
 simp only [Act.put,List.getElem_toArray,List.getElem_cons_succ,List.getElem_cons_zero,List.setIfInBounds_toArray,List.set_cons_zero,List.set_cons_succ]
 refine wpAnyH_take (i:=11) (v:=?_) rfl (by kernel_rfl) (by kernel_rfl) (by kernel_rfl) (fun _ _ _ h=>h) (Or.inl ⟨by kernel_rfl,?_⟩) rfl ?_
 rotate_left
 ·rintro w' rfl
  go_simp
  try with_reducible rfl
 simp only [Act.put,List.getElem_toArray,List.getElem_cons_succ,List.getElem_cons_zero,List.setIfInBounds_toArray,List.set_cons_zero,List.set_cons_succ]
 refine wpAnyH_take (i:=12) (v:=?_) rfl (by kernel_rfl) (by kernel_rfl) (by kernel_rfl) (fun _ _ _ h=>h) (Or.inl ⟨by kernel_rfl,?_⟩) rfl ?_
 rotate_left
 ·rintro w' rfl
  go_simp
  try with_reducible rfl
 simp only [Act.put,List.getElem_toArray,List.getElem_cons_succ,List.getElem_cons_zero,List.setIfInBounds_toArray,List.set_cons_zero,List.set_cons_succ]
 refine wpAnyH_take (i:=13) (v:=?_) rfl (by kernel_rfl) (by kernel_rfl) (by kernel_rfl) (fun _ _ _ h=>h) (Or.inl ⟨by kernel_rfl,?_⟩) rfl ?_
 rotate_left
 ·rintro w' rfl
  go_simp
  try with_reducible rfl
 simp only [Act.put,List.getElem_toArray,List.getElem_cons_succ,List.getElem_cons_zero,List.setIfInBounds_toArray,List.set_cons_zero,List.set_cons_succ]
 refine wpAnyH_take (i:=14) (v:=?_) rfl (by kernel_rfl) (by kernel_rfl) (by kernel_rfl) (fun _ _ _ h=>h) (Or.inl ⟨by kernel_rfl,?_⟩) rfl ?_
 rotate_left
 ·rintro w' rfl
  go_simp
  try with_reducible rfl
 simp only [Act.put,List.getElem_toArray,List.getElem_cons_succ,List.getElem_cons_zero,List.setIfInBounds_toArray,List.set_cons_zero,List.set_cons_succ]
 refine wpAnyH_take (i:=15) (v:=?_) rfl (by kernel_rfl) (by kernel_rfl) (by kernel_rfl) (fun _ _ _ h=>h) (Or.inl ⟨by kernel_rfl,?_⟩) rfl ?_
 rotate_left
 ·rintro w' rfl
  go_simp
  try with_reducible rfl
 simp only [Act.put,List.getElem_toArray,List.getElem_cons_succ,List.getElem_cons_zero,List.setIfInBounds_toArray,List.set_cons_zero,List.set_cons_succ]
 refine wpAnyH_take (i:=17) (v:=?_) rfl (by kernel_rfl) (by kernel_rfl) (by kernel_rfl) (fun _ _ _ h=>h) (Or.inl ⟨by kernel_rfl,?_⟩) rfl ?_
 rotate_left
 ·rintro w' rfl
  go_simp
  try with_reducible rfl
 simp only [Act.put,List.getElem_toArray,List.getElem_cons_succ,List.getElem_cons_zero,List.setIfInBounds_toArray,List.set_cons_zero,List.set_cons_succ]
 refine wpAnyH_take (i:=18) (v:=?_) rfl (by kernel_rfl) (by kernel_rfl) (by kernel_rfl) (fun _ _ _ h=>h) (Or.inl ⟨by kernel_rfl,?_⟩) rfl ?_
 rotate_left
 ·rintro w' rfl
  go_simp
  try with_reducible rfl
 simp only [Act.put,List.getElem_toArray,List.getElem_cons_succ,List.getElem_cons_zero,List.setIfInBounds_toArray,List.set_cons_zero,List.set_cons_succ]
 refine wpAnyH_take (i:=19) (v:=?_) rfl (by kernel_rfl) (by kernel_rfl) (by kernel_rfl) (fun _ _ _ h=>h) (Or.inl ⟨by kernel_rfl,?_⟩) rfl ?_
 rotate_left
 ·rintro w' rfl
  go_simp
  try with_reducible rfl
 simp only [Act.put,List.getElem_toArray,List.getElem_cons_succ,List.getElem_cons_zero,List.setIfInBounds_toArray,List.set_cons_zero,List.set_cons_succ]
 refine wpAnyH_ready (rs:=[16]) (by kernel_rfl) (by simp) ?_
 refine AllReadyH.cons rfl (fun KK hK=>?_) AllReadyH.nil
 go_simp
 refine HJ1.out.mono ?_
 rintro e w' ⟨rfl,rfl⟩
 refine hK.out _ _ rfl (fun _=>?_)
 clear hK HJ1
 refine wpAnyH_take (i:=20) (v:=?_) rfl (by kernel_rfl) (by kernel_rfl) (by kernel_rfl) (fun _ _ _ h=>h) (Or.inl ⟨by kernel_rfl,?_⟩) rfl ?_
 rotate_left
 ·rintro w' rfl
  go_simp
  try with_reducible rfl
 simp only [Act.put,List.getElem_toArray,List.getElem_cons_succ,List.getElem_cons_zero,List.setIfInBounds_toArray,List.set_cons_zero,List.set_cons_succ]
 refine wpAnyH_take (i:=21) (v:=?_) rfl (by kernel_rfl) (by kernel_rfl) (by kernel_rfl) (fun _ _ _ h=>h) (Or.inl ⟨by kernel_rfl,?_⟩) rfl ?_
 rotate_left
 ·rintro w' rfl
  go_simp
  try with_reducible rfl
 simp only [Act.put,List.getElem_toArray,List.getElem_cons_succ,List.getElem_cons_zero,List.setIfInBounds_toArray,List.set_cons_zero,List.set_cons_succ]
 refine wpAnyH_take (i:=22) (v:=?_) rfl (by kernel_rfl) (by kernel_rfl) (by kernel_rfl) (fun _ _ _ h=>h) (Or.inl ⟨by kernel_rfl,?_⟩) rfl ?_
 rotate_left
 ·rintro w' rfl
  go_simp
  try with_reducible rfl
 simp only [Act.put,List.getElem_toArray,List.getElem_cons_succ,List.getElem_cons_zero,List.setIfInBounds_toArray,List.set_cons_zero,List.set_cons_succ]
 refine wpAnyH_take (i:=23) (v:=?_) rfl (by kernel_rfl) (by kernel_rfl) (by kernel_rfl) (fun _ _ _ h=>h) (Or.inl ⟨by kernel_rfl,?_⟩) rfl ?_
 rotate_left
 ·rintro w' rfl
  go_simp
  try with_reducible rfl
 simp only [Act.put,List.getElem_toArray,List.getElem_cons_succ,List.getElem_cons_zero,List.setIfInBounds_toArray,List.set_cons_zero,List.set_cons_succ]
 refine wpAnyH_take (i:=25) (v:=?_) rfl (by kernel_rfl) (by kernel_rfl) (by kernel_rfl) (fun _ _ _ h=>h) (Or.inl ⟨by kernel_rfl,?_⟩) rfl ?_
 rotate_left
 ·rintro w' rfl
  go_simp
  try with_reducible rfl
 simp only [Act.put,List.getElem_toArray,List.getElem_cons_succ,List.getElem_cons_zero,List.setIfInBounds_toArray,List.set_cons_zero,List.set_cons_succ]
 refine wpAnyH_ready (rs:=[24]) (by kernel_rfl) (by simp) ?_
 refine AllReadyH.cons rfl (fun KK hK=>?_) AllReadyH.nil
 go_simp
 refine HJ2.out.mono ?_
 rintro e w' ⟨rfl,rfl⟩
 refine hK.out _ _ rfl (fun _=>?_)
 clear hK HJ2
 refine wpAnyH_take (i:=26) (v:=?_) rfl (by kernel_rfl) (by kernel_rfl) (by kernel_rfl) (fun _ _ _ h=>h) (Or.inl ⟨by kernel_rfl,?_⟩) rfl ?_
 rotate_left
 ·rintro w' rfl
  go_simp
  try with_reducible rfl
 simp only [Act.put,List.getElem_toArray,List.getElem_cons_succ,List.getElem_cons_zero,List.setIfInBounds_toArray,List.set_cons_zero,List.set_cons_succ]
 refine wpAnyH_take (i:=27) (v:=?_) rfl (by kernel_rfl) (by kernel_rfl) (by kernel_rfl) (fun _ _ _ h=>h) (Or.inl ⟨by kernel_rfl,?_⟩) rfl ?_
 rotate_left
 ·rintro w' rfl
  go_simp
  try with_reducible rfl
 simp only [Act.put,List.getElem_toArray,List.getElem_cons_succ,List.getElem_cons_zero,List.setIfInBounds_toArray,List.set_cons_zero,List.set_cons_succ]
 refine wpAnyH_done (by kernel_rfl) ?_ _
 refine onlyN_is1 ?_
 go_wp2_with fail
 refine (HPU.out _).mono ?_
 rintro e w' ⟨rfl,rfl⟩
 dsimp only
 obtain ⟨p1,p2,p3,q1,q2,q3⟩:=HPQ.out
 obtain ⟨hl,hv,hlook,hnd,hsrc,hE⟩:=HL0.out
 have hdr:Below wq.heap.size wq wq.drew:=(Below.refl _ wq).drew
 have g3:Below wp.heap.size wp wq.drew:=q3.trans (hdr.mono q3.size)
 have HO3b:=hide (HO3.out wq.drew (p3.trans (g3.mono p3.size)))
 have HCW:=hide (fun bb b Lb wb (f1:La wb bb b Lb 200000) f2 f3 hs=>cw_make hl hN.1 p1 p2 p3 (q1.below hdr) q2 g3 f1 f2 f3 hs)
 have HTL:=hide (And.intro hv (And.intro (hasOk_alk hl.ok q1.sound hlook hnd) (And.intro (show Lard.Al0 s (Lard.LS.of h s.jr) from ⟨hlook,by rw [hl.la.sound.begun]; rfl⟩) (And.intro hsrc hE))))
 clear HO3 HPU HPQ HL0 p1 p2 p3 q1 q2 q3 hl hv hlook hnd hsrc hE hdr g3
 go_wp2_with fail
 refine HO3b.out.mono ?_
 rintro e wb ⟨bb,Lb,rfl,b1,b2,b3⟩
 have HC:=hide (HCW.out bb _ Lb wb b1 b2 b3 HTL.out.2.2.2.1.symm)
 clear HCW HO3b b1 b2 b3
 unfold ptr
 dsimp only
 go_wp2_with fail
 rw [←H16.out]
 exact ct_tail w0 wb lb hb qb pb bb s _ _ _ L Lq Lp Lb N H o len cap K Y Z _ _ _ _ _ _ _ _ _ _ _ _ _ _ _ _ _ _ _ _ _ _ _ _ _ _ _ _ _ _ _ _ _ _ _ _ _ _ _ _ _ _ _ _ _ _ _ _ _ _ _ _ _ _ _ _ _ _ _ _ _ _ _ _ _ _ _ _ _ _ _ _ _ _ _ _ _ _ _ _ _ _ _ _ _ _ _ _ _ _ _ _ _ _ _ _ _ _ _ _ _ _ _ _ _ _ _ _ _ _ _ _ _ _ _ _ _ HTL.out.1 HC.out HTL.out.2.1 HTL.out.2.2.1 hN.2 HTL.out.2.2.2.2
end
section
set_option maxRecDepth 100000
set_option maxHeartbeats 8000000
open Go.RowKit Go.Shelf
theorem ct_text {E:Ending→World→Prop} (w0 w:World) (lb hb:Nat) (s:Lard.LS) (L:Nat→Prop) (N:Nat) (H:Nat→Nat×List UInt8) (o:Option Addr) (len cap:Nat) (K Y Z:Nat→Int) (ia:Int) (h:List (List UInt8×Lard.Thing)) (v0 v3 v4 v5 v6 v7 v9 u31 u32 u33 u34 u35 u36 u37 u38 u39 u40 u41 u42 u43 u44:Value)
  (hv:StepsAt w0 o len K Y Z) (hl:HL w0 w lb hb s L N H) (hN:200000≤N∧N≤500000000000) (hmx:Mx w) (hst:Lard.Sto s.jr h) (hlook:∀ k,Lard.look s.has k=Lard.look h k) (hnd:(h.map (·.1)).Nodup) (hia:-9223372036854775808≤ia∧ia≤9223372036854775807)
  (hE:∀ w',Below w0.heap.size w0 w'→E (.returned (.bool true)) w') :
  Code.wp Tryz.prog (tailJ 6 (Tryz.f12.body.getD .skip)) (bodyPost Tryz.prog Tryz.f12 E) { tmps:=#[v0,.int .i64 ia,.slice o len cap,v3,v4,v5,v6,v7,.bool false,v9,.slice (some ⟨hb,0,none⟩) 8 8,.pointer (some ⟨lb,0,none⟩),undef,undef,undef,undef,undef,undef,undef,undef,undef,undef,undef,undef,undef,undef,undef,undef,undef,undef,undef,u31,u32,u33,u34,u35,u36,u37,u38,u39,u40,u41,u42,u43,u44,undef,undef,undef,undef,undef,undef,undef,undef,undef,undef,undef,undef,undef,undef,undef,undef,undef,undef,undef,undef,undef,undef,undef,undef,undef,undef,undef,undef,undef,undef,undef,undef,undef,undef,undef,undef,undef,undef,undef,undef,undef,undef,undef,undef,undef,undef,undef,undef,undef,undef,undef,undef,undef,undef,undef,undef,undef,undef,undef,undef,undef,undef,undef,undef,undef,undef,undef,undef,undef,undef,undef,undef,undef,undef,undef,undef,undef,undef,undef,undef,undef,undef,undef,undef,undef,undef,undef,undef,undef,undef,undef,undef,undef,undef,undef,undef,undef,undef,undef,undef,undef,undef,undef,undef,undef,undef,undef,undef,undef,undef,undef,undef,undef,undef,undef,undef,undef,undef,undef],defers:=[] } w:=by
 obtain ⟨tb,htb⟩:=byteOf (s.jr.flatMap Lard.line)
 have hjs:str (jbytes s.jr)=.string tb:=by rw [←str_bytes,htb]; rfl
 have HJ:=hide (journal_any w lb s L hl.la.lat)
 rw [hjs] at HJ
 have HOPN:=hide (And.intro hv (And.intro hl (And.intro hN (And.intro hmx (And.intro hst (And.intro hlook (And.intro hnd (And.intro htb hE))))))))
 have HEW:=hide (hE w hl.bel)
 have HNO:=hide (sto_no10 hst)
 clear hv hl hmx hst hlook hnd hE hjs htb hN
 unfold ptr at HJ
 obtain ⟨c11,h11⟩:∃ c,tailJ 11 (Tryz.f12.body.getD .skip)=c:=⟨_,rfl⟩
 have H11:=hide h11
 simp only [tailJ,Tryz.f12,Option.getD] at h11
 obtain ⟨cd,hcd⟩:∃ cd,tailJ 6 (Tryz.f12.body.getD .skip)=cd:=⟨_,rfl⟩
 rw [hcd]
 simp only [tailJ,Tryz.f12,Option.getD] at hcd
 rw [h11] at hcd
 subst hcd
 clear h11
 by_cases hbig:200000 < tb.size
 ·have hbi:(200000:Int) < (tb.size:Int):=by omega
  have HOL:=hide (open_long w tb hbig)
  clear HOPN HNO H11
  go_wp2_with fail
  refine HJ.out.mono ?_
  rintro e w' ⟨rfl,hw'⟩
  obtain rfl:=hw'.symm
  dsimp only
  go_wp2_with fail
  refine HOL.out.mono ?_
  rintro e w' ⟨rfl,hw'⟩
  obtain rfl:=hw'.symm
  dsimp only
  go_wp2_with fail
  exact HEW.out
 ·have hbi:¬ (200000:Int) < (tb.size:Int):=by omega
  have HPK:=hide (fun w=>pick_any ia (tb.size + 1) w hia.1 hia.2 (by omega) (by omega))
  have hk:pickN ia (tb.size + 1)≤tb.size:=Nat.le_of_lt_succ (Nat.mod_lt _ (by omega))
  generalize pickN ia (tb.size + 1)=k at HPK hk
  rw [show ((tb.size + 1:Nat):Int)=(tb.size:Int) + 1 by omega] at HPK
  clear HEW
  go_wp2_with fail
  refine HJ.out.mono ?_
  rintro e w' ⟨rfl,hw'⟩
  obtain rfl:=hw'.symm
  dsimp only
  go_wp2_with fail
  refine (HPK.out _).mono ?_
  rintro e w' ⟨rfl,hw'⟩
  obtain rfl:=hw'.symm
  clear HPK HJ
  dsimp only
  go_wp2_with fail
  go_loopw [16,17] (fun wv iv wr=>∃ (i wh:Nat),i≤k∧wh≤i∧wv=.int .i64 wh∧iv=.int .i64 i∧wr=w∧Hid ((∀ j,wh≤j→j < i→tb.data.toList[j]? ≠ some 10)∧(wh=0∨tb.data.toList[wh - 1]? = some 10))) (fun _ iv _=>k - (intOf iv).toNat)
  case atStart=>exact ⟨0,0,Nat.zero_le _,Nat.le_refl _,rfl,rfl,rfl,hide ⟨fun j _ h=>by omega,.inl rfl⟩⟩
  case round =>
   obtain ⟨i,wh,hi,hw,rfl,rfl,hwr,HX⟩:=hrel
   obtain rfl:=hwr.symm
   by_cases hlt:i < k
   ·have hki:(i:Int) < (k:Int):=by omega
    have his:i < tb.size:=by omega
    have hbt:=byte_at tb i his
    by_cases h10:tb[i].toNat=10
    ·have hb10:((tb[i].toNat:Int) == 10)=true:=by rw [h10]; rfl
     have hc:tb[i]=10:=UInt8.toNat_inj.1 h10
     have HX2:Hid ((∀ j,i + 1≤j→j < i + 1→tb.data.toList[j]? ≠ some 10)∧(i + 1=0∨tb.data.toList[i + 1 - 1]? = some 10)):=hide ⟨fun j h1 h2=>by omega,.inr (by rw [Nat.add_sub_cancel,hbt,hc])⟩
     clear HX hbt hc
     go_wp2_with fail
     refine ⟨⟨i + 1,i + 1,by omega,by omega,by go_num,by go_num,trivial,HX2⟩,?_⟩
     simp [intOf]; omega
    ·have hb10:((tb[i].toNat:Int) == 10)=false:=by simp; omega
     have HX2:Hid ((∀ j,wh≤j→j < i + 1→tb.data.toList[j]? ≠ some 10)∧(wh=0∨tb.data.toList[wh - 1]? = some 10)):=hide ⟨fun j h1 h2=>by
      rcases Nat.lt_or_ge j i with hj | hj
      ·exact HX.out.1 j h1 hj
      ·obtain rfl:j=i:=by omega
       rw [hbt]
       intro e
       injection e with e
       exact h10 (by rw [e]; rfl),HX.out.2⟩
     clear HX hbt
     go_wp2_with fail
     refine ⟨⟨i + 1,wh,by omega,by omega,rfl,by go_num,trivial,HX2⟩,?_⟩
     simp [intOf]; omega
   ·obtain rfl:i=k:=by omega
    have hki:¬ (i:Int) < (i:Int):=by omega
    obtain ⟨hv,hl,hN,hmx,hst,hlook,hnd,htb,hE⟩:=HOPN.out
    have hln:i≤(s.jr.flatMap Lard.line).length:=by rw [←htb,←size_data]; exact hk
    obtain ⟨m,pp,_,hcut,hpp⟩:=Lard.cut_at s.jr HNO.out i hln
    have hwh:wh=((s.jr.take m).flatMap Lard.line).length:=by
     obtain ⟨x1,x2⟩:=HX.out
     rw [htb] at x1 x2
     refine Lard.whole_is (A:=(s.jr.take m).flatMap Lard.line) (p:=pp) (Lard.lines_end _) hpp ?_ ?_ ?_
     ·rw [←hcut,List.length_take]
      omega
     ·intro j hj
      rw [←hcut,List.getElem?_take]
      split
      ·rename_i hji
       exact x1 j hj hji
      ·simp
     ·rcases Nat.eq_zero_or_pos wh with e | e
      ·exact .inl e
      ·rcases x2 with x2 | x2
       ·exact .inl x2
       ·refine .inr ?_
        rw [←hcut,List.getElem?_take_of_lt (by omega)]
        exact x2
    have HFI:=hide (And.intro hcut (And.intro hpp hwh))
    clear hcut hpp hwh hv hl hmx hst hlook hnd htb hE HX HNO hN hln
    go_wp2_with fail
    rw [←H11.out]
    obtain ⟨hv,hl,hN,hmx,hst,hlook,hnd,htb,hE⟩:=HOPN.out
    exact ct_open w0 _ lb hb s L N H o len cap K Y Z tb i wh m pp h _ _ _ _ _ _ _ _ _ _ _ _ _ _ _ _ _ _ _ _ _ _ _ _ _ _ _ _ _ _ _ _ _ _ _ _ _ _ _ _ _ _ _ _ _ _ _ _ _ _ _ _ _ _ _ _ _ hv hl hN hmx hst hlook hnd htb (by omega) hk HFI.out.1 HFI.out.2.1 HFI.out.2.2 hE
end
section
set_option maxRecDepth 100000
set_option maxHeartbeats 8000000
open Go.RowKit Go.Shelf
theorem look_perm {l h:List (List UInt8×Lard.Thing)} (hp:l.Perm h) (hnd:(h.map (·.1)).Nodup) (k:List UInt8):Lard.look h k=Lard.look l k:=by
 cases hl:Lard.look l k with
 |some th=>exact mem_look hnd (hp.mem_iff.1 (Lard.look_mem hl))
 |none=>exact Lard.look_none.2 (fun p hm=>Lard.look_none.1 hl p (hp.mem_iff.2 hm))
theorem packed_sto {s:Lard.LS} {H:Nat→Nat×List UInt8} (hok:Lard.HasOk s H 8) (hst:Lard.Sto s.jr s.has) {l:List (List UInt8×Lard.Thing)} (hp:l.Perm s.has):Lard.Sto (Lard.packLines l) l∧(∀ k,Lard.look s.has k=Lard.look l k)∧(l.map (·.1)).Nodup:=by
 have hnd:(l.map (·.1)).Nodup:=(hp.map _).nodup_iff.2 hok.nodup
 refine ⟨Lard.Sto.packed l (fun p hm=>?_) hnd ?_,look_perm hp hok.nodup,hnd⟩
 ·exact hst.ok p.1 p.2 (mem_look hok.nodup (hp.mem_iff.1 hm))
 ·rw [hp.length_eq]
  exact hok.sound.len
theorem cut_any (w:World) (g:G w) (hd:Deb w) (hmx:Mx w) (o:Option Addr) (len cap:Nat) (K Y Z:Nat→Int) (ia:Int) (hia:-9223372036854775808≤ia∧ia≤9223372036854775807) (hv:StepsAt w o len K Y Z) (o2:Option Addr) (len2 cap2:Nat) (K2 Y2 Z2:Nat→Int) (hv2:StepsAt w o2 len2 K2 Y2 Z2) (pk:Bool) :
  Calls Tryz.prog 12 #[.slice o len cap,.int .i64 ia,.slice o2 len2 cap2,.bool pk] w fun e w'=>e=.returned (.bool true)∧Below w.heap.size w w':=by
 have HAW:=hide (awake_any w g hd)
 have HG:=hide (And.intro g (And.intro hd (And.intro hv (And.intro hv2 (And.intro hmx hia)))))
 generalize hRR:(fun (e:Ending) (w':World)=>e=.returned (.bool true)∧Below w.heap.size w w')=E
 have HE:Hid (∀ w',Below w.heap.size w w'→E (.returned (.bool true)) w'):=hide (fun w' hB=>by rw [←hRR]; exact ⟨rfl,hB⟩)
 clear g hd hv hv2 hRR hia hmx
 obtain ⟨c6,h6⟩:∃ c,tailJ 6 (Tryz.f12.body.getD .skip)=c:=⟨_,rfl⟩
 have H6:=hide h6
 simp only [tailJ,Tryz.f12,Option.getD] at h6
 go_enter Tryz.func12,Tryz.ntmps12
 rw [h6]
 clear h6
 go_wp2_with fail
 refine HAW.out.mono ?_
 rintro e w1 ⟨rfl,hB1⟩
 dsimp only
 have hmk:=make_has w1
 have hB2:Below w1.heap.size w1 (w1.alloc (.cells hasZero 69)):=(Below.refl _ w1).alloc (Nat.le_refl _) _
 have hB12:=hB1.trans (hB2.mono hB1.size)
 have HPL:=hide (played_p (fun s=>Lard.Sto s.jr s.has) Lard.Sto.nil (fun s H kd ky wi h1 h2=>sto_step h1 h2 kd ky wi) w _ (HG.out.1.below hB12 HG.out.1.size) (HG.out.2.1.below hB12 HG.out.1.size) w1.heap.size o len cap 40 K Y Z HG.out.2.2.1 (by omega) (hm_zero w1) ⟨hB1.size,Nat.le_trans HG.out.1.size hB1.size⟩ hB12)
 clear HAW hB1 hB2 hB12
 go_wp2_with fail
 clear hmk
 refine HPL.out.mono ?_
 rintro e w3 ⟨lb,s,L,H,rfl,hl3,hst⟩
 dsimp only
 unfold ptr
 generalize w1.heap.size=hb at hl3 ⊢
 have H3:=hide (And.intro hl3 hst)
 clear HPL hl3 hst
 cases pk with
 |false =>
  go_wp2_with fail
  rw [←H6.out]
  obtain ⟨hl3,hst⟩:=H3.out
  obtain ⟨g,hd,hv,hv2,hmx,hia⟩:=HG.out
  exact ct_text w w3 lb hb s L 300000000000 H o2 len2 cap2 K2 Y2 Z2 ia s.has _ _ _ _ _ _ _ _ _ _ _ _ _ _ _ _ _ _ _ _ _ hv2 hl3 ⟨by omega,by omega⟩ (hmx.below hl3.bel (by have:=g.size; omega)) hst (fun _=>rfl) hl3.ok.nodup hia HE.out
 |true =>
  have HPA:=hide (pack_any H3.out.1.la)
  unfold ptr at HPA
  go_wp2_with fail
  refine HPA.out.mono ?_
  rintro e w4 ⟨rfl,l,hp,hP⟩
  obtain ⟨hl3,hst⟩:=H3.out
  obtain ⟨k1,k2,k3⟩:=packed_sto hl3.ok hst hp
  obtain ⟨L4,hl4⟩:=hl3.post hP (H':=H) ⟨hl3.ok.sound.fields rfl rfl,hl3.ok.src,hl3.ok.out,hl3.ok.nodup⟩ rfl
  have H4:=hide (And.intro hl4 (And.intro k1 (And.intro k2 k3)))
  clear H3 hl3 hst hp hP k1 k2 k3 hl4 HPA
  dsimp only
  go_wp2_with fail
  rw [←H6.out]
  obtain ⟨hl4,k1,k2,k3⟩:=H4.out
  obtain ⟨g,hd,hv,hv2,hmx,hia⟩:=HG.out
  exact ct_text w w4 lb hb _ L4 10000000000 H o2 len2 cap2 K2 Y2 Z2 ia l _ _ _ _ _ _ _ _ _ _ _ _ _ _ _ _ _ _ _ _ _ hv2 hl4 ⟨by omega,by omega⟩ (hmx.below hl4.bel (by have:=g.size; omega)) k1 k2 k3 hia HE.out
end
end Go.Proofs.YtpekpdimdelncaaGreatDoor
