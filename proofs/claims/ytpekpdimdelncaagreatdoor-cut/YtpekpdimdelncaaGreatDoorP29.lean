/- Out of: L32, L33, L34, N1. -/
import Derived.Test.YtpekpdimdelncaaGreatDoorP25
import Derived.Test.YtpekpdimdelncaaGreatDoorP28
import Derived.BigQuiet
import Derived.Test.YtpekpdimdelncaaGreatDoorP11
import Derived.Test.YtpekpdimdelncaaGreatDoorP26
import Derived.Test.YtpekpdimdelncaaGreatDoorP01
import Derived.Test.YtpekpdimdelncaaGreatDoorShelf2
set_option linter.unusedVariables false
set_option linter.unusedSimpArgs false
namespace Go.Proofs.YtpekpdimdelncaaGreatDoor
section
set_option maxRecDepth 100000
set_option maxHeartbeats 2000000
open Go.RowKit Go.Shelf
theorem LP.ringNil {w:World} {lb:Nat} {s:Lard.LS} {L:Nat→Prop} {hb db:Nat} {vb vr vn vj:Value} (h:LP w lb s L hb db vb vr vn vj) (g:G w):LPost w lb L { s with ring:=[] } (w.setCell ⟨lb,3,none⟩ (.slice none 0 0)):=by
 have ht:Tn 9 w w none:=tn_below (Below.refl _ _)
 refine h.turned 9 none ht (.inr (.inl rfl)) (by decide) (by decide) (by decide) (by decide) (fun b hb=>by cases hb) (fun k=>False) (fun k hk=>hk.elim) g 3 _ rfl rfl rfl h.begun ⟨rfl,.inl ⟨rfl,rfl⟩⟩ h.ran h.jr (fun k hk=>?_) (fun k hk e=>by cases e) (fun _=>rfl)
 rcases hk with hk | hk | hk | hk
 ·exact .inl (h.mine k (.inl hk))
 ·cases hk
 ·exact .inl (h.mine k (.inr (.inr (.inl hk))))
 ·exact .inl (h.mine k (.inr (.inr (.inr hk))))
theorem LP.ranNil {w:World} {lb:Nat} {s:Lard.LS} {L:Nat→Prop} {hb db:Nat} {vb vr vn vj:Value} (h:LP w lb s L hb db vb vr vn vj) (g:G w):LPost w lb L { s with ran:=[] } (w.setCell ⟨lb,4,none⟩ (.slice none 0 0)):=by
 have ht:Tn 9 w w none:=tn_below (Below.refl _ _)
 refine h.turned 9 none ht (.inr (.inl rfl)) (by decide) (by decide) (by decide) (by decide) (fun b hb=>by cases hb) (fun k=>False) (fun k hk=>hk.elim) g 4 _ rfl rfl rfl h.begun h.ring ⟨rfl,.inl ⟨rfl,rfl⟩⟩ h.jr (fun k hk=>?_) h.apart h.rnil
 rcases hk with hk | hk | hk | hk
 ·exact .inl (h.mine k (.inl hk))
 ·exact .inl (h.mine k (.inr (.inl hk)))
 ·cases hk
 ·exact .inl (h.mine k (.inr (.inr (.inr hk))))
structure Fit (s:Lard.LS) (N:Nat):Prop where
 kb:Lard.KB s.has
 begun:s.begun=[]
 len:s.has.length≤40
 jr:(jbytes s.jr).length≤N
theorem Fit.pre {s:Lard.LS} {N:Nat} (h:Fit s N) (hN:N≤70366744177664):Pre 42 s.fresh where
 kb:=h.kb
 un:=by have:=Lard.un_le s.fresh; have:s.fresh.has.length≤40:=h.len; omega
 begun:=by show s.begun.length + 42≤200; rw [h.begun]; simp
 psi:=by have:=Lard.rs_le s.fresh; have:s.fresh.has.length≤40:=h.len; show 0 + 1000 * Lard.Rs s.fresh + 1000 * 42≤_; omega
 ran:=by have:=Lard.rs_le s.fresh; have:s.fresh.has.length≤40:=h.len; show 0 + Lard.Rs s.fresh + 42≤_; omega
 phi:=by
  have h1:=Lard.rs_le s.fresh
  have h2:s.fresh.has.length≤40:=h.len
  have h3:(jbytes s.fresh.jr).length≤N:=h.jr
  have h4:LM * Lard.Rs s.fresh≤LM * 40:=Nat.mul_le_mul_left _ (by omega)
  unfold Phi
  have h5:LM * 40=2000000000:=rfl
  omega
theorem Fit.ask {s:Lard.LS} {N:Nat} (h:Fit s N) (key:List UInt8) (hphi:Phi (s.ask key).2≤Phi s.fresh):Fit (s.ask key).2 (N + 2000000000) where
 kb:=(Lard.bring_nst 42 key s.fresh h.kb).kb h.kb
 begun:=(Lard.bring_nst 42 key s.fresh h.kb).begun.trans h.begun
 len:=by
  have:=Lard.strip_len (Lard.bring_nst 42 key s.fresh h.kb).strip
  have e:(s.ask key).2.has.length=s.fresh.has.length:=this
  rw [e]
  exact h.len
 jr:=by
  have h1:=Lard.rs_le s.fresh
  have h2:s.fresh.has.length≤40:=h.len
  have h3:(jbytes s.fresh.jr).length≤N:=h.jr
  have h4:LM * Lard.Rs s.fresh≤LM * 40:=Nat.mul_le_mul_left _ (by omega)
  have h5:LM * 40=2000000000:=rfl
  unfold Phi at hphi
  omega
def RingAt (w:World) (base:Nat) (L:Nat→Prop) (v:Value) (l:List (List UInt8)):Prop :=
 (v=.slice none 0 0∧l=[])∨∃ g c,v=.slice (some ⟨g,0,none⟩) l.length c∧base≤g∧¬ L g∧w.ownsRow base 9 1 v l.length (l.map str)
theorem ring_clone {W:World} {lb:Nat} {s:Lard.LS} {L:Nat→Prop} {hb db:Nat} {vb vr vn vj:Value} (h:LP W lb s L hb db vb vr vn vj) (hl:s.ring.length≤200) :
  Calls Tryz.prog 51 #[vr] W fun e w'=>∃ v,e=.returned v∧Below W.heap.size W w'∧RingAt w' W.heap.size L v s.ring∧∃ o m c,v=.slice o m c:=by
 rcases h.ring.2 with ⟨rfl,h2⟩ | ⟨g,cap,cur,rfl,_⟩
 ·refine (Tryz.slices_Clone_string_nil 0 0 W).mono ?_
  rintro e w' ⟨rfl,rfl⟩
  exact ⟨_,rfl,Below.refl _ _,.inl ⟨rfl,List.eq_nil_of_length_eq_zero h2⟩,_,_,_,rfl⟩
 ·have hz:(bas s.ring).length=s.ring.length:=by unfold bas; rw [List.length_map]
  have hcl:=bas_cells h.ring 0
  rw [List.drop_zero] at hcl
  refine (Tryz.slices_Clone_string g 0 s.ring.length cap (bas s.ring) W (by omega) (by omega) hcl).mono ?_
  rintro e w' ⟨v',rfl,ho,hv,hB⟩
  obtain ⟨g',c',rfl,hg'⟩:=row_some ho hv
  rw [List.take_of_length_le (by omega),bas_str] at ho
  exact ⟨_,rfl,hB,.inr ⟨g',c',rfl,hg',fun hl=>by have:=h.lt hl; omega,ho⟩,_,_,_,rfl⟩
def AskPost (w:World) (lb:Nat) (L:Nat→Prop) (s:Lard.LS) (key:List UInt8) (e:Ending) (w':World):Prop :=
 ∃ (v:Value) (tc:Int) (ts:ByteArray) (L':Nat→Prop),e=.returned (.tuple #[.string ts,.int .i64 tc,v])∧toldV (s.ask key).1=.agg #[.int .i64 tc,.string ts] ∧
  LAt w' lb (s.ask key).2 L'∧(∀ k,L' k→L k∨w.heap.size≤k)∧(∀ k,L k→L' k)∧Frw lb L w w'∧Phi (s.ask key).2≤Phi s.fresh ∧
  RingAt w' w.heap.size L' v (if tc=12 then (s.ask key).2.ring else [])
theorem ask_any (w:World) (lb:Nat) (key:ByteArray) (s:Lard.LS) (L:Nat→Prop) (N:Nat) (h:LAt w lb s L) (g:G w) (hd:Deb w) (hk:key.size≤200) (hn:Lard.isName key.data.toList=true) (hf:Fit s N) (hN:N≤70366744177664) :
  Calls Tryz.prog 22 #[ptr lb,.string key] w (AskPost w lb L s key.data.toList):=by
 have HN:=hide (isName_any key w g (by omega))
 rw [hn] at HN
 have HALL:=hide (And.intro h (And.intro g (And.intro hd hf)))
 clear h g hd hf hn
 unfold ptr
 go_enter Tryz.func22,Tryz.ntmps22
 go_wp2_with fail
 refine HN.out.mono ?_
 rintro e w1 ⟨rfl,hB1⟩
 obtain ⟨h,g,hd,hf⟩:=HALL.out
 have hA1:LAt w1 lb s L:=h.st (fun k hk=>hB1.block k (h.typed k hk).2.1) (Stay.below hB1)
 have g1:=g.below hB1 g.size
 have d1:=hd.below hB1 g.size
 have hA1':=hA1
 obtain ⟨hb,db,vb,vr,vn,vj,h1⟩:=hA1
 have c1:w1.cell? ⟨lb,1,none⟩=some (.map (some db)):=by simp [World.cell?,h1.blk]
 obtain ⟨w2,hclr,hP2,hst2⟩:=h1.clearTo 0
 have hb2:=hst2 _ _ _ _ h1.blk
 have f3:w2.cell? ⟨lb,3,none⟩=some vr:=by simp [World.cell?,hb2]
 have z3:w2.frozen? ⟨lb,3,none⟩=false:=by simp [World.frozen?,hb2]
 have f4:w2.cell? ⟨lb,4,none⟩=some vn:=by simp [World.cell?,hb2]
 have z4:w2.frozen? ⟨lb,4,none⟩=false:=by simp [World.frozen?,hb2]
 have g2:=hP2.g hA1' g1
 have d2:=hP2.deb hA1' g1 d1
 obtain ⟨L2,hA2,hsub2,hthen2⟩:=hP2.then
 have hA2':=hA2
 obtain ⟨hb',db',vb',vr',vn',vj',h2⟩:=hA2
 have hP3:=h2.ringNil g2
 have g3:=hP3.g hA2' g2
 have d3:=hP3.deb hA2' g2 d2
 obtain ⟨L3,hA3,hsub3,hthen3⟩:=hP3.then
 have hA3':=hA3
 obtain ⟨hb3,db3,vb3,vr3,vn3,vj3,h3⟩:=hA3
 have hP4:=h3.ranNil g3
 have g4:=hP4.g hA3' g3
 have d4:=hP4.deb hA3' g3 d3
 obtain ⟨L4,hA4,hsub4,hthen4⟩:=hP4.then
 have hbring:=bring_says lb 42 _ _ L4 key hA4 g4 d4 (hf.pre hN) hk
 have hrl:(s.ask key.data.toList).2.ring.length≤200:=Lard.bring_rk 42 key.data.toList s.fresh (by show s.begun.length + 42≤200; rw [hf.begun]; simp) (by show 0≤200; omega)
 have hask:Lard.bring 42 key.data.toList ({ s with done:=[],ring:=[],ran:=[] }:Lard.LS)=s.ask key.data.toList:=rfl
 have HTH:Hid (∀ s' w',LPost _ lb L4 s' w'→LPost w lb L s' w'):=hide (fun s' w' hx=>LPost.pre hB1 (hthen2 _ _ (hthen3 _ _ (hthen4 _ _ hx))))
 have HBR:=hide hbring
 have HA4:=hide hA4
 have HG4:=hide g4
 clear hbring hA4 g4 d4 g3 d3 g2 d2 hP2 hP3 hP4 hthen2 hthen3 hthen4 hsub2 hsub3 hsub4 hA1' hA2' hA3' h1 h2 h3 hst2 hb2 h g hd hf g1 d1 HALL HN
 go_wp2_with fail
 refine HBR.out.mono ?_
 rintro e w5 ⟨x,rfl,hW5,hP5,hphi5,hN5⟩
 rw [hask] at hW5 hP5 hphi5
 have g5:=hP5.g HA4.out HG4.out
 obtain ⟨tc,ts,htv,-⟩:=told_form (s.ask key.data.toList).1
 have hT:=told_worth w5 g5 hW5
 rw [htv] at hT
 obtain ⟨L5,hA5,hs51,hs52,hf5⟩:=HTH.out _ _ hP5
 obtain ⟨c,i,rfl,hi⟩:=hW5.form
 have HT:=hide hT
 have HA5:=hide (And.intro hA5 (And.intro hs51 (And.intro hs52 (And.intro hf5 hphi5))))
 clear hT hA5 hs51 hs52 hf5 hphi5 hP5 hW5 hN5 HBR HA4 HG4 HTH g5 f3 z3 f4 z4 c1 hclr
 have HFIN:Hid (∀ (W w':World) (v:Value),Below w5.heap.size w5 W→Below W.heap.size W w'→RingAt w' W.heap.size L5 v (if tc=12 then (s.ask key.data.toList).2.ring else [])→AskPost w lb L s key.data.toList (.returned (.tuple #[.string ts,.int .i64 tc,v])) w'):=hide (fun W w' v hB hB' hr=>by
  obtain ⟨hA5,hs51,hs52,hf5,hphi5⟩:=HA5.out
  have hBB:=hB.trans (hB'.mono hB.size)
  refine ⟨v,tc,ts,L5,rfl,htv,hA5.st (fun k hk=>hBB.block k (hA5.typed k hk).2.1) (Stay.below hBB),hs51,hs52,hf5.trans (Frw.below (L:=L5) hBB) hs51 hs52,hphi5,?_⟩
  have hsz:w.heap.size≤W.heap.size:=Nat.le_trans hf5.size hB.size
  rcases hr with hr | ⟨g',c',r1,r2,r3,r4⟩
  ·exact .inl hr
  ·exact .inr ⟨g',c',r1,Nat.le_trans hsz r2,r3,row_base r4 hsz⟩)
 rcases hi with rfl | ⟨ti,ai,rfl⟩
 all_goals
  go_wp2_with fail
  refine HT.out.mono ?_
  rintro e w6 ⟨rfl,hB6⟩
  have hB7:Below w5.heap.size w5 (w6.alloc (.cells #[.int .i64 tc,.string ts] 59)):=hB6.alloc hB6.size _
  by_cases h12:tc=12
  ·subst h12
   obtain ⟨hA5,-⟩:=HA5.out
   have hA7:LAt (w6.alloc (.cells #[.int .i64 12,.string ts] 59)) lb (s.ask key.data.toList).2 L5:=hA5.st (fun k hk=>hB7.block k (hA5.typed k hk).2.1) (Stay.below hB7)
   obtain ⟨hb7,db7,vb7,vr7,vn7,vj7,h7⟩:=hA7
   have q3:(w6.alloc (.cells #[.int .i64 12,.string ts] 59)).cell? ⟨lb,3,none⟩=some vr7:=by simp [World.cell?,h7.blk]
   have hvr:∃ o m c,vr7=.slice o m c:=by
    rcases h7.ring.2 with ⟨rfl,_⟩ | ⟨g,cap,cur,rfl,_⟩
    ·exact ⟨_,_,_,rfl⟩
    ·exact ⟨_,_,_,rfl⟩
   have hcl:=ring_clone h7 hrl
   obtain ⟨o7,m7,c7,rfl⟩:=hvr
   have HCL:=hide hcl
   have hts:ts=⟨#[]⟩:=by
    cases hr:(s.ask key.data.toList).1 with
    |ok v=>rw [hr] at htv; cases htv
    |error c=>rw [hr] at htv; cases htv; rfl
   subst hts
   clear hcl h7 hA5 HT htv
   go_wp2_with fail
   refine HCL.out.mono ?_
   rintro e w8 ⟨v,rfl,hB8,hR8,o8,m8,c8,rfl⟩
   have HF:=hide (HFIN.out _ w8 _ hB7 hB8 (by first | (rw [if_pos trivial]; exact hR8) | (rw [if_pos rfl]; exact hR8)))
   clear HFIN HCL hR8
   go_wp2_with fail
   exact bodyPost_ret (v:=.tuple #[.string ⟨#[]⟩,.int .i64 12,.slice o8 m8 c8]) (by simp [results,Tryz.results22,go_sem]) rfl HF.out
  ·have hne:(tc != 12)=true:=by simpa using h12
   have HF:=hide (fun k=>HFIN.out _ ((w6.alloc (.cells #[.int .i64 tc,.string ts] 59)).drewN k) (.slice none 0 0) hB7 (below_drewN (Below.refl _ _) k) (by rw [if_neg h12]; exact .inl ⟨rfl,rfl⟩))
   clear HFIN HT
   go_wp2_with fail
   go_quiet (fail)
   go_wp2_with fail
   exact bodyPost_ret (v:=.tuple #[.string ts,.int .i64 tc,.slice none 0 0]) (by simp [results,Tryz.results22,go_sem]) rfl (HF.out _)
end
section
open Go.RowKit Go.Shelf
theorem LAt.more {w:World} {lb:Nat} {s:Lard.LS} {L:Nat→Prop} (h:LAt w lb s L) {p:Nat} {cs:Array Value} (h8:8≤p) (hb:w.heap[p]? = some (.cells cs 124 (0,0))):LAt w lb s (fun k=>L k∨k=p):=by
 obtain ⟨hb',db,vb,vr,vn,vj,h1⟩:=h
 have hm:∀ k,L k→(L k∨k=p):=fun k hk=>.inl hk
 exact ⟨hb',db,vb,vr,vn,vj,{
  blk:=h1.blk
  here:=.inl h1.here
  ne:=h1.ne
  has:=h1.has.mono hm
  done:=h1.done.mono hm
  begun:=h1.begun
  ring:=h1.ring
  ran:=h1.ran
  jr:=h1.jr
  mine:=fun g hg=>.inl (h1.mine g hg)
  apart:=h1.apart
  rnil:=h1.rnil
  typed:=fun k hk=>by
   rcases hk with hk | rfl
   ·exact h1.typed k hk
   ·exact ⟨h8,.inr ⟨_,_,_,hb,.inr (.inr (.inr (.inr (.inl rfl))))⟩⟩ }⟩
theorem thingText_len {w:World} {L:Nat→Prop} {th:Lard.Thing} {p:Nat} (h:ThingAt w L th p) {key:List UInt8} (hk:key.length≤200):(Lard.thingText key th).length≤200000:=by
 obtain ⟨v,r,k,_,_,hc,h4,_⟩:=h
 unfold Lard.thingText
 rcases h4 with ⟨h5,_,hv,_⟩ | ⟨t,a,h5,_⟩
 ·rw [h5]
  have:=woText_len (w:=w) (r:=.ok th.value) (.inl ⟨_,_,rfl,rfl,hv⟩)
  have e:Lard.woText (.ok th.value)=Lard.wr 3 th.value:=rfl
  rw [e] at this
  simp
  omega
 ·rw [h5]
  simp
  omega
theorem give_map {w:World} {lb:Nat} {s:Lard.LS} {L:Nat→Prop} {hb db:Nat} {vb vr vn vj:Value} (h0:LP w lb s L hb db vb vr vn vj) {p:Nat} (hp:¬ L p) {th:Lard.Thing} (hth:ThingAt w (fun k=>L k∨k=p) th p) (h8:8≤p) {key:ByteArray} (hk:key.size≤8) (hlen:s.has.length≤40) :
  ∃ w1 L3,(Instr.mapUpdate 104 (.map (some hb)) (.string key) (ptr p)).run Tryz.prog w=.ok () w1∧LAt w1 lb { s with has:=Lard.put s.has key.data.toList th } L3∧ThingAt w1 L3 th p∧(∀ k,L3 k→(L k∨k=p)∨w.heap.size≤k)∧(∀ k,(L k∨k=p)→L3 k)∧Frm (fun k=>L k∨k=p) w w1:=by
 have hbk:=hth.block
 obtain ⟨_,cs,hbp⟩:=hbk
 obtain ⟨hb1,db1,vb1,vr1,vn1,vj1,h1⟩:=LAt.more ⟨hb,db,vb,vr,vn,vj,h0⟩ h8 hbp
 have e1:hb1=hb:=by
  have:=h1.blk
  rw [h0.blk] at this
  cases this
  rfl
 subst e1
 have hk':key.data.toList.length≤8:=by rw [←size_data]; exact hk
 obtain ⟨w1,hr,hP,hke,hcells⟩:=h1.giveTo (key:=key.data.toList) (th:=th) (p:=p) hth (fun x q hx ⟨k,hl,hrun⟩=>by
  have hl':Lard.look s.has k=some x:=hl
  obtain ⟨p',ht',hr'⟩:=h0.has.at hl'
  have hkl:k.length≤maxLen:=by
   obtain ⟨hp',q1,q2,q3,q4,q5,q6⟩:=h0.has
   have hm:=Lard.look_mem' hl'
   rw [q1] at hm
   obtain ⟨z,hz,hze⟩:=List.mem_map.1 hm
   have:=q5 z hz
   have e:z.1=k:=congrArg Prod.fst hze
   rw [e] at this
   unfold maxLen
   omega
  have:=hr' false hkl
  simp only [Bool.false_eq_true,if_false] at this
  rw [this] at hrun
  have hpq:p'=q:=by
   have h9:(Result.ok (ptr p') w:Result Value)=.ok (ptr q) w:=hrun
   simp [ptr] at h9
   exact h9
  subst hpq
  intro e
  subst e
  exact hp ht'.block.1) hk' (by omega)
 rw [str_bytes] at hr
 obtain ⟨L3,q1,q2,q3,q4⟩:=hP
 refine ⟨w1,L3,hr,q1,?_,q2,q3,q4⟩
 exact (hth.st ((hcells _ _ _ _ hbp).trans hbp.symm) (fun k _ cs t fz hc _=>hcells _ _ _ _ hc) hke.stay).mono q3
end
section
set_option maxRecDepth 100000
set_option maxHeartbeats 1000000
open Go.RowKit Go.Shelf
theorem has_len {w:World} {L:Nat→Prop} {hb:Nat} {has:List (List UInt8×Lard.Thing)} (h:HasAt w L hb has) (ty:TypeId):(Builtin.len_ #[104] ty #[.map (some hb)]).run Tryz.prog w=.ok (.int .i64 (has.length:Int)) w:=by
 obtain ⟨hp,h1,h2,_⟩:=h
 have:=h2.len (ty:=ty) Tryz.underlying104
 rw [this,h1]
 simp
theorem give_any (w:World) (lb p:Nat) (key:ByteArray) (s:Lard.LS) (L:Nat→Prop) (th:Lard.Thing) (h:LAt w lb s L) (g:G w) (hd:Deb w) (hk:key.size≤8) (hp:¬ L p) (h8:8≤p) (hth:ThingAt w (fun k=>L k∨k=p) th p) (hlen:s.has.length≤40) (hj:(jbytes s.jr).length≤70368744177664) :
  Calls Tryz.prog 53 #[ptr lb,.string key,ptr p] w fun e w'=>e=.returned (.int .i64 ((s.give key.data.toList th).1:Nat))∧LPost0 w lb (fun k=>L k∨k=p) (s.give key.data.toList th).2 w':=by
 have hkl:key.data.toList.length≤maxLen:=by rw [←size_data]; unfold maxLen; omega
 have hkl2:key.data.toList.length≤200:=by rw [←size_data]; omega
 have hbk:=hth.block
 obtain ⟨_,cs,hbp⟩:=hbk
 have hmore:=LAt.more h h8 hbp
 obtain ⟨hb,db,vb,vr,vn,vj,h0⟩:=h
 have c0:w.cell? ⟨lb,0,none⟩=some (.map (some hb)):=by simp [World.cell?,h0.blk]
 have hln:=has_len h0.has 3
 obtain ⟨w1,L3,hrun,hA1,hth1,hs1,hs2,hf1⟩:=give_map h0 hp hth h8 hk hlen
 have hlt:=thingText_len hth1 hkl2
 have g1:G w1:=frm_g hmore hf1 g
 have d1:Deb w1:=frm_deb hmore hf1 g hd
 have hT:=thingText_any w1 L3 th p key hth1 g1 (by omega)
 have hst:str (Lard.thingText key.data.toList th)=.string ⟨(Lard.thingText key.data.toList th).toArray⟩:=rfl
 rw [hst] at hT
 have hW:∀ w2,Below w1.heap.size w1 w2→Calls Tryz.prog 59 #[ptr lb,.string ⟨(Lard.thingText key.data.toList th).toArray⟩] w2 fun e w'=>e=.returned (.tuple #[])∧LPost0 w lb (fun k=>L k∨k=p) ({ s with has:=Lard.put s.has key.data.toList th }.write (Lard.thingText key.data.toList th)) w':=fun w2 hB=>by
  have hA2:LAt w2 lb { s with has:=Lard.put s.has key.data.toList th } L3:=hA1.st (fun k hk=>hB.block k (hA1.typed k hk).2.1) (Stay.below hB)
  have hsz:(⟨(Lard.thingText key.data.toList th).toArray⟩:ByteArray).size=(Lard.thingText key.data.toList th).length:=size_mk _
  have hdt:(⟨(Lard.thingText key.data.toList th).toArray⟩:ByteArray).data.toList=Lard.thingText key.data.toList th:=by simp
  have:=write_any w2 lb { s with has:=Lard.put s.has key.data.toList th } L3 ⟨(Lard.thingText key.data.toList th).toArray⟩ hA2 (g1.below hB g1.size) (d1.below hB g1.size) (by rw [hsz]; omega) (by
   rw [hdt]
   show (jbytes (s.jr++[_])).length≤_
   rw [jbytes_snoc,List.length_append,line_len]
   omega)
  rw [hdt] at this
  refine this.mono ?_
  rintro e w' ⟨rfl,L4,q1,q2,q3,q4⟩
  refine ⟨rfl,L4,q1,fun k hk=>?_,fun k hk=>q3 k (hs2 k hk),hf1.trans ((Frm.below (L:=L3) hB).trans q4.toFrm (fun k hk=>.inl hk)) hs1⟩
  rcases q2 k hk with h | h
  ·exact hs1 k h
  ·have:=hB.size
   have:=hf1.size
   exact .inr (by omega)
 by_cases hfull:(Lard.look s.has key.data.toList).isNone=true∧40≤s.has.length
 ·have hg:s.give key.data.toList th=(5,s):=by unfold Lard.LS.give; rw [if_pos hfull]
  rw [hg]
  have hl:Lard.look s.has key.data.toList=none:=Option.isNone_iff_eq_none.1 hfull.1
  have hr:=h0.has.absent hl hkl
  rw [str_bytes] at hr
  have h40:=hfull.2
  have HP:Hid (LPost0 w lb (fun k=>L k∨k=p) s w):=hide ⟨_,hmore,fun k hk=>.inl hk,fun k hk=>hk,Frm.refl _ _⟩
  clear hfull hg hl hW hT hth1 hA1 hrun h0 hmore hth hf1 hs1 hs2 g1 d1
  unfold ptr at *
  go_enter Tryz.func53,Tryz.ntmps53
  go_wp2_with fail
  exact bodyPost_ret (v:=.int .i64 5) (by simp [results,Tryz.results53,go_sem]) rfl ⟨rfl,HP.out⟩
 ·have hg:s.give key.data.toList th=(0,{ s with has:=Lard.put s.has key.data.toList th }.write (Lard.thingText key.data.toList th)):=by unfold Lard.LS.give; rw [if_neg hfull]
  rw [hg]
  have HT:=hide hT
  have HW:=hide hW
  cases hl:Lard.look s.has key.data.toList with
  |none =>
   have hr:=h0.has.absent hl hkl
   rw [str_bytes] at hr
   have h40:¬ 40≤s.has.length:=fun h40=>hfull ⟨by rw [hl]; rfl,h40⟩
   have h40':((s.has.length:Int) < 40):=by omega
   clear hfull hg hl hW hT hth1 hA1 h0 hmore hth hf1 hs1 hs2 g1 d1
   unfold ptr at *
   go_enter Tryz.func53,Tryz.ntmps53
   go_wp2_with fail
   refine HT.out.mono ?_
   rintro e w2 ⟨rfl,hB2⟩
   have HW2:=hide (HW.out w2 hB2)
   clear HT HW
   go_wp2_with fail
   refine HW2.out.mono ?_
   rintro e w3 ⟨rfl,hP3⟩
   have HP:=hide hP3
   clear HW2 hP3
   go_wp2_with fail
   exact bodyPost_ret (v:=.int .i64 0) (by simp [results,Tryz.results53,go_sem]) rfl ⟨rfl,HP.out⟩
  |some th0 =>
   obtain ⟨p0,_,hrun0⟩:=h0.has.at hl
   have hr:=hrun0 true hkl
   rw [str_bytes] at hr
   simp only [if_true] at hr
   clear hfull hg hl hW hT hth1 hA1 h0 hmore hth hf1 hs1 hs2 g1 d1 hrun0 hln
   unfold ptr at *
   go_enter Tryz.func53,Tryz.ntmps53
   go_wp2_with fail
   refine HT.out.mono ?_
   rintro e w2 ⟨rfl,hB2⟩
   have HW2:=hide (HW.out w2 hB2)
   clear HT HW
   go_wp2_with fail
   refine HW2.out.mono ?_
   rintro e w3 ⟨rfl,hP3⟩
   have HP:=hide hP3
   clear HW2 hP3
   go_wp2_with fail
   exact bodyPost_ret (v:=.int .i64 0) (by simp [results,Tryz.results53,go_sem]) rfl ⟨rfl,HP.out⟩
end
section
set_option maxRecDepth 100000
set_option maxHeartbeats 1000000
open Go.RowKit Go.Shelf
def RdPost (w:World) (n:Nat) (q:Option (Lard.V×List UInt8)) (e:Ending) (w':World):Prop :=
 Below w.heap.size w w'∧((∃ v y t a,∃ r:ByteArray,q=some (v,r.data.toList)∧e=.returned (.tuple #[y,.string r,.bool true])∧y=.iface t a∧IsVal w' n v y) ∨
  ∃ y,∃ r:ByteArray,q=none∧e=.returned (.tuple #[y,.string r,.bool false])∧(y=.nilIface∨∃ t a,y=.iface t a))
theorem drop_lead (p:UInt8→Bool):∀ (l:List UInt8),l.dropWhile p=l.drop (Lard.lead p l)
 |[]=>rfl
 |c :: r=>by
  by_cases h:p c=true
  ·have:=drop_lead p r
   simp [Lard.lead,List.dropWhile_cons,h,this]
  ·have h':p c=false:=by simpa using h
   simp [Lard.lead,List.dropWhile_cons,h']
theorem numC_set (c:UInt8):([45,48,49,50,51,52,53,54,55,56,57]:List UInt8).contains c=Lard.numC c:=by
 have h0:((List.range 256).all fun n=>([45,48,49,50,51,52,53,54,55,56,57]:List UInt8).contains (UInt8.ofNat n) == Lard.numC (UInt8.ofNat n))=true:=by kernel_rfl
 have h:=List.all_eq_true.1 h0 c.toNat (List.mem_range.2 c.toNat_lt)
 simpa using h
theorem trim_num (l:List UInt8):Lib.trimLeftS l [45,48,49,50,51,52,53,54,55,56,57]=l.drop (Lard.lead Lard.numC l):=by
 unfold Lib.trimLeftS
 rw [show (fun c=>([45,48,49,50,51,52,53,54,55,56,57]:List UInt8).contains c)=Lard.numC from funext numC_set]
 exact drop_lead _ l
theorem trimLeft_num (s:ByteArray) (w:World) :
  Calls Tryz.prog 129 #[.string s,.string ⟨#[45,48,49,50,51,52,53,54,55,56,57]⟩] w fun e w'=>(∃ r:ByteArray,e=.returned (.string r)∧r.size=s.size - Lard.lead Lard.numC s.data.toList)∧Below w.heap.size w w':=by
 refine (Any.strings_TrimLeft_laid Tryz.lays161 (by kernel_rfl) s ⟨#[45,48,49,50,51,52,53,54,55,56,57]⟩ w (by decide) (ascii_of_all (by decide))).mono ?_
 rintro e w' ⟨rfl,hB⟩
 refine ⟨⟨_,rfl,?_⟩,hB⟩
 have:=trim_num s.data.toList
 show (Lib.trimLeftS s.data.toList [45,48,49,50,51,52,53,54,55,56,57]).toArray.size=_
 rw [this,List.size_toArray,List.length_drop,Lib.size_eq]
theorem beq_comm_u8 (a b:UInt8):(a == b)=(b == a):=by
 by_cases h:a=b
 ·rw [h]
 ·rw [beq_eq_false_iff_ne.2 h,beq_eq_false_iff_ne.2 (Ne.symm h)]
theorem head_prefix (l:List UInt8) (c:UInt8):Lib.hasPrefix l [c]=(l.head? == some c):=by
 cases l with
 |nil=>rfl
 |cons d r=>simp [Lib.hasPrefix,List.isPrefixOf,beq_comm_u8]
theorem below_drewN (w:World) (k:Nat):Below w.heap.size w (w.drewN k):=⟨rfl,rfl,rfl,Nat.le_refl _,fun _ _=>rfl⟩
theorem drop_ext (s:ByteArray) (k:Nat):(s.extract k s.size).data.toList=s.data.toList.drop k:=by
 rw [Lib.extract_data,List.take_of_length_le (by rw [List.length_drop,Lib.size_eq]; exact Nat.le_refl _)]
theorem take_ext (s:ByteArray) (k:Nat):(s.extract 0 k).data.toList=s.data.toList.take k:=by
 rw [Lib.extract_data]; simp
theorem size_ext2 (s:ByteArray) (a b:Nat) (h:b≤s.size) (hab:a≤b):(s.extract a b).size=b - a:=by
 rw [Lib.size_eq,Lib.extract_data,List.length_take,List.length_drop,←Lib.size_eq]
 omega
theorem first_word (s:ByteArray) (n:Nat) (w:World) (hs:s.size≤281474976710656) (hh:s.data.toList.head? = some 39) :
  Calls Tryz.prog 86 #[.string s,.int .i64 n] w (RdPost w n (Lard.rdF n s.data.toList)):=by
 have hq:Lard.rdF n s.data.toList=Lard.rdWord s.data.toList:=by unfold Lard.rdF; rw [if_pos hh]
 have hp:Lib.hasPrefix s.data.toList [39]=true:=by rw [head_prefix,hh]; rfl
 rw [hq]
 generalize hR:RdPost w n (Lard.rdWord s.data.toList)=R
 have hrw:=readWord_any s w (by omega)
 cases hw:Lard.wordOf s.data.toList with
 |none =>
  rw [hw] at hrw
  have hrw:Calls Tryz.prog 127 #[.string s] w fun e w'=>e=.returned (.tuple #[.string ⟨#[]⟩,.bool false])∧w'=w:=hrw
  have HW:=hide hrw
  have hfin:R (.returned (.tuple #[.nilIface,.string ⟨#[]⟩,.bool false])) w:=by
   rw [←hR]
   refine ⟨Below.refl _ _,.inr ⟨_,_,?_,rfl,.inl rfl⟩⟩
   unfold Lard.rdWord; rw [hw]; rfl
  clear hrw hR hw hh hq
  go_enter Tryz.func86,Tryz.ntmps86
  go_wp2_with (first | (go_at_call 126; refine (Tryz.strings_HasPrefix _ _ _).mono ?_; rintro e w' ⟨rfl,rfl⟩; try rw [hp]) | (go_at_call 127; refine HW.out.mono ?_; rintro e w' ⟨rfl,rfl⟩))
  exact bodyPost_ret (v:=.tuple #[.nilIface,.string ⟨#[]⟩,.bool false]) (by simp [results,Tryz.results86,go_sem]) rfl hfin
 |some k =>
  rw [hw] at hrw
  have hl:∃ t,s.data.toList=39 :: t∧Lard.quote 31 t=some k:=by
   cases hd:s.data.toList with
   |nil=>rw [hd] at hh; cases hh
   |cons c t =>
    rw [hd] at hh hw
    cases hh
    exact ⟨t,rfl,by simpa [Lard.wordOf] using hw⟩
  obtain ⟨t,ht,hquo⟩:=hl
  obtain ⟨hk1,hk2,hk3,hk4⟩:=Lard.quote_some 31 t k hquo
  have hsz:s.size=t.length + 1:=by rw [Lib.size_eq,ht]; rfl
  obtain ⟨wd,hwd⟩:∃ wd,s.extract 1 (k + 1)=wd:=⟨_,rfl⟩
  have hwz:wd.size=k:=by rw [←hwd,size_ext2 s 1 (k + 1) (by omega) (by omega)]; omega
  have hwl:wd.data.toList=(s.data.toList.drop 1).take k:=by rw [←hwd,Lib.extract_data]; rfl
  have hrw:Calls Tryz.prog 127 #[.string s] w fun e w'=>e=.returned (.tuple #[.string wd,.bool true])∧w'=w:=by rw [←hwd]; exact hrw
  have HW:=hide hrw
  have hfin:∀ w2,Below w.heap.size w w2→R (.returned (.tuple #[.iface 215 (.string wd),.string (s.extract (k + 2) s.size),.bool true])) w2:=fun w2 hB2=>by
   rw [←hR]
   refine ⟨hB2,.inl ⟨Lard.vw wd.data.toList,_,_,_,_,?_,rfl,rfl,IsVal.leaf (.inr ⟨wd,rfl,rfl,by omega⟩)⟩⟩
   unfold Lard.rdWord
   rw [hw,drop_ext,hwl]
   rfl
  have hks:k + 2≤s.size:=by omega
  clear hrw hR hw hh hq hquo hk4 hk3 hwl hwd ht hsz hk2
  go_enter Tryz.func86,Tryz.ntmps86
  go_wp2_with (first | (go_at_call 126; refine (Tryz.strings_HasPrefix _ _ _).mono ?_; rintro e w' ⟨rfl,rfl⟩; try rw [hp]) | (go_at_call 127; refine HW.out.mono ?_; rintro e w' ⟨rfl,rfl⟩))
  go_quiet (fail)
  go_wp2_with fail
  exact bodyPost_ret (v:=.tuple #[.iface 215 (.string wd),.string (s.extract (k + 2) s.size),.bool true]) (by simp [results,Tryz.results86,go_sem]) rfl (hfin _ (below_drewN _ _))
theorem first_num (s:ByteArray) (n:Nat) (w:World) (g:G w) (hs:s.size≤281474976710656) (h1:s.data.toList.head? ≠ some 39) (h2:s.data.toList.head? ≠ some 123) :
  Calls Tryz.prog 86 #[.string s,.int .i64 n] w (RdPost w n (Lard.rdF n s.data.toList)):=by
 have hq:Lard.rdF n s.data.toList=Lard.rdNum s.data.toList:=by unfold Lard.rdF; rw [if_neg h1,if_neg h2]
 have hp1:Lib.hasPrefix s.data.toList [39]=false:=by rw [head_prefix]; exact beq_eq_false_iff_ne.2 h1
 have hp2:Lib.hasPrefix s.data.toList [123]=false:=by rw [head_prefix]; exact beq_eq_false_iff_ne.2 h2
 rw [hq]
 generalize hR:RdPost w n (Lard.rdNum s.data.toList)=R
 have hle:Lard.lead Lard.numC s.data.toList≤s.size:=by rw [Lib.size_eq]; exact Lard.lead_le _ _
 have hT:=trimLeft_num s w
 unfold Lard.rdNum at hR
 rw [←take_ext] at hR
 obtain ⟨m,hm⟩:∃ m,Lard.lead Lard.numC s.data.toList=m:=⟨_,rfl⟩
 rw [hm] at hle hT hR
 have hN:=fun (w1:World) (hB:Below w.heap.size w w1)=>readNumber_any (s.extract 0 m) w1 (g.below hB g.size) (by rw [size_ext2 s 0 m hle (by omega)]; omega)
 have hfin:∀ w2,Below w.heap.size w w2→R (.returned (.tuple #[.iface 219 (.int .i64 ((Lard.numOf (s.extract 0 m).data.toList).getD 0)),.string (s.extract m s.size),.bool (Lard.numOf (s.extract 0 m).data.toList).isSome])) w2:=fun w2 hB=>by
  rw [←hR]
  refine ⟨hB,?_⟩
  cases hn:Lard.numOf (s.extract 0 m).data.toList with
  |none=>exact .inr ⟨_,_,rfl,rfl,.inr ⟨_,_,rfl⟩⟩
  |some i =>
   have hr:=Lard.parse_range _ _ (Lard.numOf_some hn).2
   refine .inl ⟨Lard.vn i,_,_,_,_,?_,rfl,rfl,IsVal.leaf (.inl ⟨i,rfl,rfl,hr.1,hr.2⟩)⟩
   rw [drop_ext]
   rfl
 have HT:=hide hT
 have HN:=hide hN
 have HF:=hide hfin
 clear hT hN hfin hR hq h1 h2 hm
 go_enter Tryz.func86,Tryz.ntmps86
 go_wp2_with (first | (go_at_call 126; refine (Tryz.strings_HasPrefix _ _ _).mono ?_; rintro e w' ⟨rfl,rfl⟩; try rw [hp1]; try rw [hp2]))
 refine HT.out.mono ?_
 rintro e w1 ⟨⟨r,rfl,hr⟩,hB1⟩
 have he:s.size - (s.size - m)=m:=by omega
 have hi:(s.size:Int) - ((s.size - m:Nat):Int)=(m:Int):=by omega
 have HN1:=hide (HN.out w1 hB1)
 clear HT HN
 go_wp2_with fail
 try simp only [he,hi]
 refine HN1.out.mono ?_
 rintro e w2 ⟨rfl,hB2⟩
 have hB:=hB1.trans (hB2.mono hB1.size)
 have HFF:=hide (fun k=>HF.out (w2.drewN k) (hB.trans ((below_drewN w2 k).mono hB.size)))
 clear HN1 HF
 generalize (Lard.numOf (s.extract 0 m).data.toList).getD 0=x at HFF ⊢
 generalize (Lard.numOf (s.extract 0 m).data.toList).isSome=b at HFF ⊢
 go_wp2_with fail
 go_quiet (fail)
 go_wp2_with fail
 exact bodyPost_ret (v:=.tuple #[.iface 219 (.int .i64 x),.string (s.extract m s.size),.bool b]) (by simp [results,Tryz.results86,go_sem]) rfl (HFF.out _)
end
end Go.Proofs.YtpekpdimdelncaaGreatDoor
