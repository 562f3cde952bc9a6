/- Out of: L18, Bg2, L19, L20, L21. -/
import Derived.Test.YtpekpdimdelncaaGreatDoorP20
import Derived.Test.YtpekpdimdelncaaGreatDoorP18
set_option linter.unusedVariables false
set_option linter.unusedSimpArgs false
namespace Go.Proofs.YtpekpdimdelncaaGreatDoor
section
set_option maxRecDepth 100000
set_option maxHeartbeats 1000000
open Go.RowKit Go.Shelf
attribute [local go_sem] Oper.semAt_some
def onlyN (K:Act→World→Prop):Exit→Act→World→Prop
 |.normal,a,w=>K a w
 |_,_,_=>False
theorem wp_onlyN {P:Program} {C:Code} {Q:Exit→Act→World→Prop} {a:Act} {w:World} (K:Act→World→Prop) (hK:∀ a w,K a w→Q .normal a w) (h:C.wp P (onlyN K) a w):C.wp P Q a w :=
 wp_mono h (fun e a w hq=>by
  cases e with
  |normal=>exact hK _ _ hq
  |_=>exact hq.elim)
theorem run_any (w:World) (lb p b:Nat) (key:ByteArray) (Br:List UInt8→Lard.LS→Lard.Wo×Lard.LS) (P:Lard.LS→Prop) (HB:BSays lb Br P) (s:Lard.LS) (L:Nat→Prop) (h:LAt w lb s L) (g:G w) (hd:Deb w) (hk:key.size≤200)
  (hP:∀ s' c,Lard.Nst s s' c→c≤400→Phi s'≤Phi s→P s') (hphi:Phi s≤70368744177664) (t:Lard.T) (th:Lard.Thing) (hl:Lard.look s.has key.data.toList=some th) (htr:th.tree=some t) (hp:PtrOf w lb key.data.toList p) (hok:Lard.okT (Lard.hM t) false t=true) (hx:IsTree w (Lard.hM t) t (ptr b)) (c1:w.cell? ⟨p,1,none⟩=some (ptr b)) :
  Calls Tryz.prog 125 #[ptr lb,.string key,ptr p] w fun e w'=>∃ x,e=.returned x∧IsW w' (Lard.ranL key.data.toList ((Lard.prog t).run (Lard.needL Br) (s,[]))).1 x∧LPost w lb L (Lard.ranL key.data.toList ((Lard.prog t).run (Lard.needL Br) (s,[]))).2 w'∧Phi ((Lard.prog t).run (Lard.needL Br) (s,[])).2.1≤Phi s:=by
 have hpl:p < w.heap.size:=by
  refine Decidable.byContradiction fun hn=>?_
  have:w.heap[p]? = none:=Array.getElem?_eq_none_iff.2 (by omega)
  simp [World.cell?,this] at c1
 have hc1:∀ o,(w.alloc o).cell? ⟨p,1,none⟩=some (ptr b):=fun o=>(World.cell?_of_block (Below.heap_alloc w o p hpl)).trans c1
 have hc2:∀ o o',((w.alloc o).alloc o').cell? ⟨p,1,none⟩=some (ptr b):=fun o o'=>(World.cell?_of_block (Below.heap_alloc (w.alloc o) o' p (by simp; omega))).trans (hc1 o)
 have hw0:w.heap.size=w.heap.size:=rfl
 have HPTR:=hide hp
 have HX:=hide hx
 clear hp hx
 generalize hRR:(fun (e:Ending) (w':World)=>∃ x,e=.returned x∧IsW w' (Lard.ranL key.data.toList ((Lard.prog t).run (Lard.needL Br) (s,[]))).1 x∧LPost w lb L (Lard.ranL key.data.toList ((Lard.prog t).run (Lard.needL Br) (s,[]))).2 w'∧Phi ((Lard.prog t).run (Lard.needL Br) (s,[])).2.1≤Phi s)=RR
 have hmf:∀ (fn:Fn) (first cap:Array Value) (w:World),(Instr.makeFunc fn first cap).run Tryz.prog w=.ok (.func fn first cap) w:=fun _ _ _ _=>rfl
 have HRC:=@rc_begin w
 unfold ptr at c1 hc1 hc2 HRC ⊢
 obtain ⟨n,hn⟩:∃ n,w.heap.size=n:=⟨_,rfl⟩
 refine (callsIn_wide (n:=0)).1 ?_
 refine callsIn_of_wp_marks Tryz.func125 rfl trivial ?_
 simp only [Tryz.ntmps125,List.size_toArray,List.length_cons,List.length_nil,Nat.reduceAdd,Nat.reduceSub,Array.replicate_succ,Array.replicate_zero,List.push_toArray,List.append_toArray,List.nil_append,List.cons_append]
 gi_wp2_with fail
 refine ⟨trivial,rfl,(callsIn_wide.2 (of_any _ _)).mono ?_⟩
 rintro e w1 ⟨rfl,hR1,hB1,hs1⟩
 simp only [World.size_alloc,hn] at hR1 hB1 hs1
 gi_wp2_with fail
 obtain ⟨Wb,hWb⟩:∃ Wb,((w1.alloc (Obj.cells #[Value.pointer (some { block:=n + 1 + 1,off:=0 })] 242)).alloc (Obj.cells #[Value.slice none 0 0] 129))=Wb:=⟨_,rfl⟩
 have hszb:Wb.heap.size=n + 5:=by rw [←hWb]; simp [hs1]
 rw [hWb]
 refine wpIn_rangeFunc ?_
 intro fn hfn
 refine ⟨_,_,_,_,_,_,_,_,run_enterLoop_outer _ _ _ _ _,(by simp [resolve,go_sem]; exact ⟨rfl,rfl⟩),(fun _ _=>trivial),(by simp [invoke,go_sem]; exact ⟨⟨rfl,rfl⟩,rfl⟩),(fun h=>by cases h),?_⟩
 simp only [hszb]
 refine named_loop (C:=fun x=>CallsIn _ _ _ _ _ x _) _ ?_
 intro lp hlp
 obtain ⟨c,hc,ok,⟨F0,hJ0,hF0⟩,g0,hB0,hsz0,hD0,h60,hR0⟩:=HRC h g hd hn hR1 hB1 hs1 hWb lp (by rw [hlp]) (by rw [hlp])
 have hcw:c.w0=(Wb.alloc (.deferred (some []))).alloc (.loop lp):=by rw [hc]
 have hcl:c.l=n + 5 + 1:=by rw [hc]
 have hcr:c.rb=n + 1 + 1:=by rw [hc]
 have hcb:c.lb=lb:=by rw [hc]
 have hc3:c.b3=n:=by rw [hc]
 have hc7:c.b7=n + 1 + 1 + 1:=by rw [hc]
 have hc8:c.b8=n + 1 + 1 + 1 + 1:=by rw [hc]
 have hcs:c.s0=s:=by rw [hc]
 have hclp:c.lp=lp:=by rw [hc]
 have HCC:=hide hc
 clear hc
 have hE:EnvOK (envOf c Br (.pointer (some ⟨b,0,none⟩))):=envOf_ok ok Br _ (fun k2 F σ W f tc ti hJ hR gW hk2 hcnt=>by
  obtain ⟨L',sl,q1,q2,q3,q4,q5,q6⟩:=JL.round ok hJ hR gW (busy:={ c.lp with state:=.busy })
  have hN:Lard.Nst c.s0 σ.1.1 σ.2∧Phi σ.1.1≤Phi c.s0∧σ.1.2.length≤σ.2∧W.heap[c.b3]? = some (.cells #[ptr c.lb] 29 (0,0)):=by
   obtain ⟨L',sl,_,h1,h2,h2',h3,h4,h5,h6,h7,h8,h9,h10,h11⟩:=hJ
   exact ⟨h8,h10,h9,(h4 c.b3 (lt_of_some ok.c3) ok.out.2.1 ok.ne.1 ok.ne.2.2.2.2.1).trans ok.c3⟩
  have hPs:P σ.1.1:=hP _ σ.2 (hcs ▸ hN.1) (by omega) (hcs ▸ hN.2.1)
  have HC:=HB _ _ _ k2 (hcb ▸ q1) q2 q3 hPs hk2
  refine ⟨_,_,_,_,run_yield q4 (by rw [hclp,hlp]; rfl),roundIn_of_wpIn trivial ?_⟩
  have hbr:=run_beginRound (P:=Tryz.prog) q4 ok.ready
  have hlpc:∀ W:World,W.heap[c.l]? = some (.loop { c.lp with state:=.busy })→(Instr.endRound c.l none).run Tryz.prog W=.ok (.bool true) (W.putObj c.l (.loop c.lp)):=fun W hW=>by
   have:=run_endRound (P:=Tryz.prog) none hW
   rw [this]
   have h1:=ok.ready
   have h2:=ok.pend
   generalize c.lp=z at h1 h2
   cases z
   cases h1
   cases h2
   rfl
  have e3:(W.putObj c.l (.loop { c.lp with state:=.busy })).cell? ⟨n,0,none⟩=some (.pointer (some ⟨lb,0,none⟩)):=by
   have:=hN.2.2.2
   rw [hc3,hcb] at this
   have h':(W.putObj c.l (.loop { c.lp with state:=.busy })).heap[n]? = _:=(World.putObj_heap_other (by rw [hcl]; omega)).trans this
   simp [World.cell?,h',ptr]
  rw [hc7,hc8] at q6
  unfold ptr at HC q6
  rw [hcb] at q6
  simp only [hclp,hlp]
  obtain ⟨Wy,hWy⟩:∃ Wy,W.putObj c.l (.loop { c.lp with state:=.busy })=Wy:=⟨_,rfl⟩
  rw [hWy] at HC e3 q6 hbr
  have HQ:=hide q6
  have HE:=hide hlpc
  have HCh:=hide HC
  have hlen:σ.1.2.length≤500:=by have:=hN.2.2.1; omega
  clear q6 HC hlpc hN q1 q2 q3 q4 hJ hWy hlp HRC hcl hcr hcb hc3 hc7 hc8 hcs hclp hcw
  simp only [List.zip_toArray,List.zip_cons_cons,List.zip_nil_right,List.size_toArray,List.foldl_toArray,List.foldl_cons,List.foldl_nil,List.setIfInBounds_toArray,List.set_cons_succ,List.set_cons_zero]
  gi_wp2_with fail
  refine ⟨trivial,rfl,CallsIn.inRound c.l ((callsIn_wide.2 HCh.out).mono ?_)⟩
  rintro e w2 ⟨x0,rfl,hW2,hP2,hPhi2,hN2⟩
  obtain ⟨cx,ix,rfl,hix⟩:=hW2.form
  obtain ⟨r1,r2,r3,r4⟩:=HQ.out _ _ w2 _ _ hP2 hW2 hN2 hPhi2
  have k7:∀ o,(w2.alloc o).cell? ⟨n + 1 + 1 + 1,0,none⟩=some (.pointer (some ⟨c.rb,0,none⟩)):=fun o=>by
   have:=(Below.heap_alloc w2 o _ (lt_of_some r3)).trans r3
   simp [World.cell?,this]
  have HT:=hide (tell_any c.rb f _ _ tc ti _ _ _ _ _ (r1 _) r2)
  have HR4:=hide r4
  clear r4 r1 r2 r3 hP2 hN2 hPhi2 hW2
  rcases hix with rfl | ⟨tx,ax,rfl⟩
  all_goals
   gi_wp2_with fail
   refine ⟨trivial,rfl,CallsIn.inRound c.l ((callsIn_wide.2 HT.out).mono ?_)⟩
   rintro e w4 ⟨rfl,cx',ix',he,hR4,hg4,hs4⟩
   cases he
   obtain ⟨g4,n4,i4,b84,bx4,r5⟩:=HR4.out w4 hg4 hR4
   have k8:w4.cell? ⟨n + 1 + 1 + 1 + 1,0,none⟩=some sl:=by simp [World.cell?,b84]
   have kx0:w4.cell? ⟨w2.heap.size,0,none⟩=some (.int .i64 cx):=by simp [World.cell?,bx4]
   have kx1:=cell_snd bx4
   have HWn:=hide (withNeed_any w4 _ sl k2 _ _ g4 n4 hlen hk2 i4)
   obtain ⟨so,sc,hsl⟩:=n4.len
   have HR5:=hide r5
   clear r5 g4 n4 i4 b84 bx4 HR4 HT HCh HQ hR4 hg4 hs4
   subst hsl
   gi_wp2_with fail
   refine ⟨trivial,rfl,CallsIn.inRound c.l ((callsIn_wide.2 HWn.out).mono ?_)⟩
   rintro e w5 ⟨sl',rfl,hN5,hRw⟩
   obtain ⟨s1,s2,F',s3,s4,s5,s6,s7⟩:=HR5.out _ w5 sl' hN5 hRw
   obtain ⟨so',sc',hsl'⟩:=hN5.len
   have m8:w5.cell? ⟨n + 1 + 1 + 1 + 1,0,none⟩=some (.slice so σ.1.2.length sc):=by simp [World.cell?,s1]
   have z8:w5.frozen? ⟨n + 1 + 1 + 1 + 1,0,none⟩=false:=by simp [World.frozen?,s1]
   have hend:=HE.out _ s2
   have FIN:(Ending.returned (Value.bool true)=Ending.returned (Value.bool true))∧∃ x i F',IsW ((w5.setCell ⟨n + 1 + 1 + 1 + 1,0,none⟩ sl').putObj c.l (.loop c.lp)) (needN Br k2.data.toList σ).1 (.agg #[x,i])∧RunAt ((w5.setCell ⟨n + 1 + 1 + 1 + 1,0,none⟩ sl').putObj c.l (.loop c.lp)) c.rb (.pointer (some ⟨b,0,none⟩)) (.func (.yield c.l) #[] #[]) x i f (.int .i64 0) .nilIface∧JL c F' (needN Br k2.data.toList σ).2 ((w5.setCell ⟨n + 1 + 1 + 1 + 1,0,none⟩ sl').putObj c.l (.loop c.lp))∧(∀ k,F' k→F k∨W.heap.size≤k)∧Fm 8 W ((w5.setCell ⟨n + 1 + 1 + 1 + 1,0,none⟩ sl').putObj c.l (.loop c.lp)):=⟨rfl,_,_,F',s3,s4,s5,s6,s7⟩
   have HF:=hide (And.intro hend FIN)
   subst hsl'
   clear FIN hend s1 s2 s3 s4 s5 s6 s7 hRw hN5 HR5 HWn HE hbr
   gi_wp2_with fail
   obtain ⟨hend,-,x,i,F',t1,t2,t3,t4,t5⟩:=HF.out
   exact ⟨_,_,hend,rfl,x,i,t1,t2,F',t3,t4,t5⟩)
 have hxw:IsTree c.w0 (Lard.hM t) t (.pointer (some ⟨b,0,none⟩)):=(show IsTree w (Lard.hM t) t (ptr b) from HX.out).keeps (Keeps.below (by rw [hn]; exact hB0))
 have HN:=needs_any (envOf c Br (.pointer (some ⟨b,0,none⟩))) hE (Lard.hM t) t b F0 400 ((s,[]),0) .nilFunc (.int .i64 0) .nilIface c.w0 hok rfl hxw hR0 hJ0 g0 (by show 0 + 400≤400; omega)
 have hq:=ev_prog Br t s
 have HN':Calls Tryz.prog 161 #[.pointer (some ⟨n + 1 + 1,0,none⟩),.func (.yield (n + 5 + 1)) #[] #[]] ((Wb.alloc (.deferred (some []))).alloc (.loop lp)) (NeedsPost (envOf c Br (.pointer (some ⟨b,0,none⟩))) F0 c.w0 (Lard.ev (needN Br) (Lard.hM t) t none (400,((s,[]),0)))):=by
  have this:Calls Tryz.prog 161 #[.pointer (some ⟨c.rb,0,none⟩),.func (.yield c.l) #[] #[]] c.w0 (NeedsPost (envOf c Br (.pointer (some ⟨b,0,none⟩))) F0 c.w0 (Lard.ev (needN Br) (Lard.hM t) t none (400,((s,[]),0)))):=HN
  rw [hcr,hcl] at this
  rw [←hcw]
  exact this
 refine (callsIn_wide.2 HN').mono ?_
 rintro e W ⟨rfl,F',x,i,tc,ti,hW,hR,hJ,hcnt,hF,hfm,gW⟩
 have hR':RunAt W (n + 1 + 1) (.pointer (some ⟨b,0,none⟩)) .nilFunc tc ti (Lard.ev (needN Br) (Lard.hM t) t none (400,((s,[]),0))).2.1 x i:=hcr ▸ hR
 have hW':IsW W (Lard.ev (needN Br) (Lard.hM t) t none (400,((s,[]),0))).1 (.agg #[x,i]):=hW
 have hJ':JL c F' (Lard.ev (needN Br) (Lard.hM t) t none (400,((s,[]),0))).2.2 W:=hJ
 have hcnt':(Lard.ev (needN Br) (Lard.hM t) t none (400,((s,[]),0))).2.2.2≤400:=by
  have:(Lard.ev (needN Br) (Lard.hM t) t none (400,((s,[]),0))).2.2.2 + (Lard.ev (needN Br) (Lard.hM t) t none (400,((s,[]),0))).2.1≤400:=hcnt
  omega
 obtain ⟨W4,hend,sl,hP4,hb4,hb34,hb84,hN4,ho4,hW4,g4,d4,hl4,hNst4,hPhi4⟩:=run_end HCC.out ok hn (by have:=g.size; omega) (hcw ▸ hB0) (hcw ▸ hsz0) h (hcw ▸ hD0) (hcw ▸ h60) hJ' (hcw ▸ hfm) hR' hW' gW
 rw [hq.1] at hW4
 rw [hq.2] at hP4 hN4 hNst4 hPhi4 hl4
 generalize ((Lard.prog t).run (Lard.needL Br) (s,[]))=q at hW4 hP4 hN4 hNst4 hPhi4 hl4 hRR
 obtain ⟨r,s4,ns⟩:=q
 have hRE:RE w lb n L x i sl r ns s4 W4:=⟨hP4,hb4,hb34,hb84,hN4,ho4,hW4,g4,d4⟩
 have h8:8≤n:=by have:=g.size; omega
 have hlen:ns.length≤401:=by have:ns.length≤_:=hl4; omega
 have hj4:(jbytes s4.jr).length≤70368744177664:=by
  have h1:Phi s4≤Phi s:=hPhi4
  have h2:(jbytes s4.jr).length≤Phi s4:=Nat.le_add_right _ _
  omega
 obtain ⟨th4,hl4',htr4⟩:=nst_look hNst4 hl
 have htr4':th4.tree≠none:=by rw [htr4,htr]; exact fun e=>by cases e
 rename_i K HK
 refine ⟨none,W4,hend,?_⟩
 show K _ W4
 refine HK _ _ (wpIn_wide.2 ?_)
 obtain ⟨cx,ix,hxi,hix⟩:=hW4.form
 cases hxi
 have hcode:((cx != 12)=true∧Lard.isRound r=false)∨((cx != 12)=false∧Lard.isRound r=true):=by
  rcases hW4 with ⟨v,y,rfl,he,_⟩ | ⟨c',rfl,he,h0,h1⟩
  ·cases he; exact .inl ⟨rfl,rfl⟩
  ·cases he
   by_cases h12:c'=12
   ·subst h12; exact .inr ⟨rfl,rfl⟩
   ·refine .inl ⟨?_,?_⟩
    ·simp; omega
    ·simp [Lard.isRound,h12]
 have HPH:Hid (Phi s4≤Phi s):=hide hPhi4
 have HRE:=hide hRE
 obtain ⟨tl1,tl2⟩:=hRE.tail hn
 have HTL:=hide tl2
 have HW:=hide (worth_any _ _ _ _ _ _ _ _ _ _ (hb4.run.choose_spec.choose_spec.choose_spec.choose_spec.choose_spec) hW4)
 clear tl2 hRE hP4 hb4 hb34 hb84 hN4 ho4 hW4 hl4 hNst4 hPhi4 hJ hJ' hR hR' hW hW' hfm gW hcnt hcnt' hq HN HN' hE HRC HB hP HCC hF hJ0 hF0 g0 hB0 hsz0 hD0 h60 hR0 ok hcw hcl hcr hcb hc3 hc7 hc8 hcs hclp hxw hlp hWb hszb hR1 hB1 hs1
 have hfield:∀ (a b:Value) (w:World),(Instr.field 113 (.agg #[a,b]) 0).run Tryz.prog w=.ok a w:=fun _ _ _=>by kernel_rfl
 rcases hix with hix0 | ⟨tx,ax,hix0⟩
 all_goals
  subst hix0
  go_wp2_with fail
  refine HW.out.mono ?_
  rintro e W5 ⟨rfl,hB5,hs5⟩
  have hRE5:=HRE.out.below hB5
  have k3:W5.cell? ⟨n,0,none⟩=some (.pointer (some ⟨lb,0,none⟩)):=by simp [World.cell?,hRE5.b3,ptr]
  have k7:W5.cell? ⟨n + 1 + 1 + 1,0,none⟩=some (.pointer (some ⟨n + 1 + 1,0,none⟩)):=by simp [World.cell?,hRE5.blk.b7,ptr]
  have k8:W5.cell? ⟨n + 1 + 1 + 1 + 1,0,none⟩=some sl:=by simp [World.cell?,hRE5.b8]
  have hkept:=hRE5.kept (by simpa using hk) hl4' HPTR.out
  have HRE5:=hide hRE5
  clear hRE5 HRE HW HTL tl1 hB5 hs5
  rcases hcode with ⟨hcx,hrd⟩ | ⟨hcx,hrd⟩
  ·clear hkept
   have hfin:∀ Wf,LPost w lb L (s4.keep key.data.toList ⟨r,ns⟩) Wf→∀ v,IsW Wf r v→RR (.returned v) Wf:=fun Wf h1 v h2=>by
    rw [←hRR]
    refine ⟨v,rfl,h2,?_,HPH.out⟩
    simp only [Lard.ranL,hrd]
    exact h1
   have HFIN:=hide hfin
   clear hfin
   obtain ⟨so,sc,hsl⟩:=HRE5.out.needs.len
   subst hsl
   go_wp2_with fail
   rename_i K5 HK5
   refine wp_onlyN K5 (fun a w h=>h) ?_
   refine wp_region_held_drew (S:=fun w'=>w'.cell? ⟨n,0,none⟩=some (.pointer (some ⟨lb,0,none⟩))∧w'.cell? ⟨n + 1 + 1 + 1,0,none⟩=some (.pointer (some ⟨n + 1 + 1,0,none⟩))∧w'.cell? ⟨n + 1 + 1 + 1 + 1,0,none⟩=some (.slice so ns.length sc)) (by kernel_rfl) ⟨k3,k7,k8⟩ (fun hHeld=>?_)
   refine wpAnyH_take (i:=0) (v:=?_) rfl (by kernel_rfl) (by kernel_rfl) (by kernel_rfl) (fun _ _ _ h=>h) (Or.inl ⟨by rfl,?_⟩) ⟨k3,k7,k8⟩ ?_
   rotate_left
   ·rintro w' ⟨a0,a7,a8⟩
    go_simp
    try with_reducible rfl
   simp only [Act.put,List.setIfInBounds_toArray,List.set_cons_zero,List.set_cons_succ]
   refine wpAnyH_take (i:=1) (v:=?_) rfl (by kernel_rfl) (by kernel_rfl) (by kernel_rfl) (fun _ _ _ h=>h) (Or.inl ⟨by rfl,?_⟩) ⟨k3,k7,k8⟩ ?_
   rotate_left
   ·rintro w' ⟨a0,a7,a8⟩
    go_simp
    try with_reducible rfl
   simp only [Act.put,List.setIfInBounds_toArray,List.set_cons_zero,List.set_cons_succ]
   refine wpAnyH_take (i:=2) (v:=?_) rfl (by kernel_rfl) (by kernel_rfl) (by kernel_rfl) (fun _ _ _ h=>h) (Or.inl ⟨by rfl,?_⟩) ⟨k3,k7,k8⟩ ?_
   rotate_left
   ·rintro w' ⟨a0,a7,a8⟩
    go_simp
    try with_reducible rfl
   simp only [Act.put,List.setIfInBounds_toArray,List.set_cons_zero,List.set_cons_succ]
   refine wpAnyH_take (i:=4) (v:=?_) rfl (by kernel_rfl) (by kernel_rfl) (by kernel_rfl) (fun _ _ _ h=>h) (Or.inl ⟨by rfl,?_⟩) ⟨k3,k7,k8⟩ ?_
   rotate_left
   ·rintro w' ⟨a0,a7,a8⟩
    go_simp
    try with_reducible rfl
   simp only [Act.put,List.setIfInBounds_toArray,List.set_cons_zero,List.set_cons_succ]
   have hRE6:=HRE5.out.below ((Below.refl _ W5).drew)
   obtain ⟨tree6,y6,tc6,ti6,f6,hR6⟩:=hRE6.blk.run
   refine wpAnyH_ready (rs:=[3]) (by kernel_rfl) (by simp) ?_
   refine AllReadyH.cons rfl (fun K hK=>?_) AllReadyH.nil
   go_simp
   refine (worth_any _ _ _ _ _ _ _ _ _ _ hR6 hRE6.wor).mono ?_
   rintro e W7 ⟨rfl,hB7,-⟩
   have hRE7:=hRE6.below hB7
   have hS7:W7.cell? ⟨n,0,none⟩=some (.pointer (some ⟨lb,0,none⟩))∧W7.cell? ⟨n + 1 + 1 + 1,0,none⟩=some (.pointer (some ⟨n + 1 + 1,0,none⟩))∧W7.cell? ⟨n + 1 + 1 + 1 + 1,0,none⟩=some (.slice so ns.length sc):=⟨by simp [World.cell?,hRE7.b3,ptr],by simp [World.cell?,hRE7.blk.b7,ptr],by simp [World.cell?,hRE7.b8]⟩
   refine hK.out _ _ hS7 (fun _=>?_)
   clear hK hHeld
   have HK7:=hide (hRE7.keep hn h8 hlen key hk hl4' htr4' hj4)
   have hRE8:=fun o=>hRE7.below ((Below.refl _ W7).alloc (Nat.le_refl _) o)
   have hS8:∀ o,(W7.alloc o).cell? ⟨n,0,none⟩=some (.pointer (some ⟨lb,0,none⟩))∧(W7.alloc o).cell? ⟨n + 1 + 1 + 1,0,none⟩=some (.pointer (some ⟨n + 1 + 1,0,none⟩))∧(W7.alloc o).cell? ⟨n + 1 + 1 + 1 + 1,0,none⟩=some (.slice so ns.length sc):=fun o=>⟨by simp [World.cell?,(hRE8 o).b3,ptr],by simp [World.cell?,(hRE8 o).blk.b7,ptr],by simp [World.cell?,(hRE8 o).b8]⟩
   clear hRE8 hRE7 hRE6 hR6 HRE5
   refine wpAnyH_ready (rs:=[5]) (by kernel_rfl) (by simp) ?_
   refine AllReadyH.cons rfl (fun K hK=>?_) AllReadyH.nil
   go_simp
   refine hK.out _ _ hS7 (fun _=>?_)
   clear hK
   refine wpAnyH_ready (rs:=[6]) (by kernel_rfl) (by simp) ?_
   refine AllReadyH.cons rfl (fun K hK=>?_) AllReadyH.nil
   go_simp
   refine hK.out _ _ (hS8 _) (fun _=>?_)
   clear hK hS8
   refine wpAnyH_ready (rs:=[7]) (by kernel_rfl) (by simp) ?_
   refine AllReadyH.cons rfl (fun K hK=>?_) AllReadyH.nil
   go_simp
   refine HK7.out.mono ?_
   rintro e W9 ⟨rfl,⟨tl1,tl⟩,b39,b89⟩
   refine hK.out _ _ ⟨by simp [World.cell?,b39,ptr],tl1,by simp [World.cell?,b89]⟩ (fun _=>?_)
   clear hK HK7
   refine wpAnyH_done (by kernel_rfl) ?_ _
   show K5 _ W9
   have HTL:=hide tl
   clear tl
   go_wp2_with fail
   refine HTL.out.mono ?_
   rintro e W6 ⟨rfl,m0,m1,z0,z1,Wf,hta,hbf,hPf,hWf⟩
   have HR:=hide (HFIN.out _ hPf _ hWf)
   have f0:Wf.cell? ⟨n + 1,0,none⟩=some (.int .i64 cx):=by simp [World.cell?,hbf]
   have f1:=cell_snd hbf
   clear hPf hWf HFIN
   go_wp2_with fail
   refine ⟨(fun e=>by cases e),.inl ⟨n + 5,Wf,rfl,hta,?_⟩⟩
   refine ⟨_,?_,HR.out⟩
   simp [results,Tryz.results125,go_sem,f0,f1]
  ·rcases hkept with ⟨hk0,hk3⟩ | ⟨hks,ak,hk3⟩
   ·have hfin:∀ Wf,LPost w lb L s4 Wf→∀ v,IsW Wf r v→RR (.returned v) Wf:=fun Wf h1 v h2=>by
     rw [←hRR]
     refine ⟨v,rfl,h2,?_,HPH.out⟩
     have hkn:(Lard.keptOf s4.has key.data.toList).isSome=false:=by simp [Lard.keptOf,hl4',hk0]
     simp only [Lard.ranL,hrd,hkn]
     exact h1
    have HFIN:=hide hfin
    clear hfin
    go_wp2_with fail
    obtain ⟨_,tl⟩:=HRE5.out.tail hn
    refine tl.mono ?_
    rintro e W6 ⟨rfl,m0,m1,z0,z1,Wf,hta,hbf,hPf,hWf⟩
    have HR:=hide (HFIN.out _ hPf _ hWf)
    have f0:Wf.cell? ⟨n + 1,0,none⟩=some (.int .i64 cx):=by simp [World.cell?,hbf]
    have f1:=cell_snd hbf
    clear hPf hWf HFIN HRE5
    go_wp2_with fail
    refine ⟨(fun e=>by cases e),.inl ⟨n + 5,Wf,rfl,hta,?_⟩⟩
    refine ⟨_,?_,HR.out⟩
    simp [results,Tryz.results125,go_sem,f0,f1]
   ·have hfin:∀ Wf,LPost w lb L (s4.lose key.data.toList) Wf→∀ v,IsW Wf r v→RR (.returned v) Wf:=fun Wf h1 v h2=>by
     rw [←hRR]
     refine ⟨v,rfl,h2,?_,HPH.out⟩
     simp only [Lard.ranL,hrd,hks]
     exact h1
    have HFIN:=hide hfin
    clear hfin
    go_wp2_with fail
    refine (HRE5.out.lose hn key hk hl4' hj4).mono ?_
    rintro e W7 ⟨rfl,tl1,tl⟩
    have HTL:=hide tl
    clear tl
    go_wp2_with fail
    refine HTL.out.mono ?_
    rintro e W6 ⟨rfl,m0,m1,z0,z1,Wf,hta,hbf,hPf,hWf⟩
    have HR:=hide (HFIN.out _ hPf _ hWf)
    have f0:Wf.cell? ⟨n + 1,0,none⟩=some (.int .i64 cx):=by simp [World.cell?,hbf]
    have f1:=cell_snd hbf
    clear hPf hWf HFIN HRE5
    go_wp2_with fail
    refine ⟨(fun e=>by cases e),.inl ⟨n + 5,Wf,rfl,hta,?_⟩⟩
    refine ⟨_,?_,HR.out⟩
    simp [results,Tryz.results125,go_sem,f0,f1]
end
section
namespace Lard
structure Hs (s s':LS):Prop where
 begun:s'.begun=s.begun
 has:∀ k∈s.begun,look s'.has k=look s.has k
theorem Hs.refl (s:LS):Hs s s:=⟨rfl,fun _ _=>rfl⟩
theorem Hs.trans {a b c:LS} (h:Hs a b) (h':Hs b c):Hs a c:=⟨h'.begun.trans h.begun,fun k hk=>(h'.has k (h.begun ▸ hk)).trans (h.has k hk)⟩
structure Hk (key:By) (s s':LS):Prop where
 begun:s'.begun=s.begun
 has:∀ k∈s.begun,k≠key→look s'.has k=look s.has k
theorem Hs.hk {s s':LS} (h:Hs s s') (key:By):Hk key s s':=⟨h.begun,fun k hk _=>h.has k hk⟩
variable {Br:By→LS→Wo×LS}
theorem due_hs (hB:∀ k s,Hs s (Br k s).2) (key:By):∀ (l:List (By×Wo)) (s:LS),Hs s (dueL Br key l s).2
 |[],s=>Hs.refl s
 |(k,w) :: r,s=>by
  unfold dueL
  split
  ·exact (hB k s).trans (due_hs hB key r _)
  ·exact hB k s
theorem prog_hs (hB:∀ k s,Hs s (Br k s).2) (p:Pg Wo):∀ (s:LS) (ns:List (By×Wo)),Hs s (p.run (needL Br) (s,ns)).2.1 :=
 Pg.ind (P:=fun p=>∀ (s:LS) (ns:List (By×Wo)),Hs s (p.run (needL Br) (s,ns)).2.1) (fun a s ns=>Hs.refl s) (fun k f ih s ns=>(hB k s).trans (ih _ _ _)) p
theorem ran_hk (key:By) (q:Wo×(LS×List (By×Wo))):Hk key q.2.1 (ranL key q).2:=by
 unfold ranL
 have hset:∀ (o:Option Keep) (k:By),k≠key→look (setKept q.2.1.has key o) k=look q.2.1.has k:=fun o k hk=>by
  rw [look_setKept,if_neg (fun e=>hk e.symm)]
 by_cases h:isRound q.1=true
 ·simp only [h,if_true]
  split
  ·exact ⟨rfl,fun k _ hk=>hset none k hk⟩
  ·exact ⟨rfl,fun k _ hk=>rfl⟩
 ·simp only [h]
  exact ⟨rfl,fun k _ hk=>hset _ k hk⟩
theorem run_hk (hB:∀ k s,Hs s (Br k s).2) (key:By) (t:T) (y:Why) (s:LS):Hk key s (runL Br key t y s).2:=by
 unfold runL
 have h1:=prog_hs hB (prog t) { s with ran:=s.ran++[y] } []
 have h2:=ran_hk key ((prog t).run (needL Br) ({ s with ran:=s.ran++[y] },[]))
 exact ⟨h2.begun.trans h1.begun,fun k hk hne=>(h2.has k (by rw [h1.begun]; exact hk) hne).trans (h1.has k hk)⟩
theorem work_hk (hB:∀ k s,Hs s (Br k s).2) (key:By) (s:LS):Hk key s (workL Br key s).2:=by
 cases hl:look s.has key with
 |none =>
  simp only [workL,hl]
  exact (Hs.refl s).hk key
 |some th =>
  cases ht:th.tree with
  |none =>
   simp only [workL,hl,ht]
   exact (Hs.refl s).hk key
  |some t =>
   simp only [workL,hl,ht]
   cases th.kept with
   |none=>exact run_hk hB key t _ s
   |some k =>
    have h1:=due_hs hB key k.needs s
    unfold ruleL
    cases hd:dueL Br key k.needs s with
    |mk o s1 =>
     rw [hd] at h1
     simp only [hd]
     cases o with
     |none=>exact h1.hk key
     |some y =>
      have h2:=run_hk hB key t y s1
      exact ⟨h2.begun.trans h1.begun,fun k' hk hne=>(h2.has k' (by rw [h1.begun]; exact hk) hne).trans (h1.has k' hk)⟩
theorem bringW_hs {Wk:By→LS→Wo×LS} (hW:∀ key s,Hk key s (Wk key s).2) (key:By) (s:LS):Hs s (bringW Wk key s).2:=by
 unfold bringW
 cases look s.done key with
 |some w=>exact Hs.refl s
 |none =>
  by_cases hc:s.begun.contains key=true
  ·rw [if_pos hc]
   show Hs s (s.meet key)
   unfold LS.meet
   by_cases hr:s.ring=[]
   ·rw [if_pos hr]
    exact ⟨rfl,fun _ _=>rfl⟩
   ·rw [if_neg hr]
    exact Hs.refl s
  ·rw [if_neg hc]
   have h:=hW key { s with begun:=s.begun++[key] }
   refine ⟨?_,fun k hk=>?_⟩
   ·show (Wk key { s with begun:=s.begun++[key] }).2.begun.dropLast=s.begun
    rw [h.begun]
    simp
   ·refine h.has k (List.mem_append_left _ hk) (fun e=>hc ?_)
    subst e
    simpa using hk
theorem bring_hs:∀ (n:Nat) (key:By) (s:LS),Hs s (bring n key s).2
 |0,key,s=>bringW_hs (fun key s=>(Hs.refl s).hk key) key s
 |n + 1,key,s=>bringW_hs (work_hk (bring_hs n)) key s
end Lard
end
section
set_option maxRecDepth 100000
set_option maxHeartbeats 1000000
open Go.RowKit Go.Shelf
theorem strsAt.cell {w:World} {g n c:Nat} {l:List (List UInt8)} (h:strsAt w (.slice (some ⟨g,0,none⟩) n c) l):n=l.length∧∀ (j:Nat) (x:List UInt8),l[j]? = some x→w.cell? ⟨g,j,none⟩=some (str x):=by
 have hc:=World.ownsRow.cells h (g:=g) rfl
 refine ⟨?_,fun j x hx=>?_⟩
 ·rcases h.2 with ⟨h1,_⟩ | ⟨g',cap,cur,h1,_⟩
  ·cases h1
  ·cases h1; rfl
 ·have:=hc j (str x) (by rw [List.getElem?_map,hx]; rfl)
  have e:(⟨g,0,none⟩:Addr).add j=⟨g,j,none⟩:=by cases j <;> simp [Addr.add]
  rw [e] at this
  exact this
theorem row_base {w:World} {b b':Nat} {e:TypeId} {size n:Nat} {v:Value} {xs:List Value} (h:w.ownsRow b e size v n xs) (hb:b'≤b):w.ownsRow b' e size v n xs:=by
 obtain ⟨h1,h2⟩:=h
 refine ⟨h1,?_⟩
 rcases h2 with h2 | ⟨g,cap,cur,h3,h4,h5⟩
 ·exact .inl h2
 ·exact .inr ⟨g,cap,cur,h3,Nat.le_trans hb h4,h5⟩
theorem row_some {w:World} {b:Nat} {e:TypeId} {size n:Nat} {v:Value} {xs:List Value} (h:w.ownsRow b e size v n xs) (hv:v≠.slice none 0 0):∃ g cap,v=.slice (some ⟨g,0,none⟩) n cap∧b≤g:=by
 rcases h.2 with ⟨h1,_⟩ | ⟨g,cap,cur,h1,h2,_⟩
 ·exact (hv h1).elim
 ·exact ⟨g,cap,h1,h2⟩
theorem tn_below {e0:TypeId} {w w':World} (h:Below w.heap.size w w'):Tn e0 w w' none :=
 ⟨⟨h.os,h.tape,h.output,h.size,fun k hk _=>h.block k hk⟩,fun b hb=>by cases hb⟩
theorem LP.ringTo {w w1:World} {lb:Nat} {s:Lard.LS} {L:Nat→Prop} {hb db:Nat} {vb vr vn vj:Value} (h:LP w lb s L hb db vb vr vn vj) (g:G w) (hB:Below w.heap.size w w1) {l:List (List UInt8)} {g' cap n:Nat} (hn:n=l.length) (hl:l≠[]) (ho:w1.ownsRow w.heap.size 9 1 (.slice (some ⟨g',0,none⟩) n cap) n (l.map str)) (hg:w.heap.size≤g') :
  LPost w lb L { s with ring:=l } (w1.setCell ⟨lb,3,none⟩ (.slice (some ⟨g',0,none⟩) n cap)):=by
 subst hn
 have ht:Tn 9 w w1 none:=tn_below hB
 have ho8:=row_base ho (b':=8) g.size
 refine h.turned 9 none ht (.inr (.inl rfl)) (by decide) (by decide) (by decide) (by decide) (fun b hb=>by cases hb) (fun k=>k=g') (fun k hk=>by subst hk; exact ⟨hg,row_typed ho8 rfl⟩) g 3 _ rfl rfl rfl (own_below h.begun hB) ho8 (own_below h.ran hB) (own_below h.jr hB) (fun k hk=>?_) (fun k hk e=>?_) (fun e=>(hl e).elim)
 ·rcases hk with hk | hk | hk | hk
  ·exact .inl (h.mine k (.inl hk))
  ·cases hk; exact .inr rfl
  ·exact .inl (h.mine k (.inr (.inr (.inl hk))))
  ·exact .inl (h.mine k (.inr (.inr (.inr hk))))
 ·cases e
  have:g' < w.heap.size:=h.lt (h.mine _ (.inl hk))
  omega
theorem eqNilS (w:World) (a:Option Addr) (n c n' c':Nat):(binOp .eql 40 (.slice a n c) (.slice none n' c')).run Tryz.prog w=.ok (.bool a.isNone) w :=
 Lib.run_eql_slice_nil w _ _ a n c n' c' Tryz.underlying40
def bas (l:List (List UInt8)):List ByteArray:=l.map fun x=>⟨x.toArray⟩
theorem bas_str (l:List (List UInt8)):(bas l).map Value.string=l.map str:=by
 unfold bas
 rw [List.map_map]
 rfl
theorem bas_cells {w:World} {g n c:Nat} {l:List (List UInt8)} (h:strsAt w (.slice (some ⟨g,0,none⟩) n c) l) (off:Nat):∀ j,j < (bas (l.drop off)).length→w.cell? ⟨g,off + j,none⟩=some (.string ((bas (l.drop off)).getD j ByteArray.empty)):=fun j hj=>by
 have hj':off + j < l.length:=by
  unfold bas at hj
  rw [List.length_map,List.length_drop] at hj
  omega
 have h1:=h.cell.2 (off + j) l[off + j] (List.getElem?_eq_getElem hj')
 rw [h1]
 unfold bas str
 rw [List.getD_eq_getElem?_getD,List.getElem?_map,List.getElem?_drop,List.getElem?_eq_getElem hj']
 rfl
theorem meet_any (w:World) (lb:Nat) (s:Lard.LS) (L:Nat→Prop) (hb db:Nat) (vr vn vj:Value) (g0 off cap:Nat) (h:LP w lb s L hb db (.slice (some ⟨g0,0,none⟩) s.begun.length cap) vr vn vj) (g:G w) (hat:off < s.begun.length) (hlen:s.begun.length≤1000) :
  Calls Tryz.prog 84 #[ptr lb,.slice (some ⟨g0,off,none⟩) (s.begun.length - off) (cap - off)] w fun e w'=>e=.returned (.tuple #[])∧LPost w lb L (if s.ring=[] then { s with ring:=s.begun.drop off } else s) w':=by
 have c3:w.cell? ⟨lb,3,none⟩=some vr:=by simp [World.cell?,h.blk]
 have heq:=eqNilS
 by_cases hr:s.ring=[]
 ·rw [if_pos hr]
  have hv:=h.rnil hr
  subst hv
  have hlenz:(bas (s.begun.drop off)).length=s.begun.length - off:=by unfold bas; rw [List.length_map,List.length_drop]
  have hcl:=Tryz.slices_Clone_string g0 off (s.begun.length - off) (cap - off) (bas (s.begun.drop off)) w (by omega) (by omega) (bas_cells h.begun off)
  have hcl:=hcl.mono (R':=fun e w1=>∃ (g' c':Nat),e=.returned (.slice (some ⟨g',0,none⟩) (s.begun.length - off) c')∧w1.cell? ⟨lb,3,none⟩=some (.slice none 0 0)∧w1.frozen? ⟨lb,3,none⟩=false∧LPost w lb L { s with ring:=s.begun.drop off } (w1.setCell ⟨lb,3,none⟩ (.slice (some ⟨g',0,none⟩) (s.begun.length - off) c'))) (fun e w1 hp=>by
   obtain ⟨v',rfl,ho,hv,hB⟩:=hp
   obtain ⟨g',c',rfl,hg'⟩:=row_some ho hv
   have hblk:=(hB.block lb (lt_of_some h.blk)).trans h.blk
   rw [List.take_of_length_le (by omega),bas_str] at ho
   refine ⟨g',c',rfl,by simp [World.cell?,hblk],by simp [World.frozen?,hblk],h.ringTo g hB (by rw [List.length_drop]) (fun e=>?_) ho hg'⟩
   have:=congrArg List.length e
   rw [List.length_drop] at this
   simp at this
   omega)
  have HC:=hide hcl
  clear hcl h
  unfold ptr
  go_enter Tryz.func84,Tryz.ntmps84
  go_wp2_with fail
  refine HC.out.mono ?_
  rintro e w1 ⟨g',c',rfl,d3,z3,hP⟩
  have HP:=hide hP
  clear hP HC
  go_wp2_with fail
  go_end0
  exact ⟨rfl,HP.out⟩
 ·rw [if_neg hr]
  have hvr:∃ g' c',vr=.slice (some ⟨g',0,none⟩) s.ring.length c':=by
   rcases h.ring.2 with ⟨_,h2⟩ | ⟨g',cap',cur,h1,_⟩
   ·exact (hr (List.eq_nil_of_length_eq_zero h2)).elim
   ·exact ⟨g',cap',h1⟩
  obtain ⟨g',c',rfl⟩:=hvr
  have HP:=hide (LPost.refl ⟨hb,db,_,_,vn,vj,h⟩)
  clear h
  unfold ptr
  go_enter Tryz.func84,Tryz.ntmps84
  go_wp2_with fail
  go_end0
  exact ⟨rfl,HP.out⟩
end
section
open Go.RowKit Go.Shelf
theorem ba_eq {x:List UInt8} {k:ByteArray}:(⟨x.toArray⟩:ByteArray)=k↔x=k.data.toList:=by
 constructor
 ·intro h; subst h; rfl
 ·intro h
  subst h
  cases k
  simp
theorem idx_begun (k:ByteArray):∀ (l:List (List UInt8)) (i:Nat),
  (l.contains k.data.toList=false∧Lib.idxFromS (bas l) k i=-1)∨∃ j,j < l.length∧l.contains k.data.toList=true∧Lib.idxFromS (bas l) k i=((i + j:Nat):Int)∧Lard.fromKey l k.data.toList=l.drop j
 |[],i=>.inl ⟨rfl,rfl⟩
 |x :: l,i=>by
  have hb:bas (x :: l)=(⟨x.toArray⟩:ByteArray) :: bas l:=rfl
  by_cases h:x=k.data.toList
  ·refine .inr ⟨0,by simp,by simp [h],?_,?_⟩
   ·rw [hb]
    have:=ba_eq.2 h
    simp [Lib.idxFromS,this]
   ·unfold Lard.fromKey
    simp [h]
  ·have hne:(⟨x.toArray⟩:ByteArray)≠k:=fun e=>h (ba_eq.1 e)
   have e1:Lib.idxFromS (bas (x :: l)) k i=Lib.idxFromS (bas l) k (i + 1):=by rw [hb]; simp [Lib.idxFromS,hne]
   have e2:(x :: l).contains k.data.toList=l.contains k.data.toList:=by
    have:(k.data.toList == x)=false:=beq_eq_false_iff_ne.2 (fun e=>h e.symm)
    rw [List.contains_cons,this,Bool.false_or]
   have e3:Lard.fromKey (x :: l) k.data.toList=Lard.fromKey l k.data.toList:=by
    unfold Lard.fromKey
    have:(x == k.data.toList)=false:=beq_eq_false_iff_ne.2 h
    simp [List.dropWhile_cons,this]
   rcases idx_begun k l (i + 1) with ⟨h1,h2⟩ | ⟨j,h1,h2,h3,h4⟩
   ·exact .inl ⟨e2.trans h1,e1.trans h2⟩
   ·refine .inr ⟨j + 1,by simp; omega,e2.trans h2,?_,by rw [e3,h4]; rfl⟩
    rw [e1,h3]
    congr 1
    omega
end
section
open Go.RowKit Go.Shelf
theorem LP.begunTo {w w1:World} {lb:Nat} {s:Lard.LS} {L:Nat→Prop} {hb db:Nat} {vb vr vn vj:Value} (h:LP w lb s L hb db vb vr vn vj) (gg:G w) {g cap n:Nat} (key:List UInt8) (hg:w.grownBy w1 vb.ownBlock)
  (hn:n=(s.begun++[key]).length) (ho:w1.ownsRow 8 9 1 (.slice (some ⟨g,0,none⟩) n cap) n ((s.begun++[key]).map str)) (hl:vb.ownBlock=some g∨g=w.heap.size) (hold:∀ b,vb.ownBlock=some b→∃ cs fz,w1.heap[b]? = some (.cells cs 9 fz)) :
  LPost w lb L { s with begun:=s.begun++[key] } (w1.setCell ⟨lb,2,none⟩ (.slice (some ⟨g,0,none⟩) n cap)):=by
 subst hn
 have ht1:Tn 9 w w1 vb.ownBlock:=⟨hg,fun b hb=>row_typed h.begun hb⟩
 have hring:strsAt w1 vr s.ring:=row_same h.ring (fun k hk cs fz hc=>(hg.block k (lt_of_some hc) (fun e=>h.apart k e.symm hk)).trans hc)
 refine h.turned 9 vb.ownBlock ht1 (.inr (.inl rfl)) (by decide) (by decide) (by decide) (by decide) (fun b hb=>⟨h.mine b (.inl hb),hold b hb⟩) (fun k=>k=g∧g=w.heap.size) (fun k hk=>?_) gg 2 _ rfl rfl rfl ho hring (row_tn h.ran ht1 (by decide)) (row_tn h.jr ht1 (by decide)) (fun k hk=>?_) (fun k hk e=>?_) h.rnil
 ·obtain ⟨rfl,h1⟩:=hk
  exact ⟨by omega,row_typed ho rfl⟩
 ·rcases hk with hk | hk | hk | hk
  ·cases hk
   rcases hl with hl | hl
   ·exact .inl (h.mine _ (.inl hl))
   ·exact .inr ⟨rfl,hl⟩
  ·exact .inl (h.mine k (.inr (.inl hk)))
  ·exact .inl (h.mine k (.inr (.inr (.inl hk))))
  ·exact .inl (h.mine k (.inr (.inr (.inr hk))))
 ·cases hk
  rcases hl with hl | hl
  ·exact h.apart _ hl e
  ·have:g < w.heap.size:=h.lt (h.mine _ (.inr (.inl e)))
   omega
theorem LP.popTo {w:World} {lb:Nat} {s:Lard.LS} {L:Nat→Prop} {hb db:Nat} {vr vn vj:Value} {g cap:Nat} (h:LP w lb s L hb db (.slice (some ⟨g,0,none⟩) s.begun.length cap) vr vn vj) (gg:G w) :
  LPost w lb L { s with begun:=s.begun.dropLast } (w.setCell ⟨lb,2,none⟩ (.slice (some ⟨g,0,none⟩) (s.begun.length - 1) cap)):=by
 have ht:Tn 9 w w none:=tn_below (Below.refl _ _)
 have hrow:strsAt w (.slice (some ⟨g,0,none⟩) (s.begun.length - 1) cap) s.begun.dropLast:=by
  have hd:s.begun.dropLast.length=s.begun.length - 1:=List.length_dropLast
  unfold strsAt
  rw [hd]
  rcases h.begun.2 with ⟨h1,_⟩ | ⟨g',cap',cur,h1,h2,h3,h4,h5,h6,h7⟩
  ·cases h1
  ·cases h1
   refine ⟨by simp,.inr ⟨g,cap,cur,rfl,h2,h3,by omega,h5,h6,?_⟩⟩
   have:s.begun.dropLast.map str=(s.begun.map str).take (s.begun.length - 1):=by
    rw [List.dropLast_eq_take,List.map_take]
   rw [this,←h7,List.take_take]
   congr 1
   omega
 refine h.turned 9 none ht (.inr (.inl rfl)) (by decide) (by decide) (by decide) (by decide) (fun b hb=>by cases hb) (fun k=>False) (fun k hk=>hk.elim) gg 2 _ rfl rfl rfl hrow h.ring h.ran h.jr (fun k hk=>.inl (h.mine k ?_)) (fun k hk=>h.apart k (by cases hk; rfl)) h.rnil
 rcases hk with hk | hk
 ·cases hk; exact .inl rfl
 ·exact .inr hk
theorem LP.ranTo {w w1:World} {lb:Nat} {s:Lard.LS} {L:Nat→Prop} {hb db:Nat} {vb vr vn vj:Value} (h:LP w lb s L hb db vb vr vn vj) (gg:G w) {g cap n:Nat} (y:Lard.Why) (hg:w.grownBy w1 vn.ownBlock)
  (hn:n=(s.ran++[y]).length) (ho:w1.ownsRow 8 61 6 (.slice (some ⟨g,0,none⟩) n cap) n ((s.ran++[y]).flatMap whyCells)) (hl:vn.ownBlock=some g∨g=w.heap.size) (hold:∀ b,vn.ownBlock=some b→∃ cs fz,w1.heap[b]? = some (.cells cs 61 fz)) :
  LPost w lb L { s with ran:=s.ran++[y] } (w1.setCell ⟨lb,4,none⟩ (.slice (some ⟨g,0,none⟩) n cap)):=by
 subst hn
 have ht1:Tn 61 w w1 vn.ownBlock:=⟨hg,fun b hb=>row_typed h.ran hb⟩
 refine h.turned 61 vn.ownBlock ht1 (.inr (.inr (.inl rfl))) (by decide) (by decide) (by decide) (by decide) (fun b hb=>⟨h.mine b (.inr (.inr (.inl hb))),hold b hb⟩) (fun k=>k=g∧g=w.heap.size) (fun k hk=>?_) gg 4 _ rfl rfl rfl (row_tn h.begun ht1 (by decide)) (row_tn h.ring ht1 (by decide)) ho (row_tn h.jr ht1 (by decide)) (fun k hk=>?_) h.apart h.rnil
 ·obtain ⟨rfl,h1⟩:=hk
  exact ⟨by omega,row_typed ho rfl⟩
 ·rcases hk with hk | hk | hk | hk
  ·exact .inl (h.mine k (.inl hk))
  ·exact .inl (h.mine k (.inr (.inl hk)))
  ·cases hk
   rcases hl with hl | hl
   ·exact .inl (h.mine _ (.inr (.inr (.inl hl))))
   ·exact .inr ⟨rfl,hl⟩
  ·exact .inl (h.mine k (.inr (.inr (.inr hk))))
end
end Go.Proofs.YtpekpdimdelncaaGreatDoor
