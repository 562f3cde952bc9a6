/- Out of: U5, U6. -/
import Derived.Test.YtpekpdimdelncaaGreatDoorP09
namespace Go.Proofs.YtpekpdimdelncaaGreatDoor
section
set_option maxRecDepth 100000
set_option maxHeartbeats 4000000
open Go.RowKit Go.Shelf
def WorkSays (E:Env) (n:Nat):Prop :=
 ∀ (t:Lard.T) (it:Option Lard.V) (x xi:Value) (F:Nat→Prop) (st:Nat×E.σ) (w:World),Lard.okT n it.isSome t=true→IsTree w n t x→IsOpt w it xi→St E F st w →
  Calls Tryz.prog 203 #[.pointer (some ⟨E.rb,0,none⟩),x,xi] w (PW (Ψ E F w (Lard.ev E.N n t it st)))
structure Node (w:World) (n:Nat) (t:Lard.T) (b:Nat) (i:Value) (o:Option Addr) (m c:Nat):Prop where
 cells:∀ w',Keeps w w'→w'.cell? ⟨b,0,none⟩=some (.int .i64 (t.kind:Int))∧w'.cell? ⟨b,1,none⟩=some (.int .u8 (t.op:Int))∧w'.cell? ⟨b,2,none⟩=some (.string ⟨t.name.toArray⟩)∧w'.cell? ⟨b,3,none⟩=some i∧w'.cell? ⟨b,4,none⟩=some (.slice o m c)
 is:IsOpt w t.is i
 name:t.name.length≤200
 len:t.parts.length=m
 part:∀ j,j < t.parts.length→∃ b0 q,o=some ⟨b0,0,none⟩∧(∀ w',Keeps w w'→w'.cell? ⟨b0,j,none⟩=some (.pointer (some q)))∧IsTree w n (t.part j) (.pointer (some q))
theorem IsTree.node {w:World} {n:Nat} {t:Lard.T} {x:Value} (h:IsTree w (n + 1) t x):∃ b i o m c,x=.pointer (some ⟨b,0,none⟩)∧Node w n t b i o m c:=by
 obtain ⟨b,i,s,qs,fz,rfl,h2,h3,h4,h5,h6⟩:=h
 obtain ⟨o,c,rfl⟩:=h4.len
 refine ⟨b,i,o,_,c,rfl,⟨fun w' hk=>?_,h3.1,h3.2,h5,fun j hj=>?_⟩⟩
 ·have h2':=hk _ _ _ _ h2 (.inr (.inl rfl))
  exact ⟨by simp [World.cell?,h2'],by simp [World.cell?,h2'],by simp [World.cell?,h2'],by simp [World.cell?,h2'],by simp [World.cell?,h2']⟩
 ·obtain ⟨q,hq⟩:∃ q,qs[j]? = some q:=⟨_,List.getElem?_eq_getElem (by omega)⟩
  have hu:t.parts[j]? = some (t.part j):=by
   rw [Lard.T.part,List.getElem?_eq_getElem hj]; rfl
  have ht:=h6 j _ _ hu hq
  have:∃ a,q=.pointer (some a):=by
   cases n with
   |zero=>exact ht.elim
   |succ n=>obtain ⟨b,_,_,_,_,rfl,_⟩:=ht; exact ⟨_,rfl⟩
  obtain ⟨a,rfl⟩:=this
  obtain ⟨b0,rfl,_⟩:=h4.cell hq
  refine ⟨b0,a,rfl,fun w' hk=>?_,ht⟩
  obtain ⟨b1,e,hc⟩:=(h4.keeps hk).cell hq
  cases e; exact hc
theorem IsOpt.form {w:World} {it:Option Lard.V} {xi:Value} (h:IsOpt w it xi):xi=.nilIface∨∃ t a,xi=.iface t a:=by
 rcases h with ⟨_,rfl⟩ | ⟨v,_,hv⟩
 ·exact .inl rfl
 ·exact .inr hv.one
/-! By what the operations break. -/
theorem listOf_err {l:List Lard.V} {c:Nat} (h:Lard.listOf l=.error c):0 < c∧c≤12:=by
 unfold Lard.listOf at h; split at h
 ·cases h; omega
 ·cases h
theorem nums_err {x y:Lard.V} {f:Int→Int→Except Nat Lard.V} {c:Nat} (hf:∀ i j,f i j=.error c→0 < c∧c≤12) (h:Lard.nums x y f=.error c):0 < c∧c≤12:=by
 unfold Lard.nums at h; split at h
 ·exact hf _ _ h
 ·cases h; omega
theorem plus_err {x y:Lard.V} {c:Nat} (h:Lard.plus x y=.error c):0 < c∧c≤12:=by
 unfold Lard.plus at h; split at h
 ·cases h
 ·split at h
  ·cases h; omega
  ·cases h
 ·exact listOf_err h
 ·cases h; omega
theorem less_err {x y:Lard.V} {c:Nat} (h:Lard.less x y=.error c):0 < c∧c≤12:=by
 unfold Lard.less at h; split at h
 ·cases h
 ·cases h
 ·cases h; omega
theorem at_err {x y:Lard.V} {c:Nat} (h:Lard.atPlace x y=.error c):0 < c∧c≤12:=by
 unfold Lard.atPlace at h; split at h
 ·split at h
  ·split at h
   ·cases h
   ·rename_i hp; cases h; have:=(place_err hp).2; omega
  ·split at h
   ·cases h
   ·rename_i hp; cases h; have:=(place_err hp).2; omega
  ·cases h; omega
 ·cases h; omega
theorem make_err {op:Nat} {x y:Lard.V} {c:Nat} (h:Lard.make op x y=.error c):0 < c∧c≤12:=by
 unfold Lard.make at h
 split at h
 ·exact plus_err h
 split at h
 ·exact nums_err (fun i j h=>by cases h) h
 split at h
 ·exact nums_err (fun i j h=>by cases h) h
 split at h
 ·refine nums_err (fun i j h=>?_) h
  split at h
  ·cases h; omega
  ·cases h
 split at h
 ·exact less_err h
 split at h
 ·cases h
 split at h
 ·exact nums_err (fun i j h=>by cases h) h
 split at h
 ·exact nums_err (fun i j h=>by cases h) h
 ·exact at_err h
theorem size_err {x:Lard.V} {c:Nat} (h:Lard.size x=.error c):0 < c∧c≤12:=by
 unfold Lard.size at h; split at h
 ·cases h; omega
 ·cases h
 ·cases h
theorem sumFrom_err:∀ {l:List Lard.V} {a:Int} {c:Nat},Lard.sumFrom a l=.error c→0 < c∧c≤12
 |[],_,_,h=>by cases h
 |v :: r,a,c,h=>by
  unfold Lard.sumFrom at h; split at h
  ·exact sumFrom_err h
  ·cases h; omega
theorem sumUp_err {x:Lard.V} {c:Nat} (h:Lard.sumUp x=.error c):0 < c∧c≤12:=by
 unfold Lard.sumUp at h; split at h
 ·exact sumFrom_err h
 ·cases h; omega
theorem asWord_err {x:Lard.V} {c:Nat} (h:Lard.asWord x=.error c):0 < c∧c≤12:=by
 unfold Lard.asWord at h; split at h
 ·cases h
 ·cases h
 ·cases h; omega
theorem PW.of_pv {E:Env} (ok:EnvOK E) {F F1:Nat→Prop} {st1:Nat×E.σ} {w w1 w2:World} {res:Except Nat Lard.V} {e:Ending} (hst:St E F1 st1 w1) (hF:∀ k,F1 k→F k∨w.heap.size≤k) (hfm:Fm E.base w w1) (hpv:PV w1 res e w2) (hc:∀ c,res=.error c→0 < c∧c≤12):PW (Ψ E F w (res,st1)) e w2:=by
 obtain ⟨hB,hok,herr⟩:=hpv
 refine ⟨res,⟨rfl,F1,hst.below ok hB,hF,hfm.trans (Fm.below hB (Nat.le_trans ok.baser (Nat.le_of_lt hst.lt)))⟩,?_⟩
 cases res with
 |ok v=>obtain ⟨y,rfl,hv⟩:=hok v rfl; exact .inl ⟨v,y,rfl,rfl,hv⟩
 |error c=>exact .inr ⟨c,rfl,herr c rfl,(hc c rfl).1,(hc c rfl).2⟩
theorem PW.after {E:Env} {F F1:Nat→Prop} {w w1 w2:World} {q:Except Nat Lard.V×(Nat×E.σ)} {e:Ending} (hF:∀ k,F1 k→F k∨w.heap.size≤k) (hfm:Fm E.base w w1) (h:PW (Ψ E F1 w1 q) e w2):PW (Ψ E F w q) e w2:=by
 obtain ⟨r,⟨hr,F2,hst,hF2,hfm2⟩,hc⟩:=h
 refine ⟨r,⟨hr,F2,hst,fun k hk=>?_,hfm.trans hfm2⟩,hc⟩
 rcases hF2 k hk with h | h
 ·exact hF k h
 ·exact .inr (Nat.le_trans hfm.size h)
theorem workFirst_minus (E:Env) (ok:EnvOK E) (n:Nat) (ih:WorkSays E n) (t:Lard.T) (it:Option Lard.V) (x xi:Value) (F:Nat→Prop) (st:Nat×E.σ) (w:World) (hk:t.kind=5) (hlen:t.parts.length=1) (h0:∀ j,j < t.parts.length→Lard.okT n it.isSome (t.part j)=true) (hx:IsTree w (n + 1) t x) (hi:IsOpt w it xi) (h:St E F st w) :
  Calls Tryz.prog 251 #[.pointer (some ⟨E.rb,0,none⟩),x,xi] w (PW (Ψ E F w (Lard.firstE E.N (fun u s=>Lard.ev E.N n u it s) t st))):=by
 obtain ⟨b,i,o,m,c,rfl,nd⟩:=hx.node
 obtain ⟨b0,q0,rfl,d0,ht0⟩:=nd.part 0 (by omega)
 have hcall:=ih (t.part 0) it _ xi F st w (h0 0 (by omega)) ht0 hi h
 have hm:=nd.len
 have hfirst:Lard.firstE E.N (fun u s=>Lard.ev E.N n u it s) t st=Lard.thenR (Lard.ev E.N n (t.part 0) it st) fun v s=>(Lard.make 45 (Lard.vn 0) v,s):=by
  unfold Lard.firstE; rw [hk]; rfl
 rw [hfirst]
 obtain ⟨c0,_,_,_,c4⟩:=nd.cells w (Keeps.refl w)
 have e0:=d0 w (Keeps.refl w)
 have hq1:(0:Int) < (m:Int):=by omega
 have hform:=hi.form
 rw [hk] at c0
 have ND:=hide nd
 have HC:=hide hcall
 have IH:=hide ih
 have HI:=hide hi
 clear hcall hfirst nd d0 ht0 hx ih hi
 generalize Lard.ev E.N n (t.part 0) it st=q at HC ⊢
 obtain ⟨r,st1⟩:=q
 generalize hrb:E.rb=rb at HC
 have HRB:=hide hrb
 clear hrb
 cases r with
 |error e1 =>
  rcases hform with rfl | ⟨tx,ax,rfl⟩
  all_goals
   go_enter Tryz.func251,Tryz.ntmps251
   go_wp2_with fail
   refine HC.out.mono ?_
   rintro e w1 ⟨r,⟨hr,hst⟩,⟨v,y,hr2,rfl,hv⟩ | ⟨c1,hr2,rfl,hc⟩⟩
   ·rw [hr] at hr2; cases hr2
   ·rw [hr] at hr2; cases hr2
    exact ⟨rfl,.error e1,⟨rfl,hst⟩,.inr ⟨e1,rfl,rfl,hc⟩⟩
 |ok v1 =>
  show Calls _ _ _ _ (PW (Ψ E F w ((Lard.make 45 (Lard.vn 0) v1,st1))))
  generalize hres:Lard.make 45 (Lard.vn 0) v1=res
  have HRES:=hide hres
  clear hres
  rcases hform with rfl | ⟨tx,ax,rfl⟩
  all_goals
   go_enter Tryz.func251,Tryz.ntmps251
   go_wp2_with fail
   refine HC.out.mono ?_
   rintro e w1 ⟨r,⟨hr,F1,hst,hF,hfm⟩,⟨v,y,hr2,rfl,hv⟩ | ⟨c1,hr2,rfl,hc⟩⟩
   ·rw [hr] at hr2; cases hr2
    obtain ⟨k0,k1,_,_,k4⟩:=ND.out.cells w1 hfm.keeps
    rw [hk] at k0
    obtain ⟨t1,a1,rfl⟩:=hv.one
    have HV:=hide hv
    clear HC hv hr
    have hcall2:=make_minus w1 (isNum 0 (by decide) (by decide)) HV.out
    rw [HRES.out] at hcall2
    have HC2:=hide hcall2
    clear hcall2
    go_wp2_with fail
    refine HC2.out.mono ?_
    rintro e w2 hpv
    have HFIN:=hide (PW.of_pv ok hst hF hfm hpv (fun c hc=>make_err (HRES.out.trans hc)))
    clear HC2
    cases res with
    |error c =>
     obtain rfl:=hpv.2.2 c rfl
     exact ⟨rfl,HFIN.out⟩
    |ok v2 =>
     obtain ⟨y2,rfl,hv2⟩:=hpv.2.1 v2 rfl
     obtain ⟨t2,a2,rfl⟩:=hv2.one
     clear hpv hv2
     go_wp2_with fail
     go_ret
     exact HFIN.out
   ·rw [hr] at hr2; cases hr2
theorem workFirst_size (E:Env) (ok:EnvOK E) (n:Nat) (ih:WorkSays E n) (t:Lard.T) (it:Option Lard.V) (x xi:Value) (F:Nat→Prop) (st:Nat×E.σ) (w:World) (hk:t.kind=10) (hlen:t.parts.length=1) (h0:∀ j,j < t.parts.length→Lard.okT n it.isSome (t.part j)=true) (hx:IsTree w (n + 1) t x) (hi:IsOpt w it xi) (h:St E F st w) :
  Calls Tryz.prog 251 #[.pointer (some ⟨E.rb,0,none⟩),x,xi] w (PW (Ψ E F w (Lard.firstE E.N (fun u s=>Lard.ev E.N n u it s) t st))):=by
 obtain ⟨b,i,o,m,c,rfl,nd⟩:=hx.node
 obtain ⟨b0,q0,rfl,d0,ht0⟩:=nd.part 0 (by omega)
 have hcall:=ih (t.part 0) it _ xi F st w (h0 0 (by omega)) ht0 hi h
 have hm:=nd.len
 have hfirst:Lard.firstE E.N (fun u s=>Lard.ev E.N n u it s) t st=Lard.thenR (Lard.ev E.N n (t.part 0) it st) fun v s=>(Lard.size v,s):=by
  unfold Lard.firstE; rw [hk]; rfl
 rw [hfirst]
 obtain ⟨c0,_,_,_,c4⟩:=nd.cells w (Keeps.refl w)
 have e0:=d0 w (Keeps.refl w)
 have hq1:(0:Int) < (m:Int):=by omega
 have hform:=hi.form
 rw [hk] at c0
 have ND:=hide nd
 have HC:=hide hcall
 have IH:=hide ih
 have HI:=hide hi
 clear hcall hfirst nd d0 ht0 hx ih hi
 generalize Lard.ev E.N n (t.part 0) it st=q at HC ⊢
 obtain ⟨r,st1⟩:=q
 generalize hrb:E.rb=rb at HC
 have HRB:=hide hrb
 clear hrb
 cases r with
 |error e1 =>
  rcases hform with rfl | ⟨tx,ax,rfl⟩
  all_goals
   go_enter Tryz.func251,Tryz.ntmps251
   go_wp2_with fail
   refine HC.out.mono ?_
   rintro e w1 ⟨r,⟨hr,hst⟩,⟨v,y,hr2,rfl,hv⟩ | ⟨c1,hr2,rfl,hc⟩⟩
   ·rw [hr] at hr2; cases hr2
   ·rw [hr] at hr2; cases hr2
    exact ⟨rfl,.error e1,⟨rfl,hst⟩,.inr ⟨e1,rfl,rfl,hc⟩⟩
 |ok v1 =>
  show Calls _ _ _ _ (PW (Ψ E F w ((Lard.size v1,st1))))
  generalize hres:Lard.size v1=res
  have HRES:=hide hres
  clear hres
  rcases hform with rfl | ⟨tx,ax,rfl⟩
  all_goals
   go_enter Tryz.func251,Tryz.ntmps251
   go_wp2_with fail
   refine HC.out.mono ?_
   rintro e w1 ⟨r,⟨hr,F1,hst,hF,hfm⟩,⟨v,y,hr2,rfl,hv⟩ | ⟨c1,hr2,rfl,hc⟩⟩
   ·rw [hr] at hr2; cases hr2
    obtain ⟨k0,k1,_,_,k4⟩:=ND.out.cells w1 hfm.keeps
    rw [hk] at k0
    obtain ⟨t1,a1,rfl⟩:=hv.one
    have HV:=hide hv
    clear HC hv hr
    have hcall2:=size_any w1 HV.out
    rw [HRES.out] at hcall2
    have HC2:=hide hcall2
    clear hcall2
    go_wp2_with fail
    refine HC2.out.mono ?_
    rintro e w2 hpv
    have HFIN:=hide (PW.of_pv ok hst hF hfm hpv (fun c hc=>size_err (HRES.out.trans hc)))
    clear HC2
    cases res with
    |error c =>
     obtain rfl:=hpv.2.2 c rfl
     exact ⟨rfl,HFIN.out⟩
    |ok v2 =>
     obtain ⟨y2,rfl,hv2⟩:=hpv.2.1 v2 rfl
     obtain ⟨t2,a2,rfl⟩:=hv2.one
     clear hpv hv2
     go_wp2_with fail
     go_ret
     exact HFIN.out
   ·rw [hr] at hr2; cases hr2
theorem workFirst_sum (E:Env) (ok:EnvOK E) (n:Nat) (ih:WorkSays E n) (t:Lard.T) (it:Option Lard.V) (x xi:Value) (F:Nat→Prop) (st:Nat×E.σ) (w:World) (hk:t.kind=11) (hlen:t.parts.length=1) (h0:∀ j,j < t.parts.length→Lard.okT n it.isSome (t.part j)=true) (hx:IsTree w (n + 1) t x) (hi:IsOpt w it xi) (h:St E F st w) :
  Calls Tryz.prog 251 #[.pointer (some ⟨E.rb,0,none⟩),x,xi] w (PW (Ψ E F w (Lard.firstE E.N (fun u s=>Lard.ev E.N n u it s) t st))):=by
 obtain ⟨b,i,o,m,c,rfl,nd⟩:=hx.node
 obtain ⟨b0,q0,rfl,d0,ht0⟩:=nd.part 0 (by omega)
 have hcall:=ih (t.part 0) it _ xi F st w (h0 0 (by omega)) ht0 hi h
 have hm:=nd.len
 have hfirst:Lard.firstE E.N (fun u s=>Lard.ev E.N n u it s) t st=Lard.thenR (Lard.ev E.N n (t.part 0) it st) fun v s=>(Lard.sumUp v,s):=by
  unfold Lard.firstE; rw [hk]; rfl
 rw [hfirst]
 obtain ⟨c0,_,_,_,c4⟩:=nd.cells w (Keeps.refl w)
 have e0:=d0 w (Keeps.refl w)
 have hq1:(0:Int) < (m:Int):=by omega
 have hform:=hi.form
 rw [hk] at c0
 have ND:=hide nd
 have HC:=hide hcall
 have IH:=hide ih
 have HI:=hide hi
 clear hcall hfirst nd d0 ht0 hx ih hi
 generalize Lard.ev E.N n (t.part 0) it st=q at HC ⊢
 obtain ⟨r,st1⟩:=q
 generalize hrb:E.rb=rb at HC
 have HRB:=hide hrb
 clear hrb
 cases r with
 |error e1 =>
  rcases hform with rfl | ⟨tx,ax,rfl⟩
  all_goals
   go_enter Tryz.func251,Tryz.ntmps251
   go_wp2_with fail
   refine HC.out.mono ?_
   rintro e w1 ⟨r,⟨hr,hst⟩,⟨v,y,hr2,rfl,hv⟩ | ⟨c1,hr2,rfl,hc⟩⟩
   ·rw [hr] at hr2; cases hr2
   ·rw [hr] at hr2; cases hr2
    exact ⟨rfl,.error e1,⟨rfl,hst⟩,.inr ⟨e1,rfl,rfl,hc⟩⟩
 |ok v1 =>
  show Calls _ _ _ _ (PW (Ψ E F w ((Lard.sumUp v1,st1))))
  generalize hres:Lard.sumUp v1=res
  have HRES:=hide hres
  clear hres
  rcases hform with rfl | ⟨tx,ax,rfl⟩
  all_goals
   go_enter Tryz.func251,Tryz.ntmps251
   go_wp2_with fail
   refine HC.out.mono ?_
   rintro e w1 ⟨r,⟨hr,F1,hst,hF,hfm⟩,⟨v,y,hr2,rfl,hv⟩ | ⟨c1,hr2,rfl,hc⟩⟩
   ·rw [hr] at hr2; cases hr2
    obtain ⟨k0,k1,_,_,k4⟩:=ND.out.cells w1 hfm.keeps
    rw [hk] at k0
    obtain ⟨t1,a1,rfl⟩:=hv.one
    have HV:=hide hv
    clear HC hv hr
    have hcall2:=sum_any w1 HV.out
    rw [HRES.out] at hcall2
    have HC2:=hide hcall2
    clear hcall2
    go_wp2_with fail
    refine HC2.out.mono ?_
    rintro e w2 hpv
    have HFIN:=hide (PW.of_pv ok hst hF hfm hpv (fun c hc=>sumUp_err (HRES.out.trans hc)))
    clear HC2
    cases res with
    |error c =>
     obtain rfl:=hpv.2.2 c rfl
     exact ⟨rfl,HFIN.out⟩
    |ok v2 =>
     obtain ⟨y2,rfl,hv2⟩:=hpv.2.1 v2 rfl
     obtain ⟨t2,a2,rfl⟩:=hv2.one
     clear hpv hv2
     go_wp2_with fail
     go_ret
     exact HFIN.out
   ·rw [hr] at hr2; cases hr2
theorem workFirst_word (E:Env) (ok:EnvOK E) (n:Nat) (ih:WorkSays E n) (t:Lard.T) (it:Option Lard.V) (x xi:Value) (F:Nat→Prop) (st:Nat×E.σ) (w:World) (hk:t.kind=12) (hlen:t.parts.length=1) (h0:∀ j,j < t.parts.length→Lard.okT n it.isSome (t.part j)=true) (hx:IsTree w (n + 1) t x) (hi:IsOpt w it xi) (h:St E F st w) :
  Calls Tryz.prog 251 #[.pointer (some ⟨E.rb,0,none⟩),x,xi] w (PW (Ψ E F w (Lard.firstE E.N (fun u s=>Lard.ev E.N n u it s) t st))):=by
 obtain ⟨b,i,o,m,c,rfl,nd⟩:=hx.node
 obtain ⟨b0,q0,rfl,d0,ht0⟩:=nd.part 0 (by omega)
 have hcall:=ih (t.part 0) it _ xi F st w (h0 0 (by omega)) ht0 hi h
 have hm:=nd.len
 have hfirst:Lard.firstE E.N (fun u s=>Lard.ev E.N n u it s) t st=Lard.thenR (Lard.ev E.N n (t.part 0) it st) fun v s=>(Lard.asWord v,s):=by
  unfold Lard.firstE; rw [hk]; rfl
 rw [hfirst]
 obtain ⟨c0,_,_,_,c4⟩:=nd.cells w (Keeps.refl w)
 have e0:=d0 w (Keeps.refl w)
 have hq1:(0:Int) < (m:Int):=by omega
 have hform:=hi.form
 rw [hk] at c0
 have ND:=hide nd
 have HC:=hide hcall
 have IH:=hide ih
 have HI:=hide hi
 clear hcall hfirst nd d0 ht0 hx ih hi
 generalize Lard.ev E.N n (t.part 0) it st=q at HC ⊢
 obtain ⟨r,st1⟩:=q
 generalize hrb:E.rb=rb at HC
 have HRB:=hide hrb
 clear hrb
 cases r with
 |error e1 =>
  rcases hform with rfl | ⟨tx,ax,rfl⟩
  all_goals
   go_enter Tryz.func251,Tryz.ntmps251
   go_wp2_with fail
   refine HC.out.mono ?_
   rintro e w1 ⟨r,⟨hr,hst⟩,⟨v,y,hr2,rfl,hv⟩ | ⟨c1,hr2,rfl,hc⟩⟩
   ·rw [hr] at hr2; cases hr2
   ·rw [hr] at hr2; cases hr2
    exact ⟨rfl,.error e1,⟨rfl,hst⟩,.inr ⟨e1,rfl,rfl,hc⟩⟩
 |ok v1 =>
  show Calls _ _ _ _ (PW (Ψ E F w ((Lard.asWord v1,st1))))
  generalize hres:Lard.asWord v1=res
  have HRES:=hide hres
  clear hres
  rcases hform with rfl | ⟨tx,ax,rfl⟩
  all_goals
   go_enter Tryz.func251,Tryz.ntmps251
   go_wp2_with fail
   refine HC.out.mono ?_
   rintro e w1 ⟨r,⟨hr,F1,hst,hF,hfm⟩,⟨v,y,hr2,rfl,hv⟩ | ⟨c1,hr2,rfl,hc⟩⟩
   ·rw [hr] at hr2; cases hr2
    obtain ⟨k0,k1,_,_,k4⟩:=ND.out.cells w1 hfm.keeps
    rw [hk] at k0
    obtain ⟨t1,a1,rfl⟩:=hv.one
    have HV:=hide hv
    clear HC hv hr
    have hcall2:=asWord_any w1 hst.g HV.out
    rw [HRES.out] at hcall2
    have HC2:=hide hcall2
    clear hcall2
    go_wp2_with fail
    refine HC2.out.mono ?_
    rintro e w2 hpv
    have HFIN:=hide (PW.of_pv ok hst hF hfm hpv (fun c hc=>asWord_err (HRES.out.trans hc)))
    clear HC2
    cases res with
    |error c =>
     obtain rfl:=hpv.2.2 c rfl
     exact ⟨rfl,HFIN.out⟩
    |ok v2 =>
     obtain ⟨y2,rfl,hv2⟩:=hpv.2.1 v2 rfl
     obtain ⟨t2,a2,rfl⟩:=hv2.one
     clear hpv hv2
     go_wp2_with fail
     go_ret
     exact HFIN.out
   ·rw [hr] at hr2; cases hr2
theorem workFirst_group (E:Env) (_ok:EnvOK E) (n:Nat) (ih:WorkSays E n) (t:Lard.T) (it:Option Lard.V) (x xi:Value) (F:Nat→Prop) (st:Nat×E.σ) (w:World) (hk:t.kind=6) (hlen:t.parts.length=1) (h0:∀ j,j < t.parts.length→Lard.okT n it.isSome (t.part j)=true) (hx:IsTree w (n + 1) t x) (hi:IsOpt w it xi) (h:St E F st w) :
  Calls Tryz.prog 251 #[.pointer (some ⟨E.rb,0,none⟩),x,xi] w (PW (Ψ E F w (Lard.firstE E.N (fun u s=>Lard.ev E.N n u it s) t st))):=by
 obtain ⟨b,i,o,m,c,rfl,nd⟩:=hx.node
 obtain ⟨b0,q0,rfl,d0,ht0⟩:=nd.part 0 (by omega)
 have hcall:=ih (t.part 0) it _ xi F st w (h0 0 (by omega)) ht0 hi h
 have hm:=nd.len
 have hfirst:Lard.firstE E.N (fun u s=>Lard.ev E.N n u it s) t st=Lard.thenR (Lard.ev E.N n (t.part 0) it st) fun v s=>(.ok v,s):=by
  unfold Lard.firstE; rw [hk]; rfl
 rw [hfirst]
 obtain ⟨c0,_,_,_,c4⟩:=nd.cells w (Keeps.refl w)
 have e0:=d0 w (Keeps.refl w)
 have hq1:(0:Int) < (m:Int):=by omega
 have hform:=hi.form
 rw [hk] at c0
 have ND:=hide nd
 have HC:=hide hcall
 have IH:=hide ih
 have HI:=hide hi
 clear hcall hfirst nd d0 ht0 hx ih hi
 generalize Lard.ev E.N n (t.part 0) it st=q at HC ⊢
 obtain ⟨r,st1⟩:=q
 generalize hrb:E.rb=rb at HC
 have HRB:=hide hrb
 clear hrb
 cases r with
 |error e1 =>
  rcases hform with rfl | ⟨tx,ax,rfl⟩
  all_goals
   go_enter Tryz.func251,Tryz.ntmps251
   go_wp2_with fail
   refine HC.out.mono ?_
   rintro e w1 ⟨r,⟨hr,hst⟩,⟨v,y,hr2,rfl,hv⟩ | ⟨c1,hr2,rfl,hc⟩⟩
   ·rw [hr] at hr2; cases hr2
   ·rw [hr] at hr2; cases hr2
    exact ⟨rfl,.error e1,⟨rfl,hst⟩,.inr ⟨e1,rfl,rfl,hc⟩⟩
 |ok v1 =>
  show Calls _ _ _ _ (PW (Ψ E F w ((.ok v1,st1))))
  rcases hform with rfl | ⟨tx,ax,rfl⟩
  all_goals
   go_enter Tryz.func251,Tryz.ntmps251
   go_wp2_with fail
   refine HC.out.mono ?_
   rintro e w1 ⟨r,⟨hr,F1,hst,hF,hfm⟩,⟨v,y,hr2,rfl,hv⟩ | ⟨c1,hr2,rfl,hc⟩⟩
   ·rw [hr] at hr2; cases hr2
    obtain ⟨k0,k1,_,_,k4⟩:=ND.out.cells w1 hfm.keeps
    rw [hk] at k0
    obtain ⟨t1,a1,rfl⟩:=hv.one
    have HV:=hide hv
    clear HC hv hr
    go_wp2_with fail
    go_ret
    exact ⟨.ok v1,⟨rfl,F1,hst,hF,hfm⟩,.inl ⟨v1,_,rfl,rfl,HV.out⟩⟩
   ·rw [hr] at hr2; cases hr2
end
section
set_option maxRecDepth 100000
set_option maxHeartbeats 4000000
open Go.RowKit Go.Shelf
theorem workFirst_key (E:Env) (ok:EnvOK E) (n:Nat) (ih:WorkSays E n) (t:Lard.T) (it:Option Lard.V) (x xi:Value) (F:Nat→Prop) (st:Nat×E.σ) (w:World) (hk:t.kind=7) (hlen:t.parts.length=1) (h0:∀ j,j < t.parts.length→Lard.okT n it.isSome (t.part j)=true) (hx:IsTree w (n + 1) t x) (hi:IsOpt w it xi) (h:St E F st w) (hbal:E.cnt st.2 + st.1 < 400) :
  Calls Tryz.prog 251 #[.pointer (some ⟨E.rb,0,none⟩),x,xi] w (PW (Ψ E F w (Lard.firstE E.N (fun u s=>Lard.ev E.N n u it s) t st))):=by
 obtain ⟨b,i,o,m,c,rfl,nd⟩:=hx.node
 obtain ⟨b0,q0,rfl,d0,ht0⟩:=nd.part 0 (by omega)
 have hcall:=ih (t.part 0) it _ xi F st w (h0 0 (by omega)) ht0 hi h
 have hbal1:E.cnt (Lard.ev E.N n (t.part 0) it st).2.2 + (Lard.ev E.N n (t.part 0) it st).2.1 < 400:=Nat.lt_of_le_of_lt (Lard.ev_cnt E.N E.cnt ok.cntN n (t.part 0) it st) hbal
 have hm:=nd.len
 have hfirst:Lard.firstE E.N (fun u s=>Lard.ev E.N n u it s) t st=Lard.thenR (Lard.ev E.N n (t.part 0) it st) fun v s=>match Lard.keyOf v with | .ok k=>Lard.needE E.N k s | .error e=>(.error e,s):=by
  unfold Lard.firstE; rw [hk]; rfl
 rw [hfirst]
 obtain ⟨c0,_,_,_,c4⟩:=nd.cells w (Keeps.refl w)
 have e0:=d0 w (Keeps.refl w)
 have hq1:(0:Int) < (m:Int):=by omega
 have hform:=hi.form
 rw [hk] at c0
 have ND:=hide nd
 have HC:=hide hcall
 have IH:=hide ih
 have HI:=hide hi
 clear hcall hfirst nd d0 ht0 hx ih hi hbal
 generalize Lard.ev E.N n (t.part 0) it st=q at HC hbal1 ⊢
 obtain ⟨r,st1⟩:=q
 have HBAL:=hide hbal1
 clear hbal1
 generalize hrb:E.rb=rb at HC
 have HRB:=hide hrb
 clear hrb
 cases r with
 |error e1 =>
  rcases hform with rfl | ⟨tx,ax,rfl⟩
  all_goals
   go_enter Tryz.func251,Tryz.ntmps251
   go_wp2_with fail
   refine HC.out.mono ?_
   rintro e w1 ⟨r,⟨hr,hst⟩,⟨v,y,hr2,rfl,hv⟩ | ⟨c1,hr2,rfl,hc⟩⟩
   ·rw [hr] at hr2; cases hr2
   ·rw [hr] at hr2; cases hr2
    exact ⟨rfl,.error e1,⟨rfl,hst⟩,.inr ⟨e1,rfl,rfl,hc⟩⟩
 |ok v1 =>
  cases hkey:Lard.keyOf v1 with
  |ok k =>
   show Calls _ _ _ _ (PW (Ψ E F w (match Lard.keyOf v1 with | .ok k=>Lard.needE E.N k st1 | .error e=>(.error e,st1))))
   rw [hkey]
   show Calls _ _ _ _ (PW (Ψ E F w (Lard.needE E.N k st1)))
   have HKEY:=hide hkey
   clear hkey
   rcases hform with rfl | ⟨tx,ax,rfl⟩
   all_goals
    go_enter Tryz.func251,Tryz.ntmps251
    go_wp2_with fail
    refine HC.out.mono ?_
    rintro e w1 ⟨r,⟨hr,F1,hst,hF,hfm⟩,⟨v,y,hr2,rfl,hv⟩ | ⟨c1,hr2,rfl,hc⟩⟩
    ·rw [hr] at hr2; cases hr2
     obtain ⟨k0,k1,_,_,k4⟩:=ND.out.cells w1 hfm.keeps
     rw [hk] at k0
     obtain ⟨t1,a1,rfl⟩:=hv.one
     have HV:=hide hv
     clear HC hv hr
     have HC2:=hide (keyOf_any w1 hst.g HV.out)
     go_wp2_with fail
     refine HC2.out.mono ?_
     rintro e w2 ⟨hB,hok,_⟩
     obtain rfl:=hok k HKEY.out
     have hst2:=hst.below ok hB
     have hfm2:=hfm.trans (Fm.below hB (Nat.le_trans ok.baser (Nat.le_of_lt hst.lt)))
     have hn:=needS_any E ok F1 st1 ⟨k.toArray⟩ w2 hst2 (by have:=keyOf_len HV.out HKEY.out; show k.toArray.size≤200; simpa using this) HBAL.out
     rw [HRB.out] at hn
     have HN:=hide hn
     have HF2:=hide (fun (e:Ending) (w3:World) (h:PW (Ψ E F1 w2 (Lard.needE E.N k st1)) e w3)=>PW.after (F:=F) (w:=w) (fun k hk=>hF k hk) hfm2 h)
     clear HC2 hn hok
     go_wp2_with fail
     refine HN.out.mono ?_
     rintro e w3 hp
     have hfin:=HF2.out e w3 hp
     obtain ⟨r3,_,⟨v3,y3,_,rfl,hv3⟩ | ⟨c3,_,rfl,_⟩⟩:=hp
     ·obtain ⟨t3,a3,rfl⟩:=hv3.one
      have HFIN:=hide hfin
      clear hfin hv3 HN HF2
      go_wp2_with fail
      go_ret
      exact HFIN.out
     ·exact ⟨rfl,hfin⟩
    ·rw [hr] at hr2; cases hr2
  |error c =>
   show Calls _ _ _ _ (PW (Ψ E F w (match Lard.keyOf v1 with | .ok k=>Lard.needE E.N k st1 | .error e=>(.error e,st1))))
   rw [hkey]
   show Calls _ _ _ _ (PW (Ψ E F w (.error c,st1)))
   have HKEY:=hide hkey
   clear hkey
   rcases hform with rfl | ⟨tx,ax,rfl⟩
   all_goals
    go_enter Tryz.func251,Tryz.ntmps251
    go_wp2_with fail
    refine HC.out.mono ?_
    rintro e w1 ⟨r,⟨hr,F1,hst,hF,hfm⟩,⟨v,y,hr2,rfl,hv⟩ | ⟨c1,hr2,rfl,hc⟩⟩
    ·rw [hr] at hr2; cases hr2
     obtain ⟨k0,k1,_,_,k4⟩:=ND.out.cells w1 hfm.keeps
     rw [hk] at k0
     obtain ⟨t1,a1,rfl⟩:=hv.one
     have HV:=hide hv
     clear HC hv hr
     have HC2:=hide (keyOf_any w1 hst.g HV.out)
     go_wp2_with fail
     refine HC2.out.mono ?_
     rintro e w2 ⟨hB,_,herr⟩
     obtain ⟨rfl,hc9⟩:=herr c HKEY.out
     exact ⟨rfl,PW.of_pv ok hst hF hfm (PV.err hB) (fun c' hc'=>by cases hc'; omega)⟩
    ·rw [hr] at hr2; cases hr2
theorem workFirst_if (E:Env) (ok:EnvOK E) (n:Nat) (ih:WorkSays E n) (t:Lard.T) (it:Option Lard.V) (x xi:Value) (F:Nat→Prop) (st:Nat×E.σ) (w:World) (hk:t.kind=9) (hlen:t.parts.length=3) (h0:∀ j,j < t.parts.length→Lard.okT n it.isSome (t.part j)=true) (hx:IsTree w (n + 1) t x) (hi:IsOpt w it xi) (h:St E F st w) :
  Calls Tryz.prog 251 #[.pointer (some ⟨E.rb,0,none⟩),x,xi] w (PW (Ψ E F w (Lard.firstE E.N (fun u s=>Lard.ev E.N n u it s) t st))):=by
 obtain ⟨b,i,o,m,c,rfl,nd⟩:=hx.node
 obtain ⟨b0,q0,rfl,d0,ht0⟩:=nd.part 0 (by omega)
 have hcall:=ih (t.part 0) it _ xi F st w (h0 0 (by omega)) ht0 hi h
 have hm:=nd.len
 have hfirst:Lard.firstE E.N (fun u s=>Lard.ev E.N n u it s) t st=Lard.thenR (Lard.ev E.N n (t.part 0) it st) fun v s=>match Lard.numIn v with | .ok i=>if i=0 then Lard.ev E.N n (t.part 2) it s else Lard.ev E.N n (t.part 1) it s | .error e=>(.error e,s):=by
  unfold Lard.firstE; rw [hk]; rfl
 rw [hfirst]
 obtain ⟨c0,_,_,_,c4⟩:=nd.cells w (Keeps.refl w)
 have e0:=d0 w (Keeps.refl w)
 have hq1:(0:Int) < (m:Int):=by omega
 have hform:=hi.form
 rw [hk] at c0
 have ND:=hide nd
 have HC:=hide hcall
 have IH:=hide ih
 have HI:=hide hi
 clear hcall hfirst nd d0 ht0 hx ih hi
 generalize Lard.ev E.N n (t.part 0) it st=q at HC ⊢
 obtain ⟨r,st1⟩:=q
 generalize hrb:E.rb=rb at HC
 have HRB:=hide hrb
 clear hrb
 cases r with
 |error e1 =>
  rcases hform with rfl | ⟨tx,ax,rfl⟩
  all_goals
   go_enter Tryz.func251,Tryz.ntmps251
   go_wp2_with fail
   refine HC.out.mono ?_
   rintro e w1 ⟨r,⟨hr,hst⟩,⟨v,y,hr2,rfl,hv⟩ | ⟨c1,hr2,rfl,hc⟩⟩
   ·rw [hr] at hr2; cases hr2
   ·rw [hr] at hr2; cases hr2
    exact ⟨rfl,.error e1,⟨rfl,hst⟩,.inr ⟨e1,rfl,rfl,hc⟩⟩
 |ok v1 =>
  cases hnum:Lard.numIn v1 with
  |ok z =>
   show Calls _ _ _ _ (PW (Ψ E F w (match Lard.numIn v1 with | .ok i=>if i=0 then Lard.ev E.N n (t.part 2) it st1 else Lard.ev E.N n (t.part 1) it st1 | .error e=>(.error e,st1))))
   rw [hnum]
   have HNUM:=hide hnum
   clear hnum
   by_cases hz:z=0
   ·show Calls _ _ _ _ (PW (Ψ E F w (if z=0 then Lard.ev E.N n (t.part 2) it st1 else Lard.ev E.N n (t.part 1) it st1)))
    rw [if_pos hz]
    subst hz
    rcases hform with rfl | ⟨tx,ax,rfl⟩
    all_goals
     go_enter Tryz.func251,Tryz.ntmps251
     go_wp2_with fail
     refine HC.out.mono ?_
     rintro e w1 ⟨r,⟨hr,F1,hst,hF,hfm⟩,⟨v,y,hr2,rfl,hv⟩ | ⟨c1,hr2,rfl,hc⟩⟩
     ·rw [hr] at hr2; cases hr2
      obtain ⟨k0,k1,_,_,k4⟩:=ND.out.cells w1 hfm.keeps
      rw [hk] at k0
      obtain ⟨t1,a1,rfl⟩:=hv.one
      have HV:=hide hv
      clear HC hv hr
      have hnum:Lard.numIn v1=.ok 0:=HNUM.out
      rcases HV.out.num_or with ⟨i',rfl,hx',_⟩ | ⟨hno,_⟩
      ·cases hnum
       cases hx'
       obtain ⟨bj,qj,ebj,dj,htj⟩:=ND.out.part 2 (by omega)
       cases ebj
       have ej:=dj w1 hfm.keeps
       have hw:=IH.out (t.part 2) it _ _ F1 st1 w1 (h0 2 (by omega)) (htj.keeps hfm.keeps) (HI.out.keeps hfm.keeps) hst
       rw [HRB.out] at hw
       have HW:=hide hw
       have HF2:=hide (fun (e:Ending) (w3:World) (h:PW (Ψ E F1 w1 (Lard.ev E.N n (t.part 2) it st1)) e w3)=>PW.after (F:=F) (w:=w) hF hfm h)
       have hqj:(2:Int) < (m:Int):=by omega
       clear hw dj htj IH ND HI h0
       go_wp2_with (go_at_call 280; refine (numberIn_ok _ _).mono ?_; rintro e w2 ⟨rfl,rfl⟩)
       refine HW.out.mono ?_
       rintro e w3 hp
       have hfin:=HF2.out e w3 hp
       obtain ⟨r3,_,⟨v3,y3,_,rfl,hv3⟩ | ⟨c3,_,rfl,_⟩⟩:=hp
       ·obtain ⟨t3,a3,rfl⟩:=hv3.one
        have HFIN:=hide hfin
        clear hfin hv3 HW HF2
        go_wp2_with fail
        go_ret
        exact HFIN.out
       ·exact ⟨rfl,hfin⟩
      ·exfalso
       rcases v1 with ⟨k | b | l⟩
       ·exact hno k rfl
       ·cases hnum
       ·cases hnum
     ·rw [hr] at hr2; cases hr2
   ·show Calls _ _ _ _ (PW (Ψ E F w (if z=0 then Lard.ev E.N n (t.part 2) it st1 else Lard.ev E.N n (t.part 1) it st1)))
    rw [if_neg hz]
    have hz':(z != 0)=true:=by rw [bne_iff_ne]; exact hz
    clear hz
    rcases hform with rfl | ⟨tx,ax,rfl⟩
    all_goals
     go_enter Tryz.func251,Tryz.ntmps251
     go_wp2_with fail
     refine HC.out.mono ?_
     rintro e w1 ⟨r,⟨hr,F1,hst,hF,hfm⟩,⟨v,y,hr2,rfl,hv⟩ | ⟨c1,hr2,rfl,hc⟩⟩
     ·rw [hr] at hr2; cases hr2
      obtain ⟨k0,k1,_,_,k4⟩:=ND.out.cells w1 hfm.keeps
      rw [hk] at k0
      obtain ⟨t1,a1,rfl⟩:=hv.one
      have HV:=hide hv
      clear HC hv hr
      have hnum:Lard.numIn v1=.ok z:=HNUM.out
      rcases HV.out.num_or with ⟨i',rfl,hx',_⟩ | ⟨hno,_⟩
      ·cases hnum
       cases hx'
       obtain ⟨bj,qj,ebj,dj,htj⟩:=ND.out.part 1 (by omega)
       cases ebj
       have ej:=dj w1 hfm.keeps
       have hw:=IH.out (t.part 1) it _ _ F1 st1 w1 (h0 1 (by omega)) (htj.keeps hfm.keeps) (HI.out.keeps hfm.keeps) hst
       rw [HRB.out] at hw
       have HW:=hide hw
       have HF2:=hide (fun (e:Ending) (w3:World) (h:PW (Ψ E F1 w1 (Lard.ev E.N n (t.part 1) it st1)) e w3)=>PW.after (F:=F) (w:=w) hF hfm h)
       have hqj:(1:Int) < (m:Int):=by omega
       clear hw dj htj IH ND HI h0
       go_wp2_with (go_at_call 280; refine (numberIn_ok _ _).mono ?_; rintro e w2 ⟨rfl,rfl⟩)
       refine HW.out.mono ?_
       rintro e w3 hp
       have hfin:=HF2.out e w3 hp
       obtain ⟨r3,_,⟨v3,y3,_,rfl,hv3⟩ | ⟨c3,_,rfl,_⟩⟩:=hp
       ·obtain ⟨t3,a3,rfl⟩:=hv3.one
        have HFIN:=hide hfin
        clear hfin hv3 HW HF2
        go_wp2_with fail
        go_ret
        exact HFIN.out
       ·exact ⟨rfl,hfin⟩
      ·exfalso
       rcases v1 with ⟨k | b | l⟩
       ·exact hno k rfl
       ·cases hnum
       ·cases hnum
     ·rw [hr] at hr2; cases hr2
  |error c =>
   show Calls _ _ _ _ (PW (Ψ E F w (match Lard.numIn v1 with | .ok i=>if i=0 then Lard.ev E.N n (t.part 2) it st1 else Lard.ev E.N n (t.part 1) it st1 | .error e=>(.error e,st1))))
   rw [hnum]
   have hc9:c=9:=by
    rcases v1 with ⟨k | b | l⟩ <;> cases hnum <;> rfl
   subst hc9
   show Calls _ _ _ _ (PW (Ψ E F w (.error 9,st1)))
   have HNUM:=hide hnum
   clear hnum
   rcases hform with rfl | ⟨tx,ax,rfl⟩
   all_goals
    go_enter Tryz.func251,Tryz.ntmps251
    go_wp2_with fail
    refine HC.out.mono ?_
    rintro e w1 ⟨r,⟨hr,F1,hst,hF,hfm⟩,⟨v,y,hr2,rfl,hv⟩ | ⟨c1,hr2,rfl,hc⟩⟩
    ·rw [hr] at hr2; cases hr2
     obtain ⟨k0,k1,_,_,k4⟩:=ND.out.cells w1 hfm.keeps
     rw [hk] at k0
     obtain ⟨t1,a1,rfl⟩:=hv.one
     have HV:=hide hv
     clear HC hv hr
     have hnum:Lard.numIn v1=.error 9:=HNUM.out
     rcases HV.out.num_or with ⟨i',rfl,hx',_⟩ | ⟨_,t',a',hx',ht⟩
     ·cases hnum
     ·cases hx'
      go_wp2_with fail
      refine (numberIn_no _ _ _ ht).mono ?_
      rintro e w2 ⟨rfl,rfl⟩
      exact ⟨rfl,PW.of_pv ok hst hF hfm (PV.err (Below.refl _ _)) (fun c' hc'=>by cases hc'; omega)⟩
    ·rw [hr] at hr2; cases hr2
end
end Go.Proofs.YtpekpdimdelncaaGreatDoor
