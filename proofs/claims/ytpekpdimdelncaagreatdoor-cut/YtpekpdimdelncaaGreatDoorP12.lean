/- Out of: U10, U11, U12. -/
import Derived.Test.YtpekpdimdelncaaGreatDoorP11
import Derived.Deep.RegionHeld3
set_option linter.unusedSimpArgs false
set_option linter.unusedVariables false
namespace Go.Proofs.YtpekpdimdelncaaGreatDoor
section
set_option maxRecDepth 100000
set_option maxHeartbeats 4000000
open Go.RowKit Go.Shelf
theorem each_any (E:Env) (ok:EnvOK E) (n:Nat) (ih:WorkSays E n) (t:Lard.T) (it:Option Lard.V) (x xi:Value) (F:Nat→Prop) (st:Nat×E.σ) (w:World) (hlen:t.parts.length=2) (h0:Lard.okT n it.isSome (t.part 0)=true) (h1:Lard.okT n true (t.part 1)=true) (hx:IsTree w (n + 1) t x) (hi:IsOpt w it xi) (h:St E F st w) :
  Calls Tryz.prog 248 #[.pointer (some ⟨E.rb,0,none⟩),x,xi] w (PW (Ψ E F w (Lard.thenR (Lard.ev E.N n (t.part 0) it st) fun v s=>match Lard.listIn v with | .ok l=>Lard.seqE (fun u s=>Lard.ev E.N n (t.part 1) (some u) s) l [] s | .error e=>(.error e,s)))):=by
 obtain ⟨b,i,o,m,c,rfl,nd⟩:=hx.node
 obtain ⟨b0,q0,rfl,d0,ht0⟩:=nd.part 0 (by omega)
 have hcall:=ih (t.part 0) it _ xi F st w h0 ht0 hi h
 have hm:=nd.len
 obtain ⟨_,_,_,_,c4⟩:=nd.cells w (Keeps.refl w)
 have e0:=d0 w (Keeps.refl w)
 have hq1:(0:Int) < (m:Int):=by omega
 have ND:=hide nd
 have HC:=hide hcall
 have IH:=hide ih
 clear hcall nd d0 ht0 hx ih hi h
 generalize Lard.ev E.N n (t.part 0) it st=q at HC ⊢
 obtain ⟨r,st1⟩:=q
 generalize hrb:E.rb=rb at HC
 have HRB:=hide hrb
 clear hrb
 cases r with
 |error e1 =>
  show Calls _ _ _ _ (PW (Ψ E F w (.error e1,st1)))
  go_enter Tryz.func248,Tryz.ntmps248
  go_wp2_with fail
  refine HC.out.mono ?_
  rintro e w1 ⟨r,⟨hr,hst⟩,⟨v,y,hr2,rfl,hv⟩ | ⟨c1,hr2,rfl,hc⟩⟩
  ·rw [hr] at hr2; cases hr2
  ·rw [hr] at hr2; cases hr2
   exact ⟨rfl,.error e1,⟨rfl,hst⟩,.inr ⟨e1,rfl,rfl,hc⟩⟩
 |ok v1 =>
  show Calls _ _ _ _ (PW (Ψ E F w (match Lard.listIn v1 with | .ok l=>Lard.seqE (fun u s=>Lard.ev E.N n (t.part 1) (some u) s) l [] st1 | .error e=>(.error e,st1))))
  cases hl:Lard.listIn v1 with
  |error c9 =>
   show Calls _ _ _ _ (PW (Ψ E F w (.error c9,st1)))
   have hc9:c9=9:=by
    rcases v1 with ⟨k | b | l⟩ <;> cases hl <;> rfl
   subst hc9
   have HLI:=hide hl
   clear hl
   go_enter Tryz.func248,Tryz.ntmps248
   go_wp2_with fail
   refine HC.out.mono ?_
   rintro e w1 ⟨r,⟨hr,F1,hst,hF,hfm⟩,⟨v,y,hr2,rfl,hv⟩ | ⟨c1,hr2,rfl,hc⟩⟩
   ·rw [hr] at hr2; cases hr2
    have hno:∃ t a,y=.iface t a∧(t=215∨t=219):=by
     rcases hv.forms with ⟨i,rfl,rfl,_⟩ | ⟨b,rfl,rfl,_⟩ | ⟨m2,l2,s2,ys2,hm2,rfl,rfl,_⟩
     ·exact ⟨_,_,rfl,.inr rfl⟩
     ·exact ⟨_,_,rfl,.inl rfl⟩
     ·have:=HLI.out; cases this
    obtain ⟨t1,a1,rfl,ht1⟩:=hno
    clear hv HC
    go_wp2_with fail
    refine (listIn_no _ _ _ ht1).mono ?_
    rintro e w2 ⟨rfl,rfl⟩
    exact ⟨rfl,PW.of_pv ok hst hF hfm (PV.err (Below.refl _ _)) (fun c' hc'=>by cases hc'; omega)⟩
   ·rw [hr] at hr2; cases hr2
  |ok l =>
   show Calls _ _ _ _ (PW (Ψ E F w (Lard.seqE (fun u s=>Lard.ev E.N n (t.part 1) (some u) s) l [] st1)))
   have HLI:=hide hl
   clear hl
   generalize hfin:Lard.seqE (fun u s=>Lard.ev E.N n (t.part 1) (some u) s) l [] st1=fin
   have HFI:=hide hfin
   clear hfin
   go_enter Tryz.func248,Tryz.ntmps248
   go_wp2_with fail
   refine HC.out.mono ?_
   rintro e w1 ⟨r,⟨hr,F1,hst,hF,hfm⟩,⟨v,y,hr2,rfl,hv⟩ | ⟨c1,hr2,rfl,hc⟩⟩
   ·rw [hr] at hr2; cases hr2
    have hls:∃ s zs,y=.iface 248 s∧IsRow w1 s zs∧Vals w1 2 l zs∧l.length≤12:=by
     rcases hv.forms with ⟨i,rfl,rfl,_⟩ | ⟨b,rfl,rfl,_⟩ | ⟨m2,l2,s2,ys2,hm2,rfl,rfl,hr2,hl2,h12,hv2⟩
     ·have:=HLI.out; cases this
     ·have:=HLI.out; cases this
     ·have:=HLI.out
      cases this
      obtain rfl:m2=2:=by omega
      exact ⟨s2,ys2,rfl,hr2,⟨hl2,hv2⟩,h12⟩
    obtain ⟨s1,zs,rfl,hrow,hvals,h12⟩:=hls
    obtain ⟨os,cs,rfl⟩:=hrow.len
    have hlz:=hvals.1
    obtain ⟨bj,qj,ebj,dj,htj⟩:=ND.out.part 1 (by omega)
    cases ebj
    have NDK:=hide (fun (w':World) (hk:Keeps w w')=>(ND.out.cells w' hk).2.2.2.2)
    have DJ:=hide dj
    have HTJ:=hide htj
    have HROW:=hide hrow
    have HVALS:=hide hvals
    have hlt:=hst.lt
    have LP0:=hide (Lp.start hst)
    have hqj:(1:Int) < (m:Int):=by omega
    clear hv HC hrow hvals dj htj ND HLI
    go_wp2_with (go_at_call 278; refine (listIn_ok _ _ _ _).mono ?_; rintro e w2 ⟨rfl,rfl⟩)
    go_loopw [7,21] (fun a idx wr=>∃ (k:Nat) (acc:List Lard.V) (ys:List Value) (F':Nat→Prop) (st':Nat×E.σ),k≤zs.length∧idx=.int .i64 k∧acc.length≤k∧Hid (Lp E F1 w2 a ys acc F' st' wr)∧Hid (Lard.seqE (fun u s=>Lard.ev E.N n (t.part 1) (some u) s) (l.drop k) acc st'=fin)) (fun _ idx _=>zs.length - (intOf idx).toNat)
    case atStart=>exact ⟨0,[],[],F1,st1,Nat.zero_le _,rfl,Nat.le_refl _,LP0,HFI⟩
    case round =>
     clear LP0 HFI
     obtain ⟨k,acc,ys,F',st',hk,rfl,hacc,LP,HR⟩:=hrel
     have hys:acc.length=ys.length:=LP.out.vals.1
     have hkw:=(hfm.trans LP.out.fm).keeps
     by_cases hltk:k < zs.length
     ·obtain ⟨u,hu⟩:∃ u,l[k]? = some u:=⟨_,List.getElem?_eq_getElem (by omega)⟩
      obtain ⟨y,hy⟩:∃ y,zs[k]? = some y:=⟨_,List.getElem?_eq_getElem hltk⟩
      obtain ⟨bz,rfl,hc⟩:=(HROW.out.keeps LP.out.fm.keeps).cell hy
      have hval:=((HVALS.out.2 k u y hu hy).keeps LP.out.fm.keeps).up
      obtain ⟨ty,ay,rfl⟩:=hval.one
      have ek:=NDK.out _ hkw
      have ej:=DJ.out _ hkw
      have hw:=IH.out (t.part 1) (some u) _ _ F' st' _ h1 (HTJ.out.keeps hkw) (.inr ⟨u,rfl,hval⟩) LP.out.st
      have hR:=HR.out
      rw [drop_cons hu] at hR
      have hR2:Lard.thenR (Lard.ev E.N n (t.part 1) (some u) st') (fun v s=>Lard.seqE (fun u s=>Lard.ev E.N n (t.part 1) (some u) s) (l.drop (k + 1)) (acc++[v]) s)=fin:=hR
      rw [HRB.out] at hw
      generalize Lard.ev E.N n (t.part 1) (some u) st'=q at hw hR2
      obtain ⟨r,st3⟩:=q
      have HW:=hide hw
      have HU:=hide hval
      have hltk':(k:Int) < (zs.length:Int):=by omega
      clear hw hR HR hval
      cases r with
      |error e1 =>
       have hR3:fin=(.error e1,st3):=hR2.symm
       subst hR3
       clear hR2 NDK DJ HTJ IH HROW HVALS
       go_wp2_with fail
       refine HW.out.mono ?_
       rintro e w3 hp
       have hfin:=PW.after hF hfm (PW.after LP.out.grows LP.out.fm hp)
       obtain ⟨r3,⟨hr3,_⟩,⟨v3,y3,h3,_⟩ | ⟨c3,h3,rfl,_⟩⟩:=hp
       ·rw [hr3] at h3; cases h3
       ·rw [hr3] at h3; cases h3
        exact ⟨rfl,hfin⟩
      |ok v2 =>
       have HR2:Hid (Lard.seqE (fun u s=>Lard.ev E.N n (t.part 1) (some u) s) (l.drop (k + 1)) (acc++[v2]) st3=fin):=hR2
       clear hR2 NDK DJ HTJ IH HROW HVALS
       go_wp2_with fail
       refine HW.out.mono ?_
       rintro e w3 ⟨r3,⟨hr3,F3,hst3,hF3,hfm3⟩,⟨v3,y3,h3,rfl,hv3⟩ | ⟨c3,h3,rfl,_⟩⟩
       ·rw [hr3] at h3; cases h3
        have LP3:=hide (LP.out.worked hst3 hF3 hfm3)
        obtain ⟨t3,a3,rfl⟩:=hv3.one
        have hB4:Below w3.heap.size w3 (w3.alloc (Obj.cells #[.iface t3 a3] 111)):=(Below.refl _ w3).alloc (Nat.le_refl _) _
        have LP4:=hide (LP3.out.below ok hB4)
        have HV4:=hide (hv3.keeps (Keeps.below hB4))
        have hc4:(w3.alloc (Obj.cells #[.iface t3 a3] 111)).cell? ((⟨w3.heap.size,0,none⟩:Addr).add 0)=some (.iface t3 a3):=cell_one_new _ _ _ 0 _ rfl
        have hsz4:w2.heap.size≤(w3.alloc (Obj.cells #[.iface t3 a3] 111)).heap.size:=LP4.out.fm.size
        clear hv3 hst3 hF3 hfm3 hr3 LP HW LP3
        go_wp2_with (at_builtin; refine wpList_priv rfl _ _ 247 Tryz.underlying247 rfl w2.heap.size _ ys rfl LP4.out.priv ⟨w3.heap.size,0,none⟩ _ (.iface t3 a3) rfl hc4 rfl (by omega) hsz4 ?_; intro v' w5 g2 g3 g4 g5)
        have LP5:=LP4.out.append ok hlt HV4.out g2 g3 g4 g5
        exact ⟨⟨k + 1,acc++[v2],_,F3,st3,by omega,by go_num,by simp; omega,LP5,HR2⟩,by simp [intOf]; omega⟩
       ·rw [hr3] at h3; cases h3
     ·have hR:=HR.out
      rw [List.drop_eq_nil_of_le (by omega)] at hR
      have hR2:fin=(Lard.listOf acc,st'):=hR.symm
      have hcall:=listOf_any acc _ ys _ LP.out.priv.row LP.out.vals (by omega)
      have HL:=hide (hcall.mono fun e w2 hpl=>PW.of_pl ok LP.out hpl)
      obtain ⟨oa,ca,rfl⟩:=LP.out.priv.row.len
      clear hcall hR HR NDK DJ HTJ IH HROW HVALS
      generalize Lard.listOf acc=res at HL hR2
      subst hR2
      go_wp2_with fail
      refine HL.out.mono ?_
      rintro e w4 ⟨h1',h2'⟩
      cases res with
      |error c =>
       obtain ⟨rfl,hfin⟩:=h2' c rfl
       exact ⟨rfl,PW.after hF hfm hfin⟩
      |ok v =>
       obtain ⟨o2,n2,c2,rfl,hfin⟩:=h1' v rfl
       have HFIN:=hide (PW.after hF hfm hfin)
       clear hfin h1' h2' HL LP
       go_wp2_with fail
       go_ret
       exact HFIN.out
   ·rw [hr] at hr2; cases hr2
end
section
set_option maxRecDepth 100000
set_option maxHeartbeats 4000000
open Go.RowKit Go.Shelf
theorem some_any (E:Env) (ok:EnvOK E) (n:Nat) (ih:WorkSays E n) (t:Lard.T) (it:Option Lard.V) (x xi:Value) (F:Nat→Prop) (st:Nat×E.σ) (w:World) (hlen:t.parts.length=2) (h0:Lard.okT n it.isSome (t.part 0)=true) (h1:Lard.okT n true (t.part 1)=true) (hx:IsTree w (n + 1) t x) (hi:IsOpt w it xi) (h:St E F st w) :
  Calls Tryz.prog 249 #[.pointer (some ⟨E.rb,0,none⟩),x,xi] w (PW (Ψ E F w (Lard.thenR (Lard.ev E.N n (t.part 0) it st) fun v s=>match Lard.listIn v with | .ok l=>Lard.someE (fun u s=>Lard.ev E.N n (t.part 1) (some u) s) l [] s | .error e=>(.error e,s)))):=by
 obtain ⟨b,i,o,m,c,rfl,nd⟩:=hx.node
 obtain ⟨b0,q0,rfl,d0,ht0⟩:=nd.part 0 (by omega)
 have hcall:=ih (t.part 0) it _ xi F st w h0 ht0 hi h
 have hm:=nd.len
 obtain ⟨_,_,_,_,c4⟩:=nd.cells w (Keeps.refl w)
 have e0:=d0 w (Keeps.refl w)
 have hq1:(0:Int) < (m:Int):=by omega
 have ND:=hide nd
 have HC:=hide hcall
 have IH:=hide ih
 clear hcall nd d0 ht0 hx ih hi h
 generalize Lard.ev E.N n (t.part 0) it st=q at HC ⊢
 obtain ⟨r,st1⟩:=q
 generalize hrb:E.rb=rb at HC
 have HRB:=hide hrb
 clear hrb
 cases r with
 |error e1 =>
  show Calls _ _ _ _ (PW (Ψ E F w (.error e1,st1)))
  go_enter Tryz.func249,Tryz.ntmps249
  go_wp2_with fail
  refine HC.out.mono ?_
  rintro e w1 ⟨r,⟨hr,hst⟩,⟨v,y,hr2,rfl,hv⟩ | ⟨c1,hr2,rfl,hc⟩⟩
  ·rw [hr] at hr2; cases hr2
  ·rw [hr] at hr2; cases hr2
   exact ⟨rfl,.error e1,⟨rfl,hst⟩,.inr ⟨e1,rfl,rfl,hc⟩⟩
 |ok v1 =>
  show Calls _ _ _ _ (PW (Ψ E F w (match Lard.listIn v1 with | .ok l=>Lard.someE (fun u s=>Lard.ev E.N n (t.part 1) (some u) s) l [] st1 | .error e=>(.error e,st1))))
  cases hl:Lard.listIn v1 with
  |error c9 =>
   show Calls _ _ _ _ (PW (Ψ E F w (.error c9,st1)))
   have hc9:c9=9:=by
    rcases v1 with ⟨k | b | l⟩ <;> cases hl <;> rfl
   subst hc9
   have HLI:=hide hl
   clear hl
   go_enter Tryz.func249,Tryz.ntmps249
   go_wp2_with fail
   refine HC.out.mono ?_
   rintro e w1 ⟨r,⟨hr,F1,hst,hF,hfm⟩,⟨v,y,hr2,rfl,hv⟩ | ⟨c1,hr2,rfl,hc⟩⟩
   ·rw [hr] at hr2; cases hr2
    have hno:∃ t a,y=.iface t a∧(t=215∨t=219):=by
     rcases hv.forms with ⟨i,rfl,rfl,_⟩ | ⟨b,rfl,rfl,_⟩ | ⟨m2,l2,s2,ys2,hm2,rfl,rfl,_⟩
     ·exact ⟨_,_,rfl,.inr rfl⟩
     ·exact ⟨_,_,rfl,.inl rfl⟩
     ·have:=HLI.out; cases this
    obtain ⟨t1,a1,rfl,ht1⟩:=hno
    clear hv HC
    go_wp2_with fail
    refine (listIn_no _ _ _ ht1).mono ?_
    rintro e w2 ⟨rfl,rfl⟩
    exact ⟨rfl,PW.of_pv ok hst hF hfm (PV.err (Below.refl _ _)) (fun c' hc'=>by cases hc'; omega)⟩
   ·rw [hr] at hr2; cases hr2
  |ok l =>
   show Calls _ _ _ _ (PW (Ψ E F w (Lard.someE (fun u s=>Lard.ev E.N n (t.part 1) (some u) s) l [] st1)))
   have HLI:=hide hl
   clear hl
   generalize hfin:Lard.someE (fun u s=>Lard.ev E.N n (t.part 1) (some u) s) l [] st1=fin
   have HFI:=hide hfin
   clear hfin
   go_enter Tryz.func249,Tryz.ntmps249
   go_wp2_with fail
   refine HC.out.mono ?_
   rintro e w1 ⟨r,⟨hr,F1,hst,hF,hfm⟩,⟨v,y,hr2,rfl,hv⟩ | ⟨c1,hr2,rfl,hc⟩⟩
   ·rw [hr] at hr2; cases hr2
    have hls:∃ s zs,y=.iface 248 s∧IsRow w1 s zs∧Vals w1 2 l zs∧l.length≤12:=by
     rcases hv.forms with ⟨i,rfl,rfl,_⟩ | ⟨b,rfl,rfl,_⟩ | ⟨m2,l2,s2,ys2,hm2,rfl,rfl,hr2,hl2,h12,hv2⟩
     ·have:=HLI.out; cases this
     ·have:=HLI.out; cases this
     ·have:=HLI.out
      cases this
      obtain rfl:m2=2:=by omega
      exact ⟨s2,ys2,rfl,hr2,⟨hl2,hv2⟩,h12⟩
    obtain ⟨s1,zs,rfl,hrow,hvals,h12⟩:=hls
    obtain ⟨os,cs,rfl⟩:=hrow.len
    have hlz:=hvals.1
    obtain ⟨bj,qj,ebj,dj,htj⟩:=ND.out.part 1 (by omega)
    cases ebj
    have NDK:=hide (fun (w':World) (hk:Keeps w w')=>(ND.out.cells w' hk).2.2.2.2)
    have DJ:=hide dj
    have HTJ:=hide htj
    have HROW:=hide hrow
    have HVALS:=hide hvals
    have hlt:=hst.lt
    have LP0:=hide (Lp.start hst)
    have hqj:(1:Int) < (m:Int):=by omega
    clear hv HC hrow hvals dj htj ND HLI
    go_wp2_with (go_at_call 278; refine (listIn_ok _ _ _ _).mono ?_; rintro e w2 ⟨rfl,rfl⟩)
    go_loopw [7,21] (fun a idx wr=>∃ (k:Nat) (acc:List Lard.V) (ys:List Value) (F':Nat→Prop) (st':Nat×E.σ),k≤zs.length∧idx=.int .i64 k∧acc.length≤k∧Hid (Lp E F1 w2 a ys acc F' st' wr)∧Hid (Lard.someE (fun u s=>Lard.ev E.N n (t.part 1) (some u) s) (l.drop k) acc st'=fin)) (fun _ idx _=>zs.length - (intOf idx).toNat)
    case atStart=>exact ⟨0,[],[],F1,st1,Nat.zero_le _,rfl,Nat.le_refl _,LP0,HFI⟩
    case round =>
     clear LP0 HFI
     obtain ⟨k,acc,ys,F',st',hk,rfl,hacc,LP,HR⟩:=hrel
     have hys:acc.length=ys.length:=LP.out.vals.1
     have hkw:=(hfm.trans LP.out.fm).keeps
     by_cases hltk:k < zs.length
     ·obtain ⟨u,hu⟩:∃ u,l[k]? = some u:=⟨_,List.getElem?_eq_getElem (by omega)⟩
      obtain ⟨y,hy⟩:∃ y,zs[k]? = some y:=⟨_,List.getElem?_eq_getElem hltk⟩
      obtain ⟨bz,rfl,hc⟩:=(HROW.out.keeps LP.out.fm.keeps).cell hy
      have hval:=((HVALS.out.2 k u y hu hy).keeps LP.out.fm.keeps).up
      obtain ⟨ty,ay,rfl⟩:=hval.one
      have ek:=NDK.out _ hkw
      have ej:=DJ.out _ hkw
      have hw:=IH.out (t.part 1) (some u) _ _ F' st' _ h1 (HTJ.out.keeps hkw) (.inr ⟨u,rfl,hval⟩) LP.out.st
      have hR:=HR.out
      rw [drop_cons hu] at hR
      have hR2:Lard.thenR (Lard.ev E.N n (t.part 1) (some u) st') (fun v s=>match Lard.numIn v with | .ok i=>if i=0 then Lard.someE (fun u s=>Lard.ev E.N n (t.part 1) (some u) s) (l.drop (k + 1)) acc s else Lard.someE (fun u s=>Lard.ev E.N n (t.part 1) (some u) s) (l.drop (k + 1)) (acc++[u]) s | .error e=>(.error e,s))=fin:=hR
      rw [HRB.out] at hw
      generalize Lard.ev E.N n (t.part 1) (some u) st'=q at hw hR2
      obtain ⟨r,st3⟩:=q
      have HW:=hide hw
      have HU:=hide hval
      have hltk':(k:Int) < (zs.length:Int):=by omega
      clear hw hR HR hval
      cases r with
      |error e1 =>
       have hR3:fin=(.error e1,st3):=hR2.symm
       subst hR3
       clear hR2 NDK DJ HTJ IH HROW HVALS
       go_wp2_with fail
       refine HW.out.mono ?_
       rintro e w3 hp
       have hfin:=PW.after hF hfm (PW.after LP.out.grows LP.out.fm hp)
       obtain ⟨r3,⟨hr3,_⟩,⟨v3,y3,h3,_⟩ | ⟨c3,h3,rfl,_⟩⟩:=hp
       ·rw [hr3] at h3; cases h3
       ·rw [hr3] at h3; cases h3
        exact ⟨rfl,hfin⟩
      |ok v2 =>
       cases hnum:Lard.numIn v2 with
       |error c9 =>
        have hc9:c9=9:=by
         rcases v2 with ⟨k | b | l⟩ <;> cases hnum <;> rfl
        subst hc9
        have hR3:fin=(.error 9,st3):=by
         have hR4:(match Lard.numIn v2 with | .ok i=>if i=0 then Lard.someE (fun u s=>Lard.ev E.N n (t.part 1) (some u) s) (l.drop (k + 1)) acc st3 else Lard.someE (fun u s=>Lard.ev E.N n (t.part 1) (some u) s) (l.drop (k + 1)) (acc++[u]) st3 | .error e=>(.error e,st3))=fin:=hR2
         rw [hnum] at hR4
         exact hR4.symm
        subst hR3
        have HNUM:=hide hnum
        clear hR2 NDK DJ HTJ IH HROW HVALS hnum
        go_wp2_with fail
        refine HW.out.mono ?_
        rintro e w3 ⟨r3,⟨hr3,F3,hst3,hF3,hfm3⟩,⟨v3,y3,h3,rfl,hv3⟩ | ⟨c3,h3,rfl,_⟩⟩
        ·rw [hr3] at h3; cases h3
         rcases hv3.num_or with ⟨i',rfl,_⟩ | ⟨_,t',a',rfl,ht⟩
         ·have:=HNUM.out; cases this
         ·have LP3:=hide (LP.out.worked hst3 hF3 hfm3)
          clear hv3 hst3 hF3 hfm3 LP HW
          go_wp2_with fail
          refine (numberIn_no _ _ _ ht).mono ?_
          rintro e w4 ⟨rfl,rfl⟩
          exact ⟨rfl,PW.after hF hfm (PW.of_pv ok LP3.out.st LP3.out.grows LP3.out.fm (PV.err (Below.refl _ _)) (fun c' hc'=>by cases hc'; omega))⟩
        ·rw [hr3] at h3; cases h3
       |ok z =>
        have hR4:(if z=0 then Lard.someE (fun u s=>Lard.ev E.N n (t.part 1) (some u) s) (l.drop (k + 1)) acc st3 else Lard.someE (fun u s=>Lard.ev E.N n (t.part 1) (some u) s) (l.drop (k + 1)) (acc++[u]) st3)=fin:=by
         have hR4:(match Lard.numIn v2 with | .ok i=>if i=0 then Lard.someE (fun u s=>Lard.ev E.N n (t.part 1) (some u) s) (l.drop (k + 1)) acc st3 else Lard.someE (fun u s=>Lard.ev E.N n (t.part 1) (some u) s) (l.drop (k + 1)) (acc++[u]) st3 | .error e=>(.error e,st3))=fin:=hR2
         rw [hnum] at hR4
         exact hR4
        have HNUM:=hide hnum
        clear hR2 NDK DJ HTJ IH HROW HVALS hnum
        by_cases hz:z=0
        ·rw [if_pos hz] at hR4
         subst hz
         have HR2:=hide hR4
         clear hR4
         go_wp2_with fail
         refine HW.out.mono ?_
         rintro e w3 ⟨r3,⟨hr3,F3,hst3,hF3,hfm3⟩,⟨v3,y3,h3,rfl,hv3⟩ | ⟨c3,h3,rfl,_⟩⟩
         ·rw [hr3] at h3; cases h3
          have hnum:Lard.numIn v2=.ok 0:=HNUM.out
          rcases hv3.num_or with ⟨i',rfl,rfl,_⟩ | ⟨hno,_⟩
          ·cases hnum
           have LP3:=hide (LP.out.worked hst3 hF3 hfm3)
           clear hv3 hst3 hF3 hfm3 LP HW
           go_wp2_with (go_at_call 280; refine (numberIn_ok _ _).mono ?_; rintro e w4 ⟨rfl,rfl⟩)
           exact ⟨⟨k + 1,acc,_,F3,st3,by omega,by go_num,by omega,LP3,HR2⟩,by simp [intOf]; omega⟩
          ·exfalso
           rcases v2 with ⟨k | b | l⟩
           ·exact hno k rfl
           ·cases hnum
           ·cases hnum
         ·rw [hr3] at h3; cases h3
        ·rw [if_neg hz] at hR4
         have HR2:=hide hR4
         have hz':(z != 0)=true:=by rw [bne_iff_ne]; exact hz
         clear hR4 hz
         go_wp2_with fail
         refine HW.out.mono ?_
         rintro e w3 ⟨r3,⟨hr3,F3,hst3,hF3,hfm3⟩,⟨v3,y3,h3,rfl,hv3⟩ | ⟨c3,h3,rfl,_⟩⟩
         ·rw [hr3] at h3; cases h3
          have hnum:Lard.numIn v2=.ok z:=HNUM.out
          rcases hv3.num_or with ⟨i',rfl,rfl,_⟩ | ⟨hno,_⟩
          ·cases hnum
           have LP3:=hide (LP.out.worked hst3 hF3 hfm3)
           have hB4:Below w3.heap.size w3 (w3.alloc (Obj.cells #[.iface ty ay] 111)):=(Below.refl _ w3).alloc (Nat.le_refl _) _
           have LP4:=hide (LP3.out.below ok hB4)
           have HV4:=hide ((HU.out.keeps hfm3.keeps).keeps (Keeps.below hB4))
           have hc4:(w3.alloc (Obj.cells #[.iface ty ay] 111)).cell? ((⟨w3.heap.size,0,none⟩:Addr).add 0)=some (.iface ty ay):=cell_one_new _ _ _ 0 _ rfl
           have hsz4:w2.heap.size≤(w3.alloc (Obj.cells #[.iface ty ay] 111)).heap.size:=LP4.out.fm.size
           clear hv3 hst3 hF3 hfm3 LP HW LP3 HU
           go_wp2_with (first | (go_at_call 280; refine (numberIn_ok _ _).mono ?_; rintro e w4 ⟨rfl,hw4⟩; have hw4':=hw4.symm; subst hw4'; clear hw4) | (at_builtin; refine wpList_priv rfl _ _ 247 Tryz.underlying247 rfl w2.heap.size _ ys rfl LP4.out.priv ⟨w3.heap.size,0,none⟩ _ (.iface ty ay) rfl hc4 rfl (by omega) hsz4 ?_; intro v' w5 g2 g3 g4 g5))
           have LP5:=LP4.out.append ok hlt HV4.out g2 g3 g4 g5
           exact ⟨⟨k + 1,acc++[u],_,F3,st3,by omega,by go_num,by simp; omega,LP5,HR2⟩,by simp [intOf]; omega⟩
          ·exfalso
           rcases v2 with ⟨k | b | l⟩
           ·exact hno k rfl
           ·cases hnum
           ·cases hnum
         ·rw [hr3] at h3; cases h3
     ·have hR:=HR.out
      rw [List.drop_eq_nil_of_le (by omega)] at hR
      have hR2:fin=(Lard.listOf acc,st'):=hR.symm
      have hcall:=listOf_any acc _ ys _ LP.out.priv.row LP.out.vals (by omega)
      have HL:=hide (hcall.mono fun e w2 hpl=>PW.of_pl ok LP.out hpl)
      obtain ⟨oa,ca,rfl⟩:=LP.out.priv.row.len
      clear hcall hR HR NDK DJ HTJ IH HROW HVALS
      generalize Lard.listOf acc=res at HL hR2
      subst hR2
      go_wp2_with fail
      refine HL.out.mono ?_
      rintro e w4 ⟨h1',h2'⟩
      cases res with
      |error c =>
       obtain ⟨rfl,hfin⟩:=h2' c rfl
       exact ⟨rfl,PW.after hF hfm hfin⟩
      |ok v =>
       obtain ⟨o2,n2,c2,rfl,hfin⟩:=h1' v rfl
       have HFIN:=hide (PW.after hF hfm hfin)
       clear hfin h1' h2' HL LP
       go_wp2_with fail
       go_ret
       exact HFIN.out
   ·rw [hr] at hr2; cases hr2
end
section
set_option maxRecDepth 100000
set_option maxHeartbeats 2000000
open Go.RowKit Go.Shelf
theorem Fm.own {base g:Nat} {w w2 w':World} (h:Fm base w w2) (hg:w2.grownBy w' (some g)) (hw:w.heap.size≤g) (hb:base≤w.heap.size):Fm base w w' :=
 ⟨h.bel.trans ((Below.refl base w2).grown hg (Nat.le_trans hb h.size) (fun k hk=>by cases hk; omega)),fun k cs t fz hk ht=>(hg.block k (lt_of_some (h.imm k cs t fz hk ht)) (fun e=>by cases e; have:=lt_of_some hk; omega)).trans (h.imm k cs t fz hk ht)⟩
theorem try1_any (E:Env) (ok:EnvOK E) (n:Nat) (ih:WorkSays E n) (t:Lard.T) (it:Option Lard.V) (b p0 p1 p2:Nat) (xi:Value) (F:Nat→Prop) (st:Nat×E.σ) (w:World) (hlen:t.parts.length=2) (h0:Lard.okT n it.isSome (t.part 0)=true) (hx:IsTree w (n + 1) t (.pointer (some ⟨b,0,none⟩))) (hi:IsOpt w it xi) (h:St E F st w)
  (d0:w.heap[p0]? = some (.cells #[.pointer (some ⟨E.rb,0,none⟩)] 242 (0,0))) (d1:w.heap[p1]? = some (.cells #[.pointer (some ⟨b,0,none⟩)] 121 (0,0))) (d2:w.heap[p2]? = some (.cells #[xi] 111 (0,0))) :
  Calls Tryz.prog 277 #[.pointer (some ⟨p0,0,none⟩),.pointer (some ⟨p1,0,none⟩),.pointer (some ⟨p2,0,none⟩)] w (PW (Ψ E F w (Lard.ev E.N n (t.part 0) it st))):=by
 obtain ⟨b',i,o,m,c,e,nd⟩:=hx.node
 cases e
 obtain ⟨b0,q0,rfl,E0,ht0⟩:=nd.part 0 (by omega)
 have hBd:Below w.heap.size w w.drew:=(Below.refl _ w).drew
 have hfmd:Fm E.base w w.drew:=Fm.below hBd (Nat.le_trans ok.baser (Nat.le_of_lt h.lt))
 have hcall:=(ih (t.part 0) it _ xi F st w.drew h0 (ht0.keeps hfmd.keeps) (hi.keeps hfmd.keeps) (h.below ok hBd)).mono (fun e w3 hp=>PW.after (fun k hk=>.inl hk) hfmd hp)
 have hm:=nd.len
 have hq1:(0:Int) < (m:Int):=by omega
 have hq0:0 < m:=by omega
 have hform:=hi.form
 have cells:∀ w3,Fm E.base w w3→w3.cell? ⟨p0,0,none⟩=some (.pointer (some ⟨E.rb,0,none⟩))∧w3.cell? ⟨p1,0,none⟩=some (.pointer (some ⟨b,0,none⟩))∧w3.cell? ⟨p2,0,none⟩=some xi∧w3.cell? ⟨b,4,none⟩=some (.slice (some ⟨b0,0,none⟩) m c)∧w3.cell? ⟨b0,0,none⟩=some (.pointer (some q0)):=fun w3 hf=>by
  have f0:=hf.imm _ _ _ _ d0 (.inr (.inr rfl))
  have f1:=hf.imm _ _ _ _ d1 (.inl (.inr (.inr rfl)))
  have f2:=hf.imm _ _ _ _ d2 (.inl (.inl rfl))
  exact ⟨by simp [World.cell?,f0],by simp [World.cell?,f1],by simp [World.cell?,f2],(nd.cells w3 hf.keeps).2.2.2.2,E0 w3 hf.keeps⟩
 have hcall:=hcall.mono (R':=fun e w3=>PW (Ψ E F w (Lard.ev E.N n (t.part 0) it st)) e w3∧_) (fun e w3 hp=>⟨hp,by
  obtain ⟨_,⟨_,_,_,_,hf⟩,_⟩:=hp
  exact cells w3 hf⟩)
 obtain ⟨d0,d1,d2,c4,e0⟩:=cells w (Fm.refl _ _)
 clear cells E0
 generalize Lard.ev E.N n (t.part 0) it st=q at hcall ⊢
 generalize E.rb=rb at hcall d0
 have HC:=hide hcall
 clear nd ht0 hx ih hi h hfmd hcall
 rcases hform with rfl | ⟨tx,ax,rfl⟩
 all_goals
  go_enter Tryz.func277,Tryz.ntmps277
  go_wp2_with fail
  refine wp_region_held_drew (S:=fun w'=>w'.cell? ⟨p0,0,none⟩=some (.pointer (some ⟨rb,0,none⟩))∧w'.cell? ⟨p1,0,none⟩=some (.pointer (some ⟨b,0,none⟩))∧w'.cell? ⟨p2,0,none⟩=_∧w'.cell? ⟨b,4,none⟩=some (.slice (some ⟨b0,0,none⟩) m c)∧w'.cell? ⟨b0,0,none⟩=some (.pointer (some q0))) (by kernel_rfl) ⟨d0,d1,d2,c4,e0⟩ (fun hHeld=>?_)
  refine wpAnyH_take (i:=0) (v:=?_) rfl (by kernel_rfl) (by kernel_rfl) (by kernel_rfl) (fun _ _ _ h=>h) (Or.inl ⟨by rfl,?_⟩) (by assumption) ?_
  rotate_left
  ·intro w' hS'
   obtain ⟨s0,s1,s2,s3,s4⟩:=hS'
   go_simp
   try rw [if_pos hq0]
   try with_reducible rfl
  simp only [Act.put,List.setIfInBounds_toArray,List.set_cons_zero,List.set_cons_succ]
  refine wpAnyH_take (i:=1) (v:=?_) rfl (by kernel_rfl) (by kernel_rfl) (by kernel_rfl) (fun _ _ _ h=>h) (Or.inl ⟨by rfl,?_⟩) (by assumption) ?_
  rotate_left
  ·intro w' hS'
   obtain ⟨s0,s1,s2,s3,s4⟩:=hS'
   go_simp
   try rw [if_pos hq0]
   try with_reducible rfl
  simp only [Act.put,List.setIfInBounds_toArray,List.set_cons_zero,List.set_cons_succ]
  refine wpAnyH_take (i:=2) (v:=?_) rfl (by kernel_rfl) (by kernel_rfl) (by kernel_rfl) (fun _ _ _ h=>h) (Or.inl ⟨by rfl,?_⟩) (by assumption) ?_
  rotate_left
  ·intro w' hS'
   obtain ⟨s0,s1,s2,s3,s4⟩:=hS'
   go_simp
   try rw [if_pos hq0]
   try with_reducible rfl
  simp only [Act.put,List.setIfInBounds_toArray,List.set_cons_zero,List.set_cons_succ]
  refine wpAnyH_take (i:=3) (v:=?_) rfl (by kernel_rfl) (by kernel_rfl) (by kernel_rfl) (fun _ _ _ h=>h) (Or.inl ⟨by rfl,?_⟩) (by assumption) ?_
  rotate_left
  ·intro w' hS'
   obtain ⟨s0,s1,s2,s3,s4⟩:=hS'
   go_simp
   try rw [if_pos hq0]
   try with_reducible rfl
  simp only [Act.put,List.setIfInBounds_toArray,List.set_cons_zero,List.set_cons_succ]
  refine wpAnyH_take (i:=4) (v:=?_) rfl (by kernel_rfl) (by kernel_rfl) (by kernel_rfl) (fun _ _ _ h=>h) (Or.inl ⟨by rfl,?_⟩) (by assumption) ?_
  rotate_left
  ·intro w' hS'
   obtain ⟨s0,s1,s2,s3,s4⟩:=hS'
   go_simp
   try rw [if_pos hq0]
   try with_reducible rfl
  simp only [Act.put,List.setIfInBounds_toArray,List.set_cons_zero,List.set_cons_succ]
  refine wpAnyH_take (i:=5) (v:=?_) rfl (by kernel_rfl) (by kernel_rfl) (by kernel_rfl) (fun _ _ _ h=>h) (Or.inl ⟨by rfl,?_⟩) (by assumption) ?_
  rotate_left
  ·intro w' hS'
   obtain ⟨s0,s1,s2,s3,s4⟩:=hS'
   go_simp
   try rw [if_pos hq0]
   try with_reducible rfl
  simp only [Act.put,List.setIfInBounds_toArray,List.set_cons_zero,List.set_cons_succ]
  refine wpAnyH_take (i:=6) (v:=?_) rfl (by kernel_rfl) (by kernel_rfl) (by kernel_rfl) (fun _ _ _ h=>h) (Or.inl ⟨by rfl,?_⟩) (by assumption) ?_
  rotate_left
  ·intro w' hS'
   obtain ⟨s0,s1,s2,s3,s4⟩:=hS'
   go_simp
   try rw [if_pos hq0]
   try with_reducible rfl
  simp only [Act.put,List.setIfInBounds_toArray,List.set_cons_zero,List.set_cons_succ]
  refine wpAnyH_take (i:=7) (v:=?_) rfl (by kernel_rfl) (by kernel_rfl) (by kernel_rfl) (fun _ _ _ h=>h) (Or.inl ⟨by rfl,?_⟩) (by assumption) ?_
  rotate_left
  ·intro w' hS'
   obtain ⟨s0,s1,s2,s3,s4⟩:=hS'
   go_simp
   try rw [if_pos hq0]
   try with_reducible rfl
  simp only [Act.put,List.setIfInBounds_toArray,List.set_cons_zero,List.set_cons_succ]
  refine wpAnyH_ready (rs:=[8]) (by kernel_rfl) (by simp) ?_
  refine AllReadyH.cons rfl (fun K hK=>?_) AllReadyH.nil
  go_simp
  refine HC.out.mono ?_
  rintro e w3 ⟨hp,hS3⟩
  have hfin:=hp
  obtain ⟨r3,_,⟨v3,y3,_,rfl,hv3⟩ | ⟨c3,_,rfl,_⟩⟩:=hp
  ·obtain ⟨t3,a3,rfl⟩:=hv3.one
   have HFIN:=hide hfin
   clear hfin hv3
   refine hK.out _ _ hS3 (fun _=>?_)
   clear hK hHeld
   refine wpAnyH_ready (rs:=[9]) (by kernel_rfl) (by simp) ?_
   refine AllReadyH.cons rfl (fun K hK=>?_) AllReadyH.nil
   go_simp
   refine hK.out _ _ hS3 (fun _=>?_)
   clear hK
   refine wpAnyH_done (by kernel_rfl) ?_ _
   go_wp2_with fail
   go_ret
   exact HFIN.out
  ·exact ⟨rfl,hfin⟩
end
end Go.Proofs.YtpekpdimdelncaaGreatDoor
