/- Out of: N2. -/
import Derived.Test.YtpekpdimdelncaaGreatDoorP29
set_option linter.unusedVariables false
set_option linter.unusedSimpArgs false
namespace Go.Proofs.YtpekpdimdelncaaGreatDoor
section
set_option maxRecDepth 100000
set_option maxHeartbeats 1000000
open Go.RowKit Go.Shelf
def RFirst (n:Nat):Prop:=∀ (s:ByteArray) (w:World),G w→s.size≤281474976710656→Calls Tryz.prog 86 #[.string s,.int .i64 n] w (RdPost w n (Lard.rdF n s.data.toList))
def itemsQ (n:Nat) (l:List UInt8):Option (Lard.V×List UInt8):=match n with | 0=>none | m + 1=>Lard.rdList (Lard.rdF m) l
def RItems (n:Nat):Prop:=∀ (s:ByteArray) (w:World),G w→s.size≤281474976710656→Calls Tryz.prog 128 #[.string s,.int .i64 n] w (RdPost w n (itemsQ n s.data.toList))
theorem items_zero:RItems 0:=by
 intro s w g hs
 have hfin:RdPost w 0 (itemsQ 0 s.data.toList) (.returned (.tuple #[.nilIface,.string ⟨#[]⟩,.bool false])) w:=⟨Below.refl _ _,.inr ⟨_,_,rfl,rfl,.inl rfl⟩⟩
 generalize RdPost w 0 (itemsQ 0 s.data.toList)=R at hfin ⊢
 go_enter Tryz.func128,Tryz.ntmps128
 go_wp2_with fail
 exact bodyPost_ret (v:=.tuple #[.nilIface,.string ⟨#[]⟩,.bool false]) (by simp [results,Tryz.results128,go_sem]) rfl hfin
theorem first_list (n:Nat) (hi:RItems n) (s:ByteArray) (w:World) (g:G w) (hs:s.size≤281474976710656) (hh:s.data.toList.head? = some 123) :
  Calls Tryz.prog 86 #[.string s,.int .i64 n] w (RdPost w n (Lard.rdF n s.data.toList)):=by
 have hp1:Lib.hasPrefix s.data.toList [39]=false:=by rw [head_prefix,hh]; rfl
 have hp2:Lib.hasPrefix s.data.toList [123]=true:=by rw [head_prefix,hh]; rfl
 have h1:1≤s.size:=by
  rw [Lib.size_eq]
  cases hd:s.data.toList with
  |nil=>rw [hd] at hh; cases hh
  |cons c t=>simp
 have hq:Lard.rdF n s.data.toList=itemsQ n (s.extract 1 s.size).data.toList:=by
  rw [drop_ext]
  unfold Lard.rdF itemsQ
  rw [if_neg (by rw [hh]; intro e; cases e),if_pos hh]
  cases n <;> rfl
 have HI:=hide (hi (s.extract 1 s.size) w g (by rw [size_ext2 s 1 s.size (Nat.le_refl _) h1]; omega))
 rw [hq]
 generalize hR:RdPost w n (itemsQ n (s.extract 1 s.size).data.toList)=R at HI ⊢
 have hforms:∀ e w',R e w'→∃ y,∃ r:ByteArray,∃ b,e=.returned (.tuple #[y,.string r,.bool b]):=fun e w' h=>by
  rw [←hR] at h
  rcases h.2 with ⟨_,y,_,_,r,_,h2,_⟩ | ⟨y,r,_,h2,_⟩
  ·exact ⟨y,r,true,h2⟩
  ·exact ⟨y,r,false,h2⟩
 clear hR hq
 go_enter Tryz.func86,Tryz.ntmps86
 go_wp2_with (first | (go_at_call 126; refine (Tryz.strings_HasPrefix _ _ _).mono ?_; rintro e w' ⟨rfl,hw⟩; obtain rfl:=hw.symm; try rw [hp1]; try rw [hp2]))
 refine HI.out.mono ?_
 intro e w1 hRe
 obtain ⟨y,r,b,rfl⟩:=hforms e w1 hRe
 have HRe:=hide hRe
 clear hRe HI hforms
 go_wp2_with fail
 exact bodyPost_ret (v:=.tuple #[y,.string r,.bool b]) (by simp [results,Tryz.results86,go_sem]) rfl HRe.out
theorem first_any (n:Nat) (hi:RItems n):RFirst n:=by
 intro s w g hs
 by_cases h1:s.data.toList.head? = some 39
 ·exact first_word s n w hs h1
 ·by_cases h2:s.data.toList.head? = some 123
  ·exact first_list n hi s w g hs h2
  ·exact first_num s n w g hs h1 h2
structure Il (w:World) (m:Nat) (fin:Option (Lard.V×List UInt8)) (t:ByteArray) (v:Value) (ys:List Value) (acc:List Lard.V) (wr:World):Prop where
 priv:Priv wr w.heap.size v ys
 vals:Vals wr m acc ys
 len:acc.length≤12
 bel:Below w.heap.size w wr
 rest:Lard.rdItems (Lard.rdF m) (12 - acc.length) t.data.toList acc=fin
 size:t.size≤281474976710656
theorem items_succ (m:Nat) (hm:m≤2) (ih:RFirst m):RItems (m + 1):=by
 intro s w g hs
 have IH:=hide ih
 clear ih
 generalize hR:RdPost w (m + 1) (itemsQ (m + 1) s.data.toList)=R
 have hno:∀ wr,Below w.heap.size w wr→itemsQ (m + 1) s.data.toList=none→R (.returned (.tuple #[.nilIface,.string ⟨#[]⟩,.bool false])) wr:=fun wr hB h=>by
  rw [←hR]
  exact ⟨hB,.inr ⟨_,_,h,rfl,.inl rfl⟩⟩
 by_cases hh:s.data.toList.head? = some 125
 ·have hp:Lib.hasPrefix s.data.toList [125]=true:=by rw [head_prefix,hh]; rfl
  have h1:1≤s.size:=by
   rw [Lib.size_eq]
   cases hd:s.data.toList with
   |nil=>rw [hd] at hh; cases hh
   |cons c t=>simp
  have hq:itemsQ (m + 1) s.data.toList=some (Lard.vl [],(s.extract 1 s.size).data.toList):=by
   rw [drop_ext]
   show Lard.rdList _ _=_
   unfold Lard.rdList
   rw [if_pos hh]
  have hok:∀ (wr:World) (b:Nat),Below w.heap.size w wr→wr.heap[b]? = some (.cells #[] 111 (0,0))→R (.returned (.tuple #[.iface 248 (.slice (some ⟨b,0,none⟩) 0 0),.string (s.extract 1 s.size),.bool true])) wr:=fun wr b hB hb=>by
   rw [←hR]
   exact ⟨hB,.inl ⟨Lard.vl [],_,_,_,_,hq,rfl,rfl,.inr ⟨[],_,[],rfl,rfl,.inr ⟨b,0,#[],(0,0),rfl,Nat.le_refl _,hb,Nat.le_refl _,fun i hi=>by simp at hi⟩,rfl,by simp,fun i u y hu=>by cases hu⟩⟩⟩
  have HOK:=hide hok
  clear hok hR hno hq hh
  go_enter Tryz.func128,Tryz.ntmps128
  go_wp2_with (first | (go_at_call 126; refine (Tryz.strings_HasPrefix _ _ _).mono ?_; rintro e w' ⟨rfl,hw⟩; obtain rfl:=hw.symm; try rw [hp]))
  go_region_with fail
  all_goals
   go_wp2_with fail
   exact bodyPost_ret (v:=.tuple #[.iface 248 (.slice (some ⟨w.heap.size,0,none⟩) 0 0),.string (s.extract 1 s.size),.bool true]) (by simp [results,Tryz.results128,go_sem]) rfl (HOK.out _ _ (((Below.refl _ w).drew).alloc (Nat.le_refl _) _) (heap_alloc_new _ _))
 ·have hp:Lib.hasPrefix s.data.toList [125]=false:=by rw [head_prefix]; exact beq_eq_false_iff_ne.2 hh
  have hq:itemsQ (m + 1) s.data.toList=Lard.rdItems (Lard.rdF m) 12 s.data.toList []:=by
   show Lard.rdList _ _=_
   unfold Lard.rdList
   rw [if_neg hh]
  have HS:Hid (Il w m (itemsQ (m + 1) s.data.toList) s (.slice none 0 0) [] [] w):=hide ⟨.inl ⟨rfl,rfl⟩,⟨rfl,fun i u y hu=>by cases hu⟩,by simp,Below.refl _ _,hq.symm,hs⟩
  have HNO:=hide hno
  have HR:=hide hR
  clear hno hR hq hh
  go_enter Tryz.func128,Tryz.ntmps128
  go_wp2_with (first | (go_at_call 126; refine (Tryz.strings_HasPrefix _ _ _).mono ?_; rintro e w' ⟨rfl,hw⟩; obtain rfl:=hw.symm; try rw [hp]))
  go_loopw [0,7] (fun tx v wr=>∃ (t:ByteArray) (ys:List Value) (acc:List Lard.V),tx=.string t∧Hid (Il w m (itemsQ (m + 1) s.data.toList) t v ys acc wr)) (fun tx v _=>12 - (match v with | .slice _ k _=>k | _=>0))
  case atStart=>exact ⟨s,[],[],rfl,HS⟩
  case round =>
   clear HS
   obtain ⟨t,ys,acc,rfl,IL⟩:=hrel
   have hys:acc.length=ys.length:=IL.out.vals.1
   obtain ⟨oa,ca,rfl⟩:=IL.out.priv.row.len
   by_cases hlt:ys.length < 12
   ·have HC:=hide (IH.out t wr (g.below IL.out.bel g.size) IL.out.size)
    go_wp2_with fail
    refine HC.out.mono ?_
    rintro e w3 ⟨hB3,⟨vv,y,ty,ay,r,hq3,rfl,rfl,hv⟩ | ⟨y,r,hq3,rfl,hy⟩⟩
    ·have hBw3:=IL.out.bel.trans (hB3.mono IL.out.bel.size)
     obtain ⟨k,hk⟩:∃ k,12 - acc.length=k + 1:=⟨11 - acc.length,by omega⟩
     by_cases hr:r.data.toList=[]
     ·have hnone:itemsQ (m + 1) s.data.toList=none:=by
       have h:=IL.out.rest
       rw [hk] at h
       unfold Lard.rdItems at h
       rw [hq3,hr] at h
       exact h.symm
      have hr0:r=⟨#[]⟩:=by rw [←Lib.mk_data r,hr]
      subst hr0
      have HNN:=hide (HNO.out w3 hBw3 hnone)
      clear HNO IL HC IH hv
      go_wp2_with fail
      exact bodyPost_ret (v:=.tuple #[.nilIface,.string ⟨#[]⟩,.bool false]) (by simp [results,Tryz.results128,go_sem]) rfl HNN.out
     ·obtain ⟨c,r',hrc⟩:∃ c r',r.data.toList=c :: r':=by
       cases hd:r.data.toList with
       |nil=>exact (hr hd).elim
       |cons c r'=>exact ⟨c,r',rfl⟩
      have hrz:1≤r.size:=by rw [Lib.size_eq,hrc]; simp
      have hemp:(r.toList == [])=false:=by rw [Lib.toList_data,hrc]; rfl
      have hemp2:r.toList.isEmpty=false:=by rw [Lib.toList_data,hrc]; rfl
      have hidx:r.data.toList[0]? = some c:=by rw [hrc]; rfl
      have hB4:Below w3.heap.size w3 (w3.alloc (Obj.cells #[.iface ty ay] 111)):=(Below.refl _ w3).alloc (Nat.le_refl _) _
      have HP4:=hide ((IL.out.priv.same (Keeps.below hB3)).same (Keeps.below hB4))
      have HV4:=hide ((IL.out.vals.keeps (Keeps.below hB3)).keeps (Keeps.below hB4))
      have HY4:=hide (hv.keeps (Keeps.below hB4))
      have hBw4:=hBw3.trans (hB4.mono hBw3.size)
      have hc4:(w3.alloc (Obj.cells #[.iface ty ay] 111)).cell? ((⟨w3.heap.size,0,none⟩:Addr).add 0)=some (.iface ty ay):=cell_one_new _ _ _ 0 _ rfl
      have hsz4:w.heap.size≤(w3.alloc (Obj.cells #[.iface ty ay] 111)).heap.size:=hBw4.size
      have HREST:=hide IL.out.rest
      have hlenz:acc.length≤11:=by omega
      have HSZ:=hide IL.out.size
      have hR3:itemsQ (m + 1) s.data.toList=if c=125 then some (Lard.vl (acc++[vv]),r') else if c=44 then Lard.rdItems (Lard.rdF m) k r' (acc++[vv]) else none:=by
       have h:=HREST.out
       rw [hk] at h
       unfold Lard.rdItems at h
       rw [hq3,hrc] at h
       exact h.symm
      have hc0:∀ h:0 < r.size,(r[0]'h)=c:=fun h=>by
       have h1:r.data.toList[0]? = some (r[0]'h):=by
        rw [List.getElem?_eq_getElem (by rw [←Lib.size_eq]; exact h)]
        rfl
       rw [hidx] at h1
       exact (Option.some.inj h1).symm
      have hrl:(r.extract 1 r.size).data.toList=r':=by rw [drop_ext,hrc]; rfl
      have hrsz:(r.extract 1 r.size).size≤281474976710656:=by
       have h6:=Lard.rdF_some m _ _ _ hq3
       have h7:=congrArg List.length h6.2
       rw [List.length_append] at h7
       have h8:=HSZ.out
       rw [Lib.size_eq] at h8
       have h9:=size_ext2 r 1 r.size (Nat.le_refl _) hrz
       have h10:=Lib.size_eq r
       omega
      have HAF:Hid (∀ (w5:World) (v':Value),Priv w5 w.heap.size v' (ys++[.iface ty ay])→(w3.alloc (Obj.cells #[.iface ty ay] 111)).grownBy w5 (Value.slice oa ys.length ca).ownBlock→(∀ n u x,IsVal (w3.alloc (Obj.cells #[.iface ty ay] 111)) n u x→IsVal w5 n u x)→Below w.heap.size w w5∧Vals w5 m (acc++[vv]) (ys++[.iface ty ay])):=hide (fun w5 v' q2 q3 q5=>⟨hBw4.grown q3 hsz4 (fun b hb=>(HP4.out.lt hb).2),by
       refine ⟨by simp [hys],fun i u y hu hy=>?_⟩
       rcases Nat.lt_or_ge i acc.length with hi | hi
       ·rw [List.getElem?_append_left hi] at hu
        rw [List.getElem?_append_left (by omega)] at hy
        exact q5 _ _ _ (HV4.out.2 i u y hu hy)
       ·rw [List.getElem?_append_right hi] at hu
        rw [List.getElem?_append_right (by omega)] at hy
        have hi0:i - acc.length=0:=by
         have:=(List.getElem?_eq_some_iff.1 hu).1
         simp at this
         omega
        rw [hi0] at hu
        rw [←hys,hi0] at hy
        simp at hu hy
        subst hu hy
        exact q5 _ _ _ HY4.out⟩)
      clear HC IH IL hv hB3 hB4
      go_wp2_with (at_builtin; refine wpList_priv rfl _ _ 248 Tryz.underlying248 rfl w.heap.size _ ys rfl HP4.out ⟨w3.heap.size,0,none⟩ _ (.iface ty ay) rfl hc4 rfl (by omega) hsz4 ?_; intro v' w5 h2 h3 h4 h5; obtain ⟨o5,c5,rfl⟩:=h2.row.len)
      ·rename_i hlt0 hcc
       obtain ⟨hB5,hV5⟩:=HAF.out w5 _ h2 h3 h5
       have hc125:c=125:=by
        have h7:(c.toNat:Int)=125:=by simpa using hcc
        have:c.toNat=125:=by omega
        exact UInt8.toNat_inj.1 this
       rw [if_pos hc125] at hR3
       rw [List.length_append] at h2
       have HOK:Hid (R (.returned (.tuple #[.iface 248 (.slice o5 (ys.length + 1) c5),.string (r.extract 1 r.size),.bool true])) w5):=hide (by
        rw [←HR.out]
        exact ⟨hB5,.inl ⟨Lard.vl (acc++[vv]),_,_,_,_,by rw [hR3,hrl],rfl,rfl,.inr ⟨acc++[vv],_,ys++[.iface ty ay],rfl,rfl,h2.row,by simp [hys],by simp; omega,hV5.2⟩⟩⟩)
       exact bodyPost_ret (v:=.tuple #[.iface 248 (.slice o5 (ys.length + 1) c5),.string (r.extract 1 r.size),.bool true]) (by simp [results,Tryz.results128,go_sem]) rfl HOK.out
      ·rename_i hlt0 hcc1 hcc
       obtain ⟨hB5,hV5⟩:=HAF.out w5 _ h2 h3 h5
       have hc44:c=44:=by
        have h7:(c.toNat:Int)=44:=by simpa using hcc
        have:c.toNat=44:=by omega
        exact UInt8.toNat_inj.1 this
       rw [if_neg (by rw [hc44]; decide),if_pos hc44] at hR3
       rw [List.length_append] at h2
       refine ⟨⟨_,ys++[.iface ty ay],acc++[vv],rfl,hide ⟨h2,hV5,by simp; omega,hB5,?_,hrsz⟩⟩,?_⟩
       ·rw [hrl,hR3]
        congr 1
        simp
        omega
       ·show 12 - (ys.length + 1) < 12 - ys.length
        omega
      ·rename_i hlt0 hcc1 hcc2
       obtain ⟨hB5,hV5⟩:=HAF.out w5 _ h2 h3 h5
       have hn125:c≠125:=fun e=>by
        rw [e] at hcc1
        exact absurd hcc1 (by decide)
       have hn44:c≠44:=fun e=>by
        rw [e] at hcc2
        exact absurd hcc2 (by decide)
       rw [if_neg hn125,if_neg hn44] at hR3
       exact bodyPost_ret (v:=.tuple #[.nilIface,.string ⟨#[]⟩,.bool false]) (by simp [results,Tryz.results128,go_sem]) rfl (HNO.out w5 hB5 hR3)
    ·have hnone:itemsQ (m + 1) s.data.toList=none:=by
      have h:=IL.out.rest
      obtain ⟨k,hk⟩:∃ k,12 - acc.length=k + 1:=⟨11 - acc.length,by omega⟩
      rw [hk] at h
      unfold Lard.rdItems at h
      rw [hq3] at h
      exact h.symm
     have HNN:=hide (HNO.out w3 (IL.out.bel.trans (hB3.mono IL.out.bel.size)) hnone)
     clear HNO IL HC IH
     go_wp2_with fail
     exact bodyPost_ret (v:=.tuple #[.nilIface,.string ⟨#[]⟩,.bool false]) (by simp [results,Tryz.results128,go_sem]) rfl HNN.out
   ·have hnone:itemsQ (m + 1) s.data.toList=none:=by
     have h:=IL.out.rest
     rw [show 12 - acc.length=0 by omega] at h
     exact h.symm
    have HNN:=hide (HNO.out wr IL.out.bel hnone)
    clear HNO IL IH
    go_wp2_with fail
    exact bodyPost_ret (v:=.tuple #[.nilIface,.string ⟨#[]⟩,.bool false]) (by simp [results,Tryz.results128,go_sem]) rfl HNN.out
theorem first_all:∀ n,n≤3→RFirst n
 |0,_=>first_any 0 items_zero
 |n + 1,h=>first_any (n + 1) (items_succ n (by omega) (first_all n (by omega)))
theorem read_any (s:ByteArray) (w:World) (g:G w) (hs:s.size≤281474976710656) :
  Calls Tryz.prog 52 #[.string s] w fun e w'=>Below w.heap.size w w'∧((∃ v t a,Lard.rdV s.data.toList=some v∧e=.returned (.tuple #[.iface t a,.bool true])∧IsVal w' 3 v (.iface t a))∨(Lard.rdV s.data.toList=none∧e=.returned (.tuple #[.nilIface,.bool false]))):=by
 have HF:=hide (first_all 3 (Nat.le_refl _) s w g hs)
 generalize hR:(fun (e:Ending) (w':World)=>Below w.heap.size w w'∧((∃ v t a,Lard.rdV s.data.toList=some v∧e=.returned (.tuple #[.iface t a,.bool true])∧IsVal w' 3 v (.iface t a))∨(Lard.rdV s.data.toList=none∧e=.returned (.tuple #[.nilIface,.bool false]))))=R
 have hno:∀ w',Below w.heap.size w w'→Lard.rdV s.data.toList=none→R (.returned (.tuple #[.nilIface,.bool false])) w':=fun w' hB h=>by
  rw [←hR]
  exact ⟨hB,.inr ⟨h,rfl⟩⟩
 have hok:∀ w' v t a,Below w.heap.size w w'→Lard.rdV s.data.toList=some v→IsVal w' 3 v (.iface t a)→R (.returned (.tuple #[.iface t a,.bool true])) w':=fun w' v t a hB h hv=>by
  rw [←hR]
  exact ⟨hB,.inl ⟨v,t,a,h,rfl,hv⟩⟩
 have HNO:=hide hno
 have HOK:=hide hok
 clear hno hok hR
 go_enter Tryz.func52,Tryz.ntmps52
 go_wp2_with fail
 refine HF.out.mono ?_
 rintro e w3 ⟨hB3,⟨v,y,ty,ay,r,hq3,rfl,rfl,hv⟩ | ⟨y,r,hq3,rfl,hy⟩⟩
 ·cases hd:r.data.toList with
  |nil =>
   have hr0:r=⟨#[]⟩:=by rw [←Lib.mk_data r,hd]
   subst hr0
   have HK:=hide (HOK.out w3 v ty ay hB3 (by unfold Lard.rdV; rw [hq3]) hv)
   clear HOK HNO HF hv
   go_wp2_with fail
   exact HK.out
  |cons c r' =>
   have hemp:(r.toList == [])=false:=by rw [Lib.toList_data,hd]; rfl
   have hemp2:r.toList.isEmpty=false:=by rw [Lib.toList_data,hd]; rfl
   have HK:=hide (HNO.out w3 hB3 (by unfold Lard.rdV; rw [hq3,hd]))
   clear HOK HNO HF hv hd
   go_wp2_with fail
   exact HK.out
 ·have HK:=hide (HNO.out w3 hB3 (by unfold Lard.rdV; rw [hq3]))
  clear HOK HNO HF
  go_wp2_with fail
  exact HK.out
end
end Go.Proofs.YtpekpdimdelncaaGreatDoor
