/- Out of: X11, X12. -/
import Derived.Test.YtpekpdimdelncaaGreatDoorP31
import Derived.Test.YtpekpdimdelncaaGreatDoorP09
import Derived.Deep.AppendLies
import Derived.Lib.AppendZeros
set_option linter.unusedSimpArgs false
set_option linter.unusedVariables false
namespace Go.Proofs.YtpekpdimdelncaaGreatDoor
section
set_option maxRecDepth 100000
set_option maxHeartbeats 1000000
open Go.RowKit
def PrivP (w:World) (base:Nat) (v:Value) (ys:List Value):Prop :=
 (v=.slice none 0 0∧ys=[]) ∨
 ∃ (g cap:Nat) (cur:Array Value),v=.slice (some ⟨g,0,none⟩) ys.length cap∧base≤g∧w.heap[g]? = some (.cells cur 121 (0,0))∧ys.length≤cap∧cap≤maxLen∧cur.size=cap∧cur.toList=ys++List.replicate (cap - ys.length) (.pointer none)
theorem PrivP.own {w:World} {base:Nat} {v:Value} {ys:List Value} (h:PrivP w base v ys):w.ownsRow base 121 1 v ys.length ys:=by
 rcases h with ⟨rfl,rfl⟩ | ⟨g,cap,cur,h1,h2,h3,h4,h5,h6,h7⟩
 ·exact ⟨rfl,.inl ⟨rfl,rfl⟩⟩
 ·exact ⟨by simp,.inr ⟨g,cap,cur,h1,h2,h3,h4,h5,by omega,by rw [h7,Nat.mul_one,List.take_left]⟩⟩
theorem PrivP.same {w w':World} {base:Nat} {v:Value} {ys:List Value} (h:PrivP w base v ys) (hk:Keeps w w'):PrivP w' base v ys:=by
 rcases h with h | ⟨g,cap,cur,h1,h2,h3,h4⟩
 ·exact .inl h
 ·exact .inr ⟨g,cap,cur,h1,h2,hk _ _ _ _ h3 (.inr (.inr rfl)),h4⟩
theorem PrivP.lt {w:World} {base g:Nat} {v:Value} {ys:List Value} (h:PrivP w base v ys) (hg:v.ownBlock=some g):g < w.heap.size∧base≤g:=by
 rcases h with ⟨rfl,_⟩ | ⟨g',cap,cur,rfl,h2,h3,_⟩
 ·cases hg
 ·cases hg; exact ⟨lt_of_some h3,h2⟩
theorem privP_append {w:World} (t ty:TypeId) (ht:Tryz.prog.underlying t=some (.slice 121)) (base:Nat) (v:Value) (ys:List Value) (h:PrivP w base v ys) (ad:Addr) (c:Nat) (y:Value) (hy:w.cell? (ad.add 0)=some y) (h1:y.oneCell'=true) (hn:ys.length≤1000) (hbase:base≤w.heap.size) :
  ∃ v' w',(Builtin.append_ #[t,t] ty #[v,.slice (some ad) 1 c]).run Tryz.prog w=.ok v' w'∧PrivP w' base v' (ys++[y])∧w.grownBy w' v.ownBlock∧(v'.ownBlock=v.ownBlock∨v'.ownBlock=some w.heap.size):=by
 obtain ⟨i0,hi0,hz0,hz1,hz2⟩:=info_parts nodeInfo
 have hnews:∀ j u,[y][j]? = some u→w.cell? (ad.add j)=some u:=fun j u hj=>by
  cases j with
  |zero=>cases hj; exact hy
  |succ j=>simp at hj
 have hone:∀ u∈[y],u.oneCell'=true:=fun u hu=>by rw [List.mem_singleton] at hu; subst hu; exact h1
 have hzc:∀ k,(Builtin.zeroCells (Value.pointer none).cells k).toList=List.replicate k (.pointer none):=fun k=>by
  apply List.ext_getElem?
  intro j
  by_cases hj:j < k
  ·simp [Builtin.zeroCells,Value.cells,hj,Nat.mod_one]
  ·simp [Builtin.zeroCells,Value.cells,hj]
 have newrow:∀ old,PrivP (w.drew.alloc (.cells (ys.toArray++[y].toArray++Builtin.zeroCells (Value.pointer none).cells (grownCap w (ys.length + 1) old 121 - (ys.length + 1))) 121)) base (.slice (some ⟨w.heap.size,0,none⟩) (ys.length + 1) (grownCap w (ys.length + 1) old 121)) (ys++[y]):=fun old=>by
  have hge:=grownCap_ge w (ys.length + 1) old 121
  have hle:=grownCap_le_maxLen w (ys.length + 1) old 121 (by unfold maxLen; omega)
  generalize grownCap w (ys.length + 1) old 121=cp at hge hle
  refine .inr ⟨w.heap.size,cp,_,by simp,hbase,heap_alloc_new w.drew _,by simpa using hge,hle,?_,?_⟩
  ·simp [size_zeroCells,Value.cells]; omega
  ·simp [hzc]
 have newfr:∀ o row,w.grownBy (w.drew.alloc o) row:=fun o row=>⟨rfl,rfl,rfl,by simp,fun k hk _=>heap_alloc_old w.drew _ hk⟩
 rcases h with ⟨rfl,rfl⟩ | ⟨g,cap,cur,rfl,hbg,hg,hnc,hcm,hcs,hcur⟩
 ·have hr:=run_append_nil (P:=Tryz.prog) w t ty 121 i0 (.pointer none) ht hi0 hz0 ad 1 c [y] (by rw [hz1]; rfl) hnews (by omega) (by omega) (by rw [hz2]; omega)
  have hp:=newrow 0
  simp only [List.length_nil,Nat.zero_add,List.nil_append] at hp ⊢
  refine ⟨_,_,hr,?_,newfr _ _,.inr rfl⟩
  simpa using hp
 ·by_cases hroom:ys.length + 1≤cap
  ·have hr:=run_append_room (P:=Tryz.prog) w t ty 121 i0 ht hi0 g ys.length cap cur hg ad 1 c [y] (by rw [hz1]; rfl) hnews hone hroom (by rw [hz1]; simp; omega)
   rw [hz1,Nat.mul_one] at hr
   have htake:cur.toList.take ys.length=ys:=by rw [hcur,List.take_left]
   have hdrop:cur.toList.drop (ys.length + [y].length)=List.replicate (cap - (ys.length + 1)) (.pointer none):=by
    rw [hcur,List.drop_append]
    simp [List.drop_eq_nil_of_le]
    omega
   rw [htake,hdrop] at hr
   have hset:=setRow_heap w g cur (ys++[y]++List.replicate (cap - (ys.length + 1)) (Value.pointer none)).toArray 121 (0,0) hg
   have hgr:w.grownBy (w.setRow g (ys++[y]++List.replicate (cap - (ys.length + 1)) (Value.pointer none)).toArray) (some g):=⟨rfl,rfl,rfl,by simp,fun k _ hk=>setRow_other w g k _ (fun e=>hk (by rw [e]))⟩
   refine ⟨_,_,hr,.inr ⟨g,cap,_,by simp,hbg,hset,by simp; omega,hcm,by simp; omega,by simp⟩,hgr,.inl rfl⟩
  ·have holds:∀ j u,ys[j]? = some u→w.cell? ((⟨g,0,none⟩:Addr).add j)=some u:=(PrivP.own (.inr ⟨g,cap,cur,rfl,hbg,hg,hnc,hcm,hcs,hcur⟩)).cells (g:=g) rfl
   have hr:=run_append_grow (P:=Tryz.prog) w t ty 121 i0 (.pointer none) ht hi0 hz0 ⟨g,0,none⟩ ys.length cap ys (by rw [hz1,Nat.mul_one]) holds ad 1 c [y] (by rw [hz1]; rfl) hnews (by omega) (by omega) (growslice_fits (by omega) (by rw [hz2]; omega))
   exact ⟨_,_,hr,newrow cap,newfr _ _,.inr rfl⟩
theorem wpList_privP {w:World} {ops:Array Oper} {rest:List Oper} {o:Oper} {a:Act} {Q:Exit→Act→World→Prop} (hgd:o.guard=none) (s x:Operand) (t:TypeId) (ht:Tryz.prog.underlying t=some (.slice 121))
  (ho:o.op=.call { callee:=.builtin .append,args:=#[s,x],argTypes:=#[t,t] }) (base:Nat) (v:Value) (ys:List Value) (hs:a.eval s=v) (h:PrivP w base v ys) (ad:Addr) (c:Nat) (y:Value) (hx:a.eval x=.slice (some ad) 1 c) (hy:w.cell? (ad.add 0)=some y) (h1:y.oneCell'=true) (hn:ys.length≤1000) (hbase:base≤w.heap.size)
  (hK:∀ v' w',PrivP w' base v' (ys++[y])→w.grownBy w' v.ownBlock→(v'.ownBlock=v.ownBlock∨v'.ownBlock=some w.heap.size)→wpList Tryz.prog ops Q rest (a.put o.dst v') w'):wpList Tryz.prog ops Q (o :: rest) a w:=by
 obtain ⟨v',w',hr,h2,h3,h4⟩:=privP_append t o.type ht base v ys h ad c y hy h1 hn hbase
 exact Lib.wpList_append_run w hgd s x t t ho v _ hs hx v' w' hr (hK v' w' h2 h3 h4)
theorem privP_one (w:World) (B:Nat) (q:Addr) (hB:B≤w.heap.size):PrivP (w.alloc (.cells #[.pointer (some q)] 121)) B (.slice (some ⟨w.heap.size,0,none⟩) 1 1) [.pointer (some q)] :=
 .inr ⟨w.heap.size,1,#[.pointer (some q)],rfl,hB,heap_alloc_new w _,Nat.le_refl _,by unfold maxLen; omega,rfl,rfl⟩
def TL (lo:Nat) (row:Option Nat) (w:World) (ts:List Lard.T) (xs:List Value):Prop :=
 ts.length=xs.length∧∀ (j:Nat) u x,ts[j]? = some u→xs[j]? = some x→∃ q,x=.pointer (some q)∧TF lo row w u q
theorem TL.move {lo:Nat} {row row':Option Nat} {w w':World} {ts:List Lard.T} {xs:List Value} (h:TL lo row w ts xs) (hk:KO lo row w w') (hr:∀ k,row'=some k→row=some k∨w.heap.size≤k):TL lo row' w' ts xs :=
 ⟨h.1,fun j u x hu hx=>by obtain ⟨q,h1,h2⟩:=h.2 j u x hu hx; exact ⟨q,h1,h2.move hk hr⟩⟩
theorem TL.one {lo:Nat} {row:Option Nat} {w:World} {t:Lard.T} {q:Addr} (h:TF lo row w t q):TL lo row w [t] [.pointer (some q)] :=
 ⟨rfl,fun j u x hu hx=>by
  match j with
  |0=>cases hu; cases hx; exact ⟨q,rfl,h⟩
  |j + 1=>simp at hu⟩
theorem TL.append {lo:Nat} {row:Option Nat} {w:World} {ts us:List Lard.T} {xs ys:List Value} (h:TL lo row w ts xs) (h':TL lo row w us ys):TL lo row w (ts++us) (xs++ys):=by
 refine ⟨by simp [h.1,h'.1],fun j u x hu hx=>?_⟩
 by_cases hj:j < ts.length
 ·rw [List.getElem?_append_left hj] at hu
  rw [List.getElem?_append_left (by have:=h.1; omega)] at hx
  exact h.2 j u x hu hx
 ·rw [List.getElem?_append_right (by omega)] at hu
  rw [List.getElem?_append_right (by have:=h.1; omega),←h.1] at hx
  exact h'.2 _ u x hu hx
theorem TL.slice {lo:Nat} {w:World} {ts:List Lard.T} {xs:List Value} {v:Value} (h:TL lo v.ownBlock w ts xs) (hp:PrivP w lo v xs):TFs lo none w ts v:=by
 rcases hp with ⟨rfl,rfl⟩ | ⟨g,cap,cur,rfl,h2,h3,h4,h5,h6,h7⟩
 ·have:=h.1
  have e:ts=[]:=List.length_eq_zero_iff.1 (by simpa using this)
  subst e
  exact TFs.nil _ _ _
 ·refine TFs.mk (fz:=(0,0)) h3 h2 (fun e=>by cases e) h.1 h4 (by omega) (fun i hi=>?_) (fun j u x hu hx=>?_)
  ·rw [←Array.getElem?_toList,h7,List.getElem?_append_left hi]
  ·obtain ⟨q,h8,h9⟩:=h.2 j u x hu hx
   exact ⟨q,h8,h9.drop⟩
def PostTS (s:ByteArray) (pb deep its:Nat) (w:World) (r:Lard.RT) (e:Ending) (w':World):Prop :=
 w.grownBy w' (some pb)∧(∀ j ts,r=.ok (j,ts)→(∃ a n c,e=.returned (.slice a n c)∧TFs w.heap.size none w' ts (.slice a n c))∧PAt w' s pb j deep its)∧(∀ x,r=.error x→e=refusal x.1 x.2)
theorem PostTS.ok {s:ByteArray} {pb deep its j:Nat} {ts:List Lard.T} {w w':World} {e:Ending} (h:PostTS s pb deep its w (.ok (j,ts)) e w'):w.grownBy w' (some pb)∧(∃ a n c,e=.returned (.slice a n c)∧TFs w.heap.size none w' ts (.slice a n c))∧PAt w' s pb j deep its :=
 ⟨h.1,h.2.1 j ts rfl⟩
theorem PostTS.err {s:ByteArray} {pb deep its:Nat} {w w':World} {e:Ending} {x:Nat×Nat} (h:PostTS s pb deep its w (.error x) e w'):w.grownBy w' (some pb)∧e=refusal x.1 x.2 :=
 ⟨h.1,h.2.2 x rfl⟩
theorem PostTS.mkOk {s:ByteArray} {pb deep its j:Nat} {ts:List Lard.T} {w w':World} {a:Option Addr} {n c:Nat} (h:w.grownBy w' (some pb)) (hp:PAt w' s pb j deep its) (ht:TFs w.heap.size none w' ts (.slice a n c)):PostTS s pb deep its w (.ok (j,ts)) (.returned (.slice a n c)) w' :=
 ⟨h,fun k us hk=>(by cases hk; exact ⟨⟨a,n,c,rfl,ht⟩,hp⟩),fun x hx=>(by cases hx)⟩
theorem PostTS.mkErr {s:ByteArray} {pb deep its:Nat} {w w':World} {x:Nat×Nat} (h:w.grownBy w' (some pb)):PostTS s pb deep its w (.error x) (refusal x.1 x.2) w' :=
 ⟨h,fun k ts hk=>(by cases hk),fun y hy=>(by cases hy; rfl)⟩
theorem TFs.lay {lo:Nat} {w:World} {ts:List Lard.T} {xs:List Value} (n:Nat) (hn:xs.length=n) (h:TL lo none w ts xs) (hlo:lo≤w.heap.size):TFs lo none (w.alloc (.cells xs.toArray 121)) ts (.slice (some ⟨w.heap.size,0,none⟩) n n):=by
 subst hn
 have h':=h.move (row':=none) (KO.keeps (keeps_alloc w (.cells xs.toArray 121))) (fun k e=>by cases e)
 exact TFs.mk (fz:=(0,0)) (heap_alloc_new w _) hlo (fun e=>by cases e) h.1 (Nat.le_refl _) (by simp) (fun i hi=>by simp) h'.2
theorem itemsT_any (s:ByteArray) (pb n deep its i:Nat) (hs:s.size≤200) (hpb:8≤pb) (hi:i≤s.size) (hd:deep≤20) (hits:its≤deep) (hfuel:8 * (s.size - i) + 4≤n)
  (H:∀ m,m≤n→CTT s pb m 0 89) (w:World) (g:G w) (h:PAt w s pb i deep its) :
  Calls Tryz.prog 295 #[.pointer (some ⟨pb,0,none⟩)] w (PostTS s pb deep its w (if Lard.tx s.data.toList i=[125] then .ok (Lard.nxt s.data.toList i,[]) else Lard.thenT (Lard.PT s.data.toList n 0 deep its i []) fun j ts=>Lard.PT s.data.toList n 6 deep its j ts)):=by
 by_cases hb:Lard.tx s.data.toList i=[125]
 ·rw [if_pos hb]
  have hb':(Lard.tx s.data.toList i == [125])=true:=by rw [hb]; rfl
  clear hb H
  go_enter Tryz.func295,Tryz.ntmps295
  go_wp2_with (go_at_call 313; refine (sees_any s pb i deep its _ _ h).mono ?_; rintro e w' ⟨rfl,rfl⟩)
  refine (take_any s pb i deep its _ g h (by omega) hi).mono ?_
  rintro e w1 ⟨rfl,h1,f1⟩
  unfold tokV
  go_wp2_with fail
  go_ret
  exact PostTS.mkOk f1 h1 (TFs.nil _ _ _)
 ·rw [if_neg hb]
  have hb':(Lard.tx s.data.toList i == [125])=false:=by rw [beq_eq_false_iff_ne]; exact hb
  have h1:=H n (Nat.le_refl _) deep its i hi hd hits hfuel
  have hpr:=Lard.P_prog s.data.toList n 0 deep its i
  clear hb
  rcases hx:Lard.PT s.data.toList n 0 deep its i [] with x | ⟨j,ts⟩
  ·rw [hx] at h1
   show Calls _ _ _ _ (PostTS s pb deep its w (.error x))
   have H1:=hide h1
   clear hx H h1 hfuel hpr
   go_enter Tryz.func295,Tryz.ntmps295
   go_wp2_with (go_at_call 313; refine (sees_any s pb i deep its _ _ h).mono ?_; rintro e w' ⟨rfl,rfl⟩)
   refine (H1.out _ g h).mono ?_
   rintro e w1 hp
   obtain ⟨f1,rfl⟩:=PostT.err hp
   exact ⟨rfl,PostTS.mkErr f1⟩
  ·rw [hx] at h1
   have hj:=hpr j (PT_prog hx) (by simpa using hi)
   have hj2:j≤s.size:=by simpa using hj.2
   have hj1:i + 1≤j:=by simpa using hj.1
   have H1:=hide h1
   have HH:=hide H
   have hfu:8 * (s.size - j) + 1≤n:=by omega
   show Calls _ _ _ _ (PostTS s pb deep its w (Lard.PT s.data.toList n 6 deep its j ts))
   generalize hfin:Lard.PT s.data.toList n 6 deep its j ts=fin
   have HF:=hide hfin
   have hlt:=h.lt
   clear hx H h1 hpr hj hfin
   go_enter Tryz.func295,Tryz.ntmps295
   go_wp2_with (go_at_call 313; refine (sees_any s pb i deep its _ _ h).mono ?_; rintro e w' ⟨rfl,rfl⟩)
   refine (H1.out _ g h).mono ?_
   rintro e w1 hp
   obtain ⟨f1,⟨q1,t1,rfl,rfl,ht1⟩,h1⟩:=PostT.ok hp
   have HT1:=hide ht1
   clear hp H1 ht1
   go_wp2_with fail
   have hB:w.heap.size≤w1.heap.size:=f1.size
   go_loopw [3] (fun v wr=>∃ (xs:List Value) (ts:List Lard.T) (k m:Nat),Hid (PrivP wr w.heap.size v xs)∧Hid (TL w.heap.size v.ownBlock wr ts xs)∧PAt wr s pb k deep its∧w.grownBy wr (some pb)∧k≤s.size∧8 * (s.size - k) + 1≤m∧m≤n∧xs.length≤k∧Hid (Lard.PT s.data.toList m 6 deep its k ts=fin)) (fun _ wr=>s.size - atOf wr pb)
   case atStart=>exact ⟨_,_,j,n,hide (privP_one w1 w.heap.size q1 hB),hide (TL.one (HT1.out.move (KO.keeps (keeps_alloc _ _)) (fun k e=>by cases e; exact .inr (Nat.le_refl _)))),h1.alloc _,Fr.alloc f1 _,hj2,hfu,Nat.le_refl _,by simp; omega,HF⟩
   case round =>
    clear HF h1 f1 hj2 hfu hB HT1
    obtain ⟨xs,us,k,m,PV,TV,hk,fk,hks,hm,hmn,hcnt,HM⟩:=hrel
    obtain ⟨m,rfl⟩:∃ m',m=m' + 1:=⟨m - 1,by omega⟩
    have HAT:=hide (atOf_eq hk)
    have hM:=HM.out
    have hT:Lard.PT s.data.toList (m + 1) 6 deep its k us=if Lard.tx s.data.toList k=[44] then Lard.thenT (Lard.PT s.data.toList m 0 deep its (Lard.nxt s.data.toList k) []) fun j vs=>Lard.PT s.data.toList m 6 deep its j (us++vs) else Lard.expT s.data.toList [125] k us:=rfl
    rw [hT] at hM
    by_cases ho:Lard.tx s.data.toList k=[44]
    ·rw [if_pos ho] at hM
     have ho':(Lard.tx s.data.toList k == [44])=true:=by rw [ho]; rfl
     have hn1:=Lard.nxt_gt (Lard.tx_pos (l:=s.data.toList) (i:=k) (by rw [ho]; simp))
     have hn2:Lard.nxt s.data.toList k≤s.size:=by have:=Lard.nxt_le s.data.toList k (by simpa using hks); simpa using this
     have h2:=HH.out m (by omega) deep its (Lard.nxt s.data.toList k) hn2 hd hits (by simp [Lard.nd]; omega)
     have hpr:=Lard.P_prog s.data.toList m 0 deep its (Lard.nxt s.data.toList k)
     rcases hx:Lard.PT s.data.toList m 0 deep its (Lard.nxt s.data.toList k) [] with x | ⟨k2,vs⟩
     ·rw [hx] at h2 hM
      have hM':fin=.error x:=hM.symm
      subst hM'
      have H2:=hide h2
      clear hx h2 hpr hM HM HH hT ho
      go_wp2_with (go_at_call 313; refine (sees_any s pb k deep its _ _ hk).mono ?_; rintro e w' ⟨rfl,rfl⟩)
      refine (take_any s pb k deep its _ (g.fr fk hpb) hk (by omega) hks).mono ?_
      rintro e w2 ⟨rfl,hk2,f2⟩
      unfold tokV
      go_wp2_with fail
      refine (H2.out _ ((g.fr fk hpb).fr f2 hpb) hk2).mono ?_
      rintro e w3 hp
      obtain ⟨f3,rfl⟩:=PostT.err hp
      exact ⟨rfl,PostTS.mkErr (Fr.trans (Fr.trans fk f2) f3)⟩
     ·have hj:=hpr k2 (PT_prog hx) (by simpa using hn2)
      have hk2s:k2≤s.size:=by simpa using hj.2
      have hk2l:Lard.nxt s.data.toList k + 1≤k2:=by simpa using hj.1
      rw [hx] at h2 hM
      have H2:=hide h2
      have hM2:Lard.PT s.data.toList m 6 deep its k2 (us++vs)=fin:=hM
      have HM2:=hide hM2
      clear hx h2 hpr hM HM HH hT ho hj hM2
      go_wp2_with (go_at_call 313; refine (sees_any s pb k deep its _ _ hk).mono ?_; rintro e w' ⟨rfl,rfl⟩)
      refine (take_any s pb k deep its _ (g.fr fk hpb) hk (by omega) hks).mono ?_
      rintro e w2 ⟨rfl,hk2,f2⟩
      unfold tokV
      go_wp2_with fail
      refine (H2.out _ ((g.fr fk hpb).fr f2 hpb) hk2).mono ?_
      rintro e w3 hp
      obtain ⟨f3,⟨q3,t3,rfl,rfl,ht3⟩,h3⟩:=PostT.ok hp
      have f23:=Fr.trans f2 f3
      have hsz3:w.heap.size≤w3.heap.size:=Nat.le_trans fk.size f23.size
      have kp3:=(hk.kp f23).trans (keeps_alloc w3 (.cells #[.pointer (some q3)] 121))
      have hp3:=hide (PV.out.same kp3)
      have htl:=hide ((TV.out.move (row':=u3.ownBlock) (KO.keeps kp3) (fun k e=>.inl e)).append (TL.one ((((ht3.row (row:=u3.ownBlock) (fun k e=>by have:=(PV.out.lt e).1; have:=f2.size; omega)).mono (lo':=w.heap.size) (by have:=fk.size; have:=f2.size; omega))).keeps (keeps_alloc _ _))))
      clear hp H2 ht3 kp3
      go_wp2_with (at_builtin; go_must (refine wpList_privP rfl _ _ 261 Tryz.underlying261 rfl w.heap.size _ _ rfl hp3.out ⟨w3.heap.size,0,none⟩ 1 (.pointer (some q3)) rfl (cell_one_new _ _ _ 0 _ rfl) rfl (by omega) (by simp; omega) ?_); intro v' w4 hown4 hg4 hrow4)
      have hlo:∀ b,u3.ownBlock=some b→w.heap.size≤b:=fun b e=>(hp3.out.lt e).2
      have hP4:PAt w4 s pb k2 deep its:=(h3.alloc _).grown hg4 (fun e=>by have:=hlo pb e.symm; omega)
      have htl4:TL w.heap.size v'.ownBlock w4 (us++[t3]) (xs++[.pointer (some q3)]):=htl.out.move (fun k _ hne cs t fz hb _=>(hg4.block k (lt_of_some hb) (fun e=>hne e.symm)).trans hb) (fun k e=>by
       rcases hrow4 with h | h
       ·exact .inl (h ▸ e)
       ·rw [h] at e; cases e; exact .inr (Nat.le_refl _))
      refine ⟨⟨_,_,k2,m,hide hown4,hide htl4,hP4,Fr.grown (Fr.alloc (Fr.trans fk f23) _) hg4 hlo,hk2s,by omega,by omega,by simp; omega,HM2⟩,?_⟩
      rw [atOf_eq hP4,HAT.out]
      omega
    ·rw [if_neg ho] at hM
     have ho':(Lard.tx s.data.toList k == [44])=false:=by rw [beq_eq_false_iff_ne]; exact ho
     have HX:=hide hM
     clear HM HH hT ho hM
     go_wp2_with (go_at_call 313; refine (sees_any s pb k deep its _ _ hk).mono ?_; rintro e w' ⟨rfl,rfl⟩)
     refine (expect_any s pb k deep its ⟨#[125]⟩ _ (g.fr fk hpb) hk (by omega) hks).mono ?_
     rintro e w2 ⟨f2,h2,h3⟩
     have hpl:=Lard.place_exp s.data.toList [125] k us
     have hts:∀ k2 vs,Lard.expT s.data.toList [125] k us=.ok (k2,vs)→vs=us:=fun k2 vs h=>by
      unfold Lard.expT at h; split at h <;> cases h; rfl
     rw [HX.out] at hpl hts
     have hX:Lard.expect s.data.toList (⟨#[125]⟩:ByteArray).data.toList k=Lard.placeOf fin:=hpl.symm
     rw [hX] at h2 h3
     rcases fin with x | ⟨j2,vs⟩
     ·have he:=h3 x rfl
      subst he
      exact ⟨rfl,PostTS.mkErr (Fr.trans fk f2)⟩
     ·obtain ⟨rfl,h4⟩:=h2 j2 rfl
      have hvs:=hts j2 vs rfl
      subst hvs
      have hsl:=TL.slice ((TV.out.move (row':=u3.ownBlock) (KO.keeps (hk.kp f2)) (fun k e=>.inl e))) (PV.out.same (hk.kp f2))
      have hu:∃ a nn c,u3=.slice a nn c:=by
       rcases PV.out with ⟨hu,_⟩ | ⟨gg,cap,cur,hu,_⟩
       ·exact ⟨_,_,_,hu⟩
       ·exact ⟨_,_,_,hu⟩
      have HS:=hide hsl
      clear h2 h3 HX hX hts hpl hsl PV TV
      go_wp2_with fail
      go_ret
      obtain ⟨a,nn,c,hu⟩:=hu
      have hsl:=HS.out
      show PostTS s pb deep its w (.ok (j2,_)) (.returned u3) w2
      rw [hu] at hsl ⊢
      exact PostTS.mkOk (Fr.trans fk f2) h4 hsl
end
section
set_option maxRecDepth 100000
set_option maxHeartbeats 1000000
open Go.RowKit
def partsTAt (l:List UInt8) (n deep its k i:Nat):Lard.RT :=
 Lard.partsT l k i (fun j=>Lard.PT l n 0 deep its j []) (fun j=>Lard.PT l n 3 deep its j []) (fun j=>Lard.PT l n 0 deep (its + 1) j []) (fun j ts=>Lard.PT l n 6 deep its j ts)
theorem PT_in {l:List UInt8} {n tag deep its i j:Nat} {acc ts:List Lard.T} {s:ByteArray} (hl:l=s.data.toList) (h:Lard.PT l n tag deep its i acc=.ok (j,ts)) (hi:i≤s.size):i≤j∧j≤s.size:=P_in hl (PT_prog h) hi
theorem exp_cases (l t:List UInt8) (i:Nat):(Lard.expect l t i=.error (3,i)∧Lard.expT l t i []=.error (3,i))∨∃ j,Lard.expect l t i=.ok j∧Lard.expT l t i []=.ok (j,[]):=by
 unfold Lard.expect Lard.expT
 split
 ·exact .inr ⟨_,rfl,rfl⟩
 ·exact .inl ⟨rfl,rfl⟩
theorem partsT_minus (s:ByteArray) (pb n deep its i:Nat) (hi:i≤s.size) (hd:deep≤20) (hits:its≤deep) (hfuel:8 * (s.size - i) + 4≤n)
  (H3:CTT s pb n 3 212) (w:World) (g:G w) (h:PAt w s pb i deep its) :
  Calls Tryz.prog 263 #[.pointer (some ⟨pb,0,none⟩),.int .i64 5] w (PostTS s pb deep its w (partsTAt s.data.toList n deep its 5 i)):=by
 have hr:partsTAt s.data.toList n deep its 5 i=Lard.PT s.data.toList n 3 deep its i []:=rfl
 have h1:=H3 deep its i hi hd hits (by simp [Lard.nd]; omega)
 rw [hr]
 generalize Lard.PT s.data.toList n 3 deep its i []=r at h1
 have H1:=hide h1
 clear h1 hr H3
 go_enter Tryz.func263,Tryz.ntmps263
 go_wp2_with fail
 refine (H1.out _ g h).mono ?_
 rintro e w1 hp
 rcases r with x | ⟨j,ts⟩
 ·obtain ⟨f1,rfl⟩:=PostT.err hp
  exact ⟨rfl,PostTS.mkErr f1⟩
 ·obtain ⟨f1,⟨q1,t1,rfl,rfl,ht1⟩,h1⟩:=PostT.ok hp
  have HT1:=hide ht1
  clear hp H1 ht1
  go_wp2_with fail
  go_ret
  exact PostTS.mkOk (Fr.alloc f1 _) (h1.alloc _) (TFs.lay 1 rfl (TL.one HT1.out) f1.size)
theorem partsT_group (s:ByteArray) (pb n deep its i:Nat) (hs:s.size≤200) (hpb:8≤pb) (hi:i≤s.size) (hd:deep≤20) (hits:its≤deep) (hfuel:8 * (s.size - i) + 4≤n)
  (H:∀ m,m≤n→CTT s pb m 0 89) (w:World) (g:G w) (h:PAt w s pb i deep its) :
  Calls Tryz.prog 263 #[.pointer (some ⟨pb,0,none⟩),.int .i64 6] w (PostTS s pb deep its w (partsTAt s.data.toList n deep its 6 i)):=by
 have hr:partsTAt s.data.toList n deep its 6 i=Lard.thenT (Lard.PT s.data.toList n 0 deep its i []) (Lard.expT s.data.toList [41]):=rfl
 have h1:=H n (Nat.le_refl _) deep its i hi hd hits hfuel
 have hu:=upToT_any s pb i deep its ⟨#[41]⟩ w g h (by omega) hpb _ h1 (fun j ts hj=>(PT_in rfl hj hi).2)
 have hu':Calls Tryz.prog 294 #[.pointer (some ⟨pb,0,none⟩),.string ⟨#[41]⟩] w (PostT s pb deep its w.heap.size w (Lard.thenT (Lard.PT s.data.toList n 0 deep its i []) (Lard.expT s.data.toList [41]))):=hu
 rw [hr]
 generalize Lard.thenT (Lard.PT s.data.toList n 0 deep its i []) (Lard.expT s.data.toList [41])=r at hu'
 have HU:=hide hu'
 clear h1 hr H hu hu'
 go_enter Tryz.func263,Tryz.ntmps263
 go_wp2_with fail
 refine HU.out.mono ?_
 rintro e w1 hp
 rcases r with x | ⟨j,ts⟩
 ·obtain ⟨f1,rfl⟩:=PostT.err hp
  exact ⟨rfl,PostTS.mkErr f1⟩
 ·obtain ⟨f1,⟨q1,t1,rfl,rfl,ht1⟩,h1⟩:=PostT.ok hp
  have HT1:=hide ht1
  clear hp HU ht1
  go_wp2_with fail
  go_ret
  exact PostTS.mkOk (Fr.alloc f1 _) (h1.alloc _) (TFs.lay 1 rfl (TL.one HT1.out) f1.size)
theorem partsT_key (s:ByteArray) (pb n deep its i:Nat) (hs:s.size≤200) (hpb:8≤pb) (hi:i≤s.size) (hd:deep≤20) (hits:its≤deep) (hfuel:8 * (s.size - i) + 4≤n)
  (H:∀ m,m≤n→CTT s pb m 0 89) (w:World) (g:G w) (h:PAt w s pb i deep its) :
  Calls Tryz.prog 263 #[.pointer (some ⟨pb,0,none⟩),.int .i64 7] w (PostTS s pb deep its w (partsTAt s.data.toList n deep its 7 i)):=by
 have hr:partsTAt s.data.toList n deep its 7 i=Lard.thenT (Lard.PT s.data.toList n 0 deep its i []) (Lard.expT s.data.toList [93]):=rfl
 have h1:=H n (Nat.le_refl _) deep its i hi hd hits hfuel
 have hu:=upToT_any s pb i deep its ⟨#[93]⟩ w g h (by omega) hpb _ h1 (fun j ts hj=>(PT_in rfl hj hi).2)
 have hu':Calls Tryz.prog 294 #[.pointer (some ⟨pb,0,none⟩),.string ⟨#[93]⟩] w (PostT s pb deep its w.heap.size w (Lard.thenT (Lard.PT s.data.toList n 0 deep its i []) (Lard.expT s.data.toList [93]))):=hu
 rw [hr]
 generalize Lard.thenT (Lard.PT s.data.toList n 0 deep its i []) (Lard.expT s.data.toList [93])=r at hu'
 have HU:=hide hu'
 clear h1 hr H hu hu'
 go_enter Tryz.func263,Tryz.ntmps263
 go_wp2_with fail
 refine HU.out.mono ?_
 rintro e w1 hp
 rcases r with x | ⟨j,ts⟩
 ·obtain ⟨f1,rfl⟩:=PostT.err hp
  exact ⟨rfl,PostTS.mkErr f1⟩
 ·obtain ⟨f1,⟨q1,t1,rfl,rfl,ht1⟩,h1⟩:=PostT.ok hp
  have HT1:=hide ht1
  clear hp HU ht1
  go_wp2_with fail
  go_ret
  exact PostTS.mkOk (Fr.alloc f1 _) (h1.alloc _) (TFs.lay 1 rfl (TL.one HT1.out) f1.size)
theorem partsT_list (s:ByteArray) (pb n deep its i:Nat) (hs:s.size≤200) (hpb:8≤pb) (hi:i≤s.size) (hd:deep≤20) (hits:its≤deep) (hfuel:8 * (s.size - i) + 4≤n)
  (H:∀ m,m≤n→CTT s pb m 0 89) (w:World) (g:G w) (h:PAt w s pb i deep its) :
  Calls Tryz.prog 263 #[.pointer (some ⟨pb,0,none⟩),.int .i64 8] w (PostTS s pb deep its w (partsTAt s.data.toList n deep its 8 i)):=by
 have hr:partsTAt s.data.toList n deep its 8 i=if Lard.tx s.data.toList i=[125] then .ok (Lard.nxt s.data.toList i,[]) else Lard.thenT (Lard.PT s.data.toList n 0 deep its i []) fun j ts=>Lard.PT s.data.toList n 6 deep its j ts:=rfl
 have hu:=itemsT_any s pb n deep its i hs hpb hi hd hits hfuel H w g h
 rw [hr]
 generalize (if Lard.tx s.data.toList i=[125] then .ok (Lard.nxt s.data.toList i,[]) else Lard.thenT (Lard.PT s.data.toList n 0 deep its i []) fun j ts=>Lard.PT s.data.toList n 6 deep its j ts:Lard.RT)=r at hu
 have HU:=hide hu
 clear hr H hu
 go_enter Tryz.func263,Tryz.ntmps263
 go_wp2_with fail
 refine HU.out.mono ?_
 rintro e w1 hp
 rcases r with x | ⟨j,ts⟩
 ·obtain ⟨f1,rfl⟩:=PostTS.err hp
  exact ⟨rfl,PostTS.mkErr f1⟩
 ·obtain ⟨f1,⟨a,nn,c,rfl,ht1⟩,h1⟩:=PostTS.ok hp
  have HT1:=hide ht1
  clear hp HU ht1
  go_wp2_with fail
  go_ret
  exact PostTS.mkOk f1 h1 HT1.out
theorem partsT_one (s:ByteArray) (pb n deep its i k:Nat) (hk:k=10∨k=11∨k=12) (hs:s.size≤200) (hpb:8≤pb) (hi:i≤s.size) (hd:deep≤20) (hits:its≤deep) (hfuel:8 * (s.size - i) + 4≤n)
  (H:∀ m,m≤n→CTT s pb m 0 89) (w:World) (g:G w) (h:PAt w s pb i deep its) :
  Calls Tryz.prog 263 #[.pointer (some ⟨pb,0,none⟩),.int .i64 (k:Int)] w (PostTS s pb deep its w (partsTAt s.data.toList n deep its k i)):=by
 have hr:partsTAt s.data.toList n deep its k i=Lard.thenT (Lard.expT s.data.toList [40] i []) fun j _=>Lard.thenT (Lard.PT s.data.toList n 0 deep its j []) (Lard.expT s.data.toList [41]):=by
  rcases hk with rfl | rfl | rfl <;> rfl
 have he:=expect_any s pb i deep its ⟨#[40]⟩ w g h (by omega) hi
 rw [hr]
 rcases exp_cases s.data.toList [40] i with ⟨hx,hxT⟩ | ⟨j,hx,hxT⟩
 all_goals rw [hxT]
 ·generalize ((3,i):Nat×Nat)=x at hx
  show Calls _ _ _ _ (PostTS s pb deep its w (.error x))
  have hx':Lard.expect s.data.toList (⟨#[40]⟩:ByteArray).data.toList i=.error x:=hx
  have HE:=hide he
  have HX:=hide hx'
  clear hr H he hx hx' hxT hfuel
  rcases hk with rfl | rfl | rfl
  all_goals
   go_enter Tryz.func263,Tryz.ntmps263
   go_wp2_with fail
   refine HE.out.mono ?_
   rintro e w1 ⟨f1,_,h3⟩
   have he:=h3 x HX.out
   subst he
   exact ⟨rfl,PostTS.mkErr f1⟩
 ·have hj:=Lard.expect_prog hx (by simp) (by simpa using hi)
  have hj1:=hj.1
  have hj2:j≤s.size:=by simpa using hj.2
  have h1:=H n (Nat.le_refl _) deep its j hj2 hd hits (by simp [Lard.nd]; omega)
  have hx':Lard.expect s.data.toList (⟨#[40]⟩:ByteArray).data.toList i=.ok j:=hx
  have hu:=fun w g h=>upToT_any s pb j deep its ⟨#[41]⟩ w g h (by omega) hpb _ h1 (fun j' ts' hj'=>(PT_in rfl hj' hj2).2)
  have hu':∀ w,G w→PAt w s pb j deep its→Calls Tryz.prog 294 #[.pointer (some ⟨pb,0,none⟩),.string ⟨#[41]⟩] w (PostT s pb deep its w.heap.size w (Lard.thenT (Lard.PT s.data.toList n 0 deep its j []) (Lard.expT s.data.toList [41]))):=hu
  show Calls _ _ _ _ (PostTS s pb deep its w (Lard.thenT (Lard.PT s.data.toList n 0 deep its j []) (Lard.expT s.data.toList [41])))
  generalize Lard.thenT (Lard.PT s.data.toList n 0 deep its j []) (Lard.expT s.data.toList [41])=r at hu'
  have HE:=hide he
  have HX:=hide hx'
  have HU:=hide hu'
  clear hr H he hx hx' hxT hfuel h1 hu hu' hj hj1
  rcases hk with rfl | rfl | rfl
  all_goals
   go_enter Tryz.func263,Tryz.ntmps263
   go_wp2_with fail
   refine HE.out.mono ?_
   rintro e w1 ⟨f1,h2,_⟩
   obtain ⟨rfl,hp1⟩:=h2 j HX.out
   clear h2 HE HX
   go_wp2_with fail
   refine (HU.out _ (g.fr f1 hpb) hp1).mono ?_
   rintro e w2 hp
   rcases r with x | ⟨j,ts⟩
   ·obtain ⟨f2,rfl⟩:=PostT.err hp
    exact ⟨rfl,PostTS.mkErr (Fr.trans f1 f2)⟩
   ·obtain ⟨f2,⟨q1,t1,rfl,rfl,ht1⟩,h1⟩:=PostT.ok hp
    have HT1:=hide ht1
    clear hp HU ht1
    go_wp2_with fail
    go_ret
    exact PostTS.mkOk (Fr.alloc (Fr.trans f1 f2) _) (h1.alloc _) (TFs.lay 1 rfl (TL.one (HT1.out.mono f1.size)) (Fr.trans f1 f2).size)
end
end Go.Proofs.YtpekpdimdelncaaGreatDoor
