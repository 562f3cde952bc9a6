/- Out of: L5, L6, L7, L8. -/
import Derived.Test.YtpekpdimdelncaaGreatDoorP14
import Derived.Test.YtpekpdimdelncaaGreatDoorShelf2
import Derived.Shelf.Strings.Builder1
import Derived.Test.YtpekpdimdelncaaGreatDoorShelf3
set_option linter.unusedVariables false
set_option linter.unusedSimpArgs false
namespace Go.Proofs.YtpekpdimdelncaaGreatDoor
section
open Go.RowKit Go.Shelf
theorem step_run_append {P:Program} {ops:Array Oper} {o:Oper} {a:Act} {w:World} {K:Act→World→Prop} {Q:Exit→Act→World→Prop} {E:Prop}
  (hg:o.guard=none) (s x:Operand) (t u:TypeId) (hop:o.op=Op.call { callee:=Callee.builtin Builtin.append,args:=#[s,x],argTypes:=#[t,u] })
  (vs vx v':Value) (w':World) (hs:a.eval s=vs) (hx:a.eval x=vx) (hrun:(Builtin.append_ #[t,u] o.type #[vs,vx]).run P w=.ok v' w') (hK:K (a.put o.dst v') w') :
  if Region.wanted o (yielded ops a.tmps)=true then Oper.wp P o a w K Q else E:=by
 have hw:Region.wanted o (yielded ops a.tmps)=true:=by simp [Region.wanted,hg]
 rw [if_pos hw]
 unfold Oper.wp
 simp [execOp,hop,resolve,invoke,builtin,hs,hx,hrun,Result.andThen]
 exact hK
theorem step_run_put {P:Program} {ops:Array Oper} {o:Oper} {a:Act} {w:World} {K:Act→World→Prop} {Q:Exit→Act→World→Prop} {E:Prop}
  (hg:o.guard=none) (m x y:Operand) (t:TypeId) (hop:o.op=Op.mapUpdate t m x y)
  (vm vx vy:Value) (w':World) (hm:a.eval m=vm) (hx:a.eval x=vx) (hy:a.eval y=vy) (hrun:(Instr.mapUpdate t vm vx vy).run P w=.ok () w') (hK:K (a.put o.dst undef) w') :
  if Region.wanted o (yielded ops a.tmps)=true then Oper.wp P o a w K Q else E:=by
 have hw:Region.wanted o (yielded ops a.tmps)=true:=by simp [Region.wanted,hg]
 rw [if_pos hw]
 unfold Oper.wp
 simp [execOp,hop,hm,hx,hy,hrun,Result.andThen]
 exact hK
theorem wpList_run_append {P:Program} (w:World) {ops:Array Oper} {rest:List Oper} {o:Oper} {a:Act} {Q:Exit→Act→World→Prop}
  (hg:o.guard=none) (s x:Operand) (t u:TypeId) (hop:o.op=Op.call { callee:=Callee.builtin Builtin.append,args:=#[s,x],argTypes:=#[t,u] })
  (vs vx v':Value) (w':World) (hs:a.eval s=vs) (hx:a.eval x=vx) (hrun:(Builtin.append_ #[t,u] o.type #[vs,vx]).run P w=.ok v' w') (hK:wpList P ops Q rest (a.put o.dst v') w'):wpList P ops Q (o :: rest) a w:=by
 refine wpList_plain hg fun K' hK'=>?_
 unfold Oper.wp
 simp [execOp,hop,resolve,invoke,builtin,hs,hx,hrun,Result.andThen]
 exact hK' _ _ hK
structure Tn (e0:TypeId) (w w':World) (row:Option Nat):Prop where
 g:w.grownBy w' row
 ty:∀ b,row=some b→∃ cs fz,w.heap[b]? = some (.cells cs e0 fz)
theorem Tn.kept {e0:TypeId} {w w':World} {row:Option Nat} (h:Tn e0 w w' row) {k:Nat} {o:Obj} (hk:w.heap[k]? = some o) (ho:∀ cs fz,o≠.cells cs e0 fz):w'.heap[k]? = some o:=by
 refine (h.g.block k (Array.getElem?_eq_some_iff.1 hk).1 (fun e=>?_)).trans hk
 obtain ⟨cs,fz,h1⟩:=h.ty k e.symm
 rw [hk] at h1
 cases h1
 exact ho _ _ rfl
theorem Tn.cells {e0:TypeId} {w w':World} {row:Option Nat} (h:Tn e0 w w' row) {k:Nat} {cs:Array Value} {t:TypeId} {fz:Nat×Nat} (hk:w.heap[k]? = some (.cells cs t fz)) (ht:t≠e0):w'.heap[k]? = some (.cells cs t fz) :=
 h.kept hk (fun _ _ e=>by cases e; exact ht rfl)
theorem Tn.stay {e0:TypeId} {w w':World} {row:Option Nat} (h:Tn e0 w w' row) (he:LT e0):Stay w w' :=
 Keeps.stay (fun k cs t fz hk ht=>h.cells hk (fun e=>he.imm (.inl (e ▸ ht))))
theorem Tn.map {e0:TypeId} {w w':World} {row:Option Nat} (h:Tn e0 w w' row) {b:Nat} {l:List (List UInt8×Value)} (hm:MapAt w b l):w'.heap[b]? = w.heap[b]? := by
 obtain ⟨es,c,hb⟩:=hm.isMap
 rw [h.kept hb (fun _ _ e=>by cases e),hb]
theorem HasAt.tn {e0:TypeId} {w w':World} {row:Option Nat} {L:Nat→Prop} {hb:Nat} {has:List (List UInt8×Lard.Thing)} (h:HasAt w L hb has) (ht:Tn e0 w w' row) (he:LT e0) (h1:e0≠124) (h2:e0≠131) (h3:e0≠133):HasAt w' L hb has:=by
 have hm:w'.heap[hb]? = w.heap[hb]? := by obtain ⟨_,_,hm,_⟩:=h; exact ht.map hm
 exact h.st hm (fun k _ cs fz hc=>ht.cells hc h1.symm) (fun k _ cs t fz hc hk=>ht.cells hc (fun e=>by rcases hk with hk | hk; exact h2 (e ▸ hk); exact h3 (e ▸ hk))) (ht.stay he)
theorem DoneAt.tn {e0:TypeId} {w w':World} {row:Option Nat} {L:Nat→Prop} {db:Nat} {done:List (List UInt8×Lard.Wo)} (h:DoneAt w L db done) (ht:Tn e0 w w' row) (he:LT e0):DoneAt w' L db done:=by
 have hm:w'.heap[db]? = w.heap[db]? := by obtain ⟨_,_,hm,_⟩:=h; exact ht.map hm
 exact h.st hm (ht.stay he)
theorem row_tn {e0:TypeId} {w w':World} {row:Option Nat} {n size:Nat} {e:TypeId} {v:Value} {xs:List Value} (h:w.ownsRow 8 e size v n xs) (ht:Tn e0 w w' row) (hne:e≠e0):w'.ownsRow 8 e size v n xs :=
 row_same h (fun g _ cs fz hc=>ht.cells hc hne)
theorem row_typed {w:World} {n size:Nat} {e:TypeId} {v:Value} {xs:List Value} (h:w.ownsRow 8 e size v n xs) {g:Nat} (hg:v.ownBlock=some g):∃ cs fz,w.heap[g]? = some (.cells cs e fz):=by
 rcases h.2 with ⟨rfl,_⟩ | ⟨g',cap,cur,rfl,_,h3,_⟩
 ·cases hg
 ·cases hg; exact ⟨_,_,h3⟩
theorem typed_tn {e0:TypeId} {w w':World} {row:Option Nat} {L:Nat→Prop} (h:∀ k,L k→8≤k∧((∃ es c,w.heap[k]? = some (.map es c))∨∃ cs t fz,w.heap[k]? = some (.cells cs t fz)∧LT t)) (ht:Tn e0 w w' row) (he:LT e0) (hr:∀ b,row=some b→∃ cs fz,w'.heap[b]? = some (.cells cs e0 fz)) :
  ∀ k,L k→8≤k∧((∃ es c,w'.heap[k]? = some (.map es c))∨∃ cs t fz,w'.heap[k]? = some (.cells cs t fz)∧LT t):=by
 intro k hk
 obtain ⟨h8,h1⟩:=h k hk
 refine ⟨h8,?_⟩
 rcases h1 with ⟨es,c,h1⟩ | ⟨cs,t,fz,h1,h2⟩
 ·exact .inl ⟨es,c,ht.kept h1 (fun _ _ e=>by cases e)⟩
 ·by_cases hr':row=some k
  ·obtain ⟨cs',fz',h3⟩:=hr k hr'
   exact .inr ⟨cs',e0,fz',h3,he⟩
  ·exact .inr ⟨cs,t,fz,(ht.g.block k (lt_of_some h1) (fun e=>hr' e.symm)).trans h1,h2⟩
theorem blk_cell {w:World} {b:Nat} {cs:Array Value} {t:TypeId} {fz:Nat×Nat} (h:w.heap[b]? = some (.cells cs t fz)) (i:Nat) (v:Value):(w.setCell ⟨b,i,none⟩ v).heap[b]? = some (.cells (cs.setIfInBounds i v) t fz):=by
 simp [World.setCell,Array.getElem?_modify,h]
theorem tn_set {w:World} {b:Nat} {cs:Array Value} {t:TypeId} {fz:Nat×Nat} (h:w.heap[b]? = some (.cells cs t fz)) (i:Nat) (v:Value):Tn t w (w.setCell ⟨b,i,none⟩ v) (some b) :=
 ⟨grown_set (World.grownBy.refl w (some b)) i v,fun b' hb=>by cases hb; exact ⟨_,_,h⟩⟩
theorem u8Info:(Tryz.prog.info? 5).map (fun i=>(i.zero,i.size,i.bytes))=some (some (.int .u8 0),1,1):=by kernel_rfl
theorem append_lies (w:World) (ty:TypeId) (v:Value) (n:Nat) (xs:List Value) (hown:w.ownsRow 8 5 1 v n xs) (s:ByteArray) (h0:0 < s.size) (hbytes:n + s.size≤140737488355328) (h8:8≤w.heap.size) :
  ∃ g cap w',(Builtin.append_ #[106,9] ty #[v,.string s]).run Tryz.prog w=.ok (.slice (some ⟨g,0,none⟩) (n + s.size) cap) w'∧w'.ownsRow 8 5 1 (.slice (some ⟨g,0,none⟩) (n + s.size) cap) (n + s.size) (xs++Lib.strCells s)∧w.grownBy w' v.ownBlock∧(v.ownBlock=some g∨g=w.heap.size)∧(∀ b,v.ownBlock=some b→∃ cs fz,w'.heap[b]? = some (.cells cs 5 fz)):=by
 obtain ⟨i0,hi0,hz0,hz1,hz2⟩:=info_parts u8Info
 obtain ⟨v',w',hr,ho,hg,_⟩:=Lib.run_append_own_string (P:=Tryz.prog) w 8 106 9 ty 5 i0 Tryz.underlying106 Tryz.underlying9 hi0 hz0 hz1 hz2 v n xs hown s (by unfold maxLen; omega) hbytes h8
 obtain ⟨g,cap,rfl,_,hlt⟩:=ho.form (by omega)
 refine ⟨g,cap,w',hr,ho,hg,?_⟩
 rcases hown.2 with ⟨rfl,rfl⟩ | ⟨g0,cap0,cur,rfl,hbg,hg0,hnc,hcm,hcs,htake⟩
 ·have hr':=run_append_nil_string (P:=Tryz.prog) w 106 9 ty 5 i0 (.int .u8 0) Tryz.underlying106 Tryz.underlying9 hi0 hz0 s h0 (by omega) (by rw [hz2]; omega)
  rw [hr] at hr'
  injection hr' with e1 e2
  injection e1 with e1 _ _
  injection e1 with e1
  injection e1 with e1
  exact ⟨.inr e1,fun b hb=>by cases hb⟩
 ·by_cases hroom:n + s.size≤cap0
  ·have hr':=Lib.run_append_room_string (P:=Tryz.prog) w 106 9 ty 5 i0 Tryz.underlying106 Tryz.underlying9 hi0 hz1 g0 n cap0 cur hg0 s hroom (by omega)
   rw [hr] at hr'
   injection hr' with e1 e2
   injection e1 with e1 _ _
   injection e1 with e1
   injection e1 with e1
   subst e1
   exact ⟨.inl rfl,fun b hb=>by cases hb; exact row_typed ho rfl⟩
  ·have holds:∀ j u,xs[j]? = some u→w.cell? ((⟨g0,0,none⟩:Addr).add j)=some u:=hown.cells (g:=g0) rfl
   have hr':=Lib.run_append_grow_string (P:=Tryz.prog) w 106 9 ty 5 i0 (.int .u8 0) Tryz.underlying106 Tryz.underlying9 hi0 hz0 ⟨g0,0,none⟩ n cap0 xs (by rw [hz1]; exact hown.1) holds s (by omega) (by omega) (by rw [hz2]; exact growslice_fits (by omega) (by omega))
   rw [hr] at hr'
   injection hr' with e1 e2
   injection e1 with e1 _ _
   injection e1 with e1
   injection e1 with e1
   refine ⟨.inr e1,fun b hb=>?_⟩
   cases hb
   rw [e2]
   exact ⟨_,_,(heap_alloc_old w.drew _ (lt_of_some hg0)).trans hg0⟩
theorem append_row {w:World} (t ty e:TypeId) (z:Value) (size bytes:Nat) (ht:Tryz.prog.underlying t=some (.slice e)) (hinf:(Tryz.prog.info? e).map (fun i=>(i.zero,i.size,i.bytes))=some (some z,size,bytes)) (hzs:z.cells.size=size) (hsz:0 < size)
  (v:Value) (n:Nat) (xs:List Value) (hown:w.ownsRow 8 e size v n xs) (ad:Addr) (c:Nat) (news:List Value) (hl:news.length=size) (hnews:∀ j u,news[j]? = some u→w.cell? (ad.add j)=some u) (h1:∀ u∈news,u.oneCell'=true)
  (hbytes:(n + 1) * bytes≤140737488355328) (hn:n + 1≤maxLen) (h8:8≤w.heap.size) :
  ∃ g cap w',(Builtin.append_ #[t,t] ty #[v,.slice (some ad) 1 c]).run Tryz.prog w=.ok (.slice (some ⟨g,0,none⟩) (n + 1) cap) w'∧w'.ownsRow 8 e size (.slice (some ⟨g,0,none⟩) (n + 1) cap) (n + 1) (xs++news)∧w.grownBy w' v.ownBlock∧(v.ownBlock=some g∨g=w.heap.size)∧(∀ b,v.ownBlock=some b→∃ cs fz,w'.heap[b]? = some (.cells cs e fz)):=by
 obtain ⟨i0,hi0,hz0,hz1,hz2⟩:=info_parts hinf
 obtain ⟨g,cap,w',hr,ho,hg,hloc,hlt⟩:=run_append_lies (P:=Tryz.prog) w t ty 8 e i0 z size bytes ht hi0 hz0 hz1 hz2 hzs hsz v n xs hown ad 1 c news (by omega) hnews h1 (by omega) hn hbytes h8 _ rfl
 refine ⟨g,cap,w',hr,ho,hg,hloc,?_⟩
 rcases hown.2 with ⟨rfl,rfl⟩ | ⟨g0,cap0,cur,rfl,hbg,hg0,hnc,hcm,hcs,htake⟩
 ·exact fun b hb=>by cases hb
 ·intro b hb
  cases hb
  by_cases hroom:n + 1≤cap0
  ·have hr':=run_append_room (P:=Tryz.prog) w t ty e i0 ht hi0 g0 n cap0 cur hg0 ad 1 c news (by rw [hz1]; omega) hnews h1 hroom (by
    rw [hz1,hl,hcs]
    have:=Nat.mul_le_mul_right size hroom
    rw [Nat.add_mul,Nat.one_mul] at this
    exact this)
   rw [hr] at hr'
   injection hr' with e1 e2
   injection e1 with e1 _ _
   injection e1 with e1
   injection e1 with e1
   subst e1
   exact row_typed ho rfl
  ·have holds:∀ j u,xs[j]? = some u→w.cell? ((⟨g0,0,none⟩:Addr).add j)=some u:=hown.cells (g:=g0) rfl
   have hr':=run_append_grow (P:=Tryz.prog) w t ty e i0 z ht hi0 hz0 ⟨g0,0,none⟩ n cap0 xs (by rw [hz1]; exact hown.1) holds ad 1 c news (by rw [hz1]; omega) hnews (by omega) (by simp only [maxLen] at hn; omega) (by rw [hz2]; exact growslice_fits (by omega) (by omega))
   rw [hr] at hr'
   injection hr' with e1 e2
   rw [e2]
   exact ⟨_,_,(heap_alloc_old w.drew _ (lt_of_some hg0)).trans hg0⟩
theorem jbytes_snoc (jr:List (List UInt8)) (t:List UInt8):jbytes (jr++[t])=jbytes jr++Lard.line t:=by
 simp [jbytes]
theorem strCells_append (a b:List UInt8):Lib.strCells ⟨a.toArray⟩++Lib.strCells ⟨b.toArray⟩=Lib.strCells ⟨(a++b).toArray⟩:=by
 simp [Lib.strCells]
theorem LP.turned {w w1:World} {lb:Nat} {s s':Lard.LS} {L:Nat→Prop} {hb db:Nat} {vb vr vn vj vb' vr' vn' vj':Value} (h:LP w lb s L hb db vb vr vn vj) (e0:TypeId) (row:Option Nat) (ht:Tn e0 w w1 row) (he:LT e0) (h1:e0≠108) (h2:e0≠124) (h3:e0≠131) (h4:e0≠133)
  (hrow:∀ b,row=some b→L b∧∃ cs fz,w1.heap[b]? = some (.cells cs e0 fz)) (Nw:Nat→Prop) (hNw:∀ k,Nw k→w.heap.size≤k∧∃ cs fz,w1.heap[k]? = some (.cells cs e0 fz)) (g:G w)
  (i:Nat) (v:Value) (hset:(#[.map (some hb),.map (some db),vb,vr,vn,vj]:Array Value).setIfInBounds i v=#[.map (some hb),.map (some db),vb',vr',vn',vj'])
  (hhas:s'.has=s.has) (hdone:s'.done=s.done) (r1:strsAt w1 vb' s'.begun) (r2:strsAt w1 vr' s'.ring) (r3:w1.ownsRow 8 61 6 vn' s'.ran.length (s'.ran.flatMap whyCells)) (r4:w1.ownsRow 8 5 1 vj' (jbytes s'.jr).length (Lib.strCells ⟨(jbytes s'.jr).toArray⟩))
  (hmine:∀ k,vb'.ownBlock=some k∨vr'.ownBlock=some k∨vn'.ownBlock=some k∨vj'.ownBlock=some k→L k∨Nw k) (hapart:∀ k,vb'.ownBlock=some k→vr'.ownBlock≠some k) (hrnil:s'.ring=[]→vr'=.slice none 0 0) :
  LPost w lb L s' (w1.setCell ⟨lb,i,none⟩ v):=by
 have hLL:LT 108:=.inl rfl
 have hblk1:=ht.cells h.blk h1.symm
 have ht2:=tn_set hblk1 i v
 have hblk2:=blk_cell hblk1 i v
 rw [hset] at hblk2
 have hm:∀ k,L k→L k∨Nw k:=fun k hk=>.inl hk
 have hlp:LP (w1.setCell ⟨lb,i,none⟩ v) lb s' (fun k=>L k∨Nw k) hb db vb' vr' vn' vj':={
   blk:=hblk2
   here:=.inl h.here
   ne:=h.ne
   has:=by rw [hhas]; exact ((h.has.tn ht he h2 h3 h4).tn ht2 hLL (by decide) (by decide) (by decide)).mono hm
   done:=by rw [hdone]; exact ((h.done.tn ht he).tn ht2 hLL).mono hm
   begun:=row_tn r1 ht2 (by decide)
   ring:=row_tn r2 ht2 (by decide)
   ran:=row_tn r3 ht2 (by decide)
   jr:=row_tn r4 ht2 (by decide)
   mine:=hmine
   apart:=hapart
   rnil:=hrnil
   typed:=typed_tn (fun k hk=>by
    rcases hk with hk | hk
    ·exact typed_tn h.typed ht he (fun b hb=>(hrow b hb).2) k hk
    ·obtain ⟨h5,cs,fz,h6⟩:=hNw k hk
     exact ⟨Nat.le_trans g.size h5,.inr ⟨cs,e0,fz,h6,he⟩⟩) ht2 hLL (fun b hb=>by cases hb; exact ⟨_,_,hblk2⟩) }
 have f1:Frm L w w1:=by
  refine ⟨ht.g.os,ht.g.tape,ht.g.output,ht.g.size,fun k hk hn=>ht.g.block k hk (fun e=>hn (hrow k e.symm).1)⟩
 refine ⟨fun k=>L k∨Nw k,⟨hb,db,vb',vr',vn',vj',hlp⟩,fun k hk=>by rcases hk with hk | hk; exact .inl hk; exact .inr (hNw k hk).1,hm,h.frw hlp (f1.trans (Frm.grown ht2.g h.here) (fun k hk=>.inl hk)) (fun k hk cs t fz hc hkt=>ht2.cells (ht.cells hc ?_) ?_) ?_⟩
 ·rcases hkt with rfl | rfl
  ·exact h3.symm
  ·exact h4.symm
 ·rcases hkt with rfl | rfl <;> decide
 ·obtain ⟨hp,q1,q2,_⟩:=h.has
  have e1:=ht.map q2
  obtain ⟨es,cc,q3⟩:=q2.isMap
  rw [q3] at e1
  rw [ht2.kept e1 (fun _ _ e=>by cases e),q3]
theorem LP.write {w w1:World} {lb:Nat} {s:Lard.LS} {L:Nat→Prop} {hb db:Nat} {vb vr vn vj:Value} (h:LP w lb s L hb db vb vr vn vj) (gg:G w) {g cap n:Nat} (t:List UInt8) (hg:w.grownBy w1 vj.ownBlock)
  (hn:n=(jbytes (s.jr++[t])).length) (ho:w1.ownsRow 8 5 1 (.slice (some ⟨g,0,none⟩) n cap) n (Lib.strCells ⟨(jbytes (s.jr++[t])).toArray⟩)) (hl:vj.ownBlock=some g∨g=w.heap.size) (hold:∀ b,vj.ownBlock=some b→∃ cs fz,w1.heap[b]? = some (.cells cs 5 fz)) :
  LPost w lb L (s.write t) (w1.setCell ⟨lb,5,none⟩ (.slice (some ⟨g,0,none⟩) n cap)):=by
 subst hn
 have ht1:Tn 5 w w1 vj.ownBlock:=⟨hg,fun b hb=>row_typed h.jr hb⟩
 refine h.turned 5 vj.ownBlock ht1 (.inr (.inr (.inr (.inl rfl)))) (by decide) (by decide) (by decide) (by decide) (fun b hb=>⟨h.mine b (.inr (.inr (.inr hb))),hold b hb⟩) (fun k=>k=g∧g=w.heap.size) (fun k hk=>?_) gg 5 _ rfl rfl rfl (row_tn h.begun ht1 (by decide)) (row_tn h.ring ht1 (by decide)) (row_tn h.ran ht1 (by decide)) ho (fun k hk=>?_) h.apart h.rnil
 ·obtain ⟨rfl,h1⟩:=hk
  exact ⟨by omega,row_typed ho rfl⟩
 ·rcases hk with hk | hk | hk | hk
  ·exact .inl (h.mine k (.inl hk))
  ·exact .inl (h.mine k (.inr (.inl hk)))
  ·exact .inl (h.mine k (.inr (.inr (.inl hk))))
  ·cases hk
   rcases hl with hl | hl
   ·exact .inl (h.mine _ (.inr (.inr (.inr hl))))
   ·exact .inr ⟨rfl,hl⟩
end
section
set_option maxRecDepth 100000
set_option maxHeartbeats 1000000
open Go.RowKit Go.Shelf
theorem line_len (t:List UInt8):(Lard.line t).length=t.length + 10:=by
 simp [Lard.line,Lard.hex8]
theorem Deb.below {B:Nat} {w w':World} (h:Deb w) (hB:Below B w w') (h8:8≤B):Deb w':=by
 unfold Deb at h ⊢
 rw [←h]
 exact World.cell?_of_block (hB.block _ (by show 7 < _; omega))
theorem frm_deb {w w':World} {lb:Nat} {s:Lard.LS} {L:Nat→Prop} (h:LAt w lb s L) (hf:Frm L w w') (g:G w) (hd:Deb w):Deb w':=by
 obtain ⟨hb,db,vb,vr,vn,vj,h⟩:=h
 have hB:Below 8 w w':=⟨hf.os,hf.tape,hf.output,hf.size,fun k hk=>hf.block k (Nat.lt_of_lt_of_le hk g.size) (fun hl=>by have:=(h.typed k hl).1; omega)⟩
 exact hd.below hB (Nat.le_refl _)
theorem write_any (w:World) (lb:Nat) (s:Lard.LS) (L:Nat→Prop) (t:ByteArray) (h:LAt w lb s L) (g:G w) (hd:Deb w) (ht:t.size≤140737488355328) (hj:(jbytes (s.jr++[t.data.toList])).length≤140737488355328) :
  Calls Tryz.prog 59 #[ptr lb,.string t] w fun e w'=>e=.returned (.tuple #[])∧LPost w lb L (s.write t.data.toList) w':=by
 obtain ⟨hb,db,vb,vr,vn,vj,h⟩:=h
 have c5:w.cell? ⟨lb,5,none⟩=some vj:=by simp [World.cell?,h.blk]
 have hlt:lb < w.heap.size:=lt_of_some h.blk
 have hof:=fun (w0:World) (hB:Below w.heap.size w w0)=>of_line t w0 ht (hd.below hB g.size) (Nat.le_trans g.size hB.size)
 have hfin:∀ (w1:World),Below w.heap.size w w1→∃ g' cap w2,(Builtin.append_ #[106,9] 106 #[vj,str (Lard.line t.data.toList)]).run Tryz.prog w1=.ok (.slice (some ⟨g',0,none⟩) (jbytes (s.jr++[t.data.toList])).length cap) w2∧(∃ v,w2.cell? ⟨lb,5,none⟩=some v)∧w2.frozen? ⟨lb,5,none⟩=false∧LPost w lb L (s.write t.data.toList) (w2.setCell ⟨lb,5,none⟩ (.slice (some ⟨g',0,none⟩) (jbytes (s.jr++[t.data.toList])).length cap)):=by
  intro w1 hB
  have h1:LP w1 lb s L hb db vb vr vn vj:=h.st (fun k hk=>hB.block k (h.lt hk)) (Stay.below hB)
  have hsz:(⟨(Lard.line t.data.toList).toArray⟩:ByteArray).size=(Lard.line t.data.toList).length:=by show (Lard.line t.data.toList).toArray.size=_; simp
  have hlen:(jbytes (s.jr++[t.data.toList])).length=(jbytes s.jr).length + (⟨(Lard.line t.data.toList).toArray⟩:ByteArray).size:=by rw [jbytes_snoc,List.length_append,hsz]
  have hl10:=line_len t.data.toList
  obtain ⟨g',cap,w2,hr,ho,hg,hl,hold⟩:=append_lies w1 106 vj _ _ h1.jr ⟨(Lard.line t.data.toList).toArray⟩ (by omega) (by omega) (Nat.le_trans g.size hB.size)
  rw [strCells_append,←jbytes_snoc,←hlen] at ho
  rw [←hlen] at hr
  have hblk2:=(Tn.mk (e0:=5) hg (fun b hb=>row_typed h1.jr hb)).cells h1.blk (by decide)
  refine ⟨g',cap,w2,hr,⟨vj,by simp [World.cell?,hblk2]⟩,by simp [World.frozen?,hblk2],?_⟩
  obtain ⟨L',k1,k2,k3,k4⟩:=h1.write (g.below hB g.size) t.data.toList hg rfl ho hl hold
  refine ⟨L',k1,fun k hk=>?_,k3,(Frw.below hB).trans k4 (fun k hk=>.inl hk) (fun k hk=>hk)⟩
  rcases k2 k hk with h | h
  ·exact .inl h
  ·have:=hB.size
   exact .inr (by omega)
 have HOF:=hide hof
 have HFIN:=hide hfin
 clear hof hfin h
 unfold ptr
 go_enter Tryz.func59,Tryz.ntmps59
 go_wp2_with fail
 refine wp_region_held_drew (S:=fun _=>True) (by kernel_rfl) trivial (fun hHeld=>?_)
 refine wpAnyH_take (i:=0) (v:=?_) rfl (by kernel_rfl) (by kernel_rfl) (by kernel_rfl) (fun _ _ _ h=>h) (Or.inl ⟨by rfl,?_⟩) trivial ?_
 rotate_left
 ·intro w' s0
  go_simp
  try with_reducible rfl
 simp only [Act.put,List.setIfInBounds_toArray,List.set_cons_zero,List.set_cons_succ]
 refine wpAnyH_take (i:=1) (v:=?_) rfl (by kernel_rfl) (by kernel_rfl) (by kernel_rfl) (fun _ _ _ h=>h) (Or.inl ⟨by rfl,?_⟩) trivial ?_
 rotate_left
 ·intro w' s0
  go_simp
  try with_reducible rfl
 simp only [Act.put,List.setIfInBounds_toArray,List.set_cons_zero,List.set_cons_succ]
 refine wpAnyH_take (i:=2) (v:=?_) rfl (by kernel_rfl) (by kernel_rfl) (by kernel_rfl) (fun _ _ _ h=>h) (Or.inl ⟨by rfl,?_⟩) trivial ?_
 rotate_left
 ·intro w' s0
  go_simp
  try with_reducible rfl
 simp only [Act.put,List.setIfInBounds_toArray,List.set_cons_zero,List.set_cons_succ]
 refine wpAnyH_take (i:=3) (v:=?_) rfl (by kernel_rfl) (by kernel_rfl) (by kernel_rfl) (fun _ _ _ h=>h) (Or.inl ⟨by rfl,?_⟩) trivial ?_
 rotate_left
 ·intro w' s0
  go_simp
  try with_reducible rfl
 simp only [Act.put,List.setIfInBounds_toArray,List.set_cons_zero,List.set_cons_succ]
 refine wpAnyH_take (i:=5) (v:=?_) rfl (by kernel_rfl) (by kernel_rfl) (by kernel_rfl) (fun _ _ _ h=>h) (Or.inl ⟨by rfl,?_⟩) trivial ?_
 rotate_left
 ·intro w' s0
  go_simp
  try with_reducible rfl
 simp only [Act.put,List.setIfInBounds_toArray,List.set_cons_zero,List.set_cons_succ]
 have hBd:Below w.heap.size w w.drew:=(Below.refl _ w).drew
 have d5:w.drew.cell? ⟨lb,5,none⟩=some vj:=c5
 refine wpAnyH_ready (rs:=[4,6]) (by kernel_rfl) (by simp) ?_
 refine AllReadyH.cons rfl (fun K hK=>?_) (AllReadyH.cons rfl (fun K hK=>?_) AllReadyH.nil)
 ·go_simp
  refine hK.out _ _ trivial (fun _=>?_)
  clear hK
  refine wpAnyH_ready (rs:=[6]) (by kernel_rfl) (by simp) ?_
  refine AllReadyH.cons rfl (fun K hK=>?_) AllReadyH.nil
  go_simp
  refine (HOF.out _ hBd).mono ?_
  rintro e w1 ⟨rfl,hB1⟩
  have hB:Below w.heap.size w w1:=hBd.trans (hB1.mono (by simp))
  refine hK.out _ _ trivial (fun _=>?_)
  clear hK
  try clear e5
  clear d5
  obtain ⟨g',cap,w2,hr,⟨v,hv⟩,hz,hP⟩:=HFIN.out w1 hB
  have HP:=hide hP
  clear hP HFIN HOF hHeld hB1 hB hBd c5
  refine wpAnyH_ready (rs:=[7]) (by kernel_rfl) (by simp) ?_
  refine AllReadyH.cons rfl (fun K hK=>?_) AllReadyH.nil
  refine step_run_append rfl (.tmp 8) (.tmp 10) 106 9 rfl _ _ _ _ rfl rfl hr ?_
  simp only [Act.put,List.setIfInBounds_toArray,List.set_cons_zero,List.set_cons_succ]
  refine hK.out _ _ trivial (fun _=>?_)
  clear hK hr
  refine wpAnyH_ready (rs:=[8]) (by kernel_rfl) (by simp) ?_
  refine AllReadyH.cons rfl (fun K hK=>?_) AllReadyH.nil
  go_simp
  refine hK.out _ _ trivial (fun _=>?_)
  clear hK
  refine wpAnyH_ready (rs:=[9]) (by kernel_rfl) (by simp) ?_
  refine AllReadyH.cons rfl (fun K hK=>?_) AllReadyH.nil
  go_simp
  refine hK.out _ _ trivial (fun _=>?_)
  clear hK
  refine wpAnyH_ready (rs:=[10]) (by kernel_rfl) (by simp) ?_
  refine AllReadyH.cons rfl (fun K hK=>?_) AllReadyH.nil
  go_simp
  refine hK.out _ _ trivial (fun _=>?_)
  clear hK
  refine wpAnyH_done (by kernel_rfl) ?_ _
  go_wp2_with fail
  go_end0
  exact ⟨rfl,HP.out⟩
 ·go_simp
  refine (HOF.out _ hBd).mono ?_
  rintro e w1 ⟨rfl,hB1⟩
  have hB:Below w.heap.size w w1:=hBd.trans (hB1.mono (by simp))
  have e5:w1.cell? ⟨lb,5,none⟩=some vj:=(hB.cell (p:=⟨lb,5,none⟩) hlt).trans c5
  refine hK.out _ _ trivial (fun _=>?_)
  clear hK
  refine wpAnyH_ready (rs:=[4]) (by kernel_rfl) (by simp) ?_
  refine AllReadyH.cons rfl (fun K hK=>?_) AllReadyH.nil
  go_simp
  refine hK.out _ _ trivial (fun _=>?_)
  clear hK
  try clear e5
  clear d5
  obtain ⟨g',cap,w2,hr,⟨v,hv⟩,hz,hP⟩:=HFIN.out w1 hB
  have HP:=hide hP
  clear hP HFIN HOF hHeld hB1 hB hBd c5
  refine wpAnyH_ready (rs:=[7]) (by kernel_rfl) (by simp) ?_
  refine AllReadyH.cons rfl (fun K hK=>?_) AllReadyH.nil
  refine step_run_append rfl (.tmp 8) (.tmp 10) 106 9 rfl _ _ _ _ rfl rfl hr ?_
  simp only [Act.put,List.setIfInBounds_toArray,List.set_cons_zero,List.set_cons_succ]
  refine hK.out _ _ trivial (fun _=>?_)
  clear hK hr
  refine wpAnyH_ready (rs:=[8]) (by kernel_rfl) (by simp) ?_
  refine AllReadyH.cons rfl (fun K hK=>?_) AllReadyH.nil
  go_simp
  refine hK.out _ _ trivial (fun _=>?_)
  clear hK
  refine wpAnyH_ready (rs:=[9]) (by kernel_rfl) (by simp) ?_
  refine AllReadyH.cons rfl (fun K hK=>?_) AllReadyH.nil
  go_simp
  refine hK.out _ _ trivial (fun _=>?_)
  clear hK
  refine wpAnyH_ready (rs:=[10]) (by kernel_rfl) (by simp) ?_
  refine AllReadyH.cons rfl (fun K hK=>?_) AllReadyH.nil
  go_simp
  refine hK.out _ _ trivial (fun _=>?_)
  clear hK
  refine wpAnyH_done (by kernel_rfl) ?_ _
  go_wp2_with fail
  go_end0
  exact ⟨rfl,HP.out⟩
end
section
set_option maxRecDepth 100000
set_option maxHeartbeats 1000000
open Go.RowKit Go.Shelf
theorem bSize:(Tryz.prog.info? 188).map (·.size)=some 2:=by kernel_rfl
theorem bLies:liesAt Tryz.prog Tryz.prog.depth 188 (2 / Tryz.prog.cellsOf 188) 0 188 1=true:=by kernel_rfl
theorem copyCheck_used (w:World) (b:Nat) (h0:w.cell? ⟨b,0,none⟩=some (.pointer (some ⟨b,0,none⟩))) :
  Calls Tryz.prog 139 #[.pointer (some ⟨b,0,none⟩)] w fun e w'=>e=.returned (.tuple #[])∧w'=w:=by
 obtain ⟨j,hj,_⟩:=Option.map_eq_some_iff.1 bSize
 go_enter Tryz.func139,Tryz.ntmps139
 go_wp2
 rw [Lib.run_neq_ptr_same w _ Tryz.underlying186 hj]
 go_wp2
 go_end0
 exact ⟨rfl,rfl⟩
theorem copyCheck_new (w:World) (b:Nat) (h0:w.cell? ⟨b,0,none⟩=some (.pointer none)) (hsh:w.shape? b=some (188,2)) (hfz:w.frozen? ⟨b,0,none⟩=false) :
  Calls Tryz.prog 139 #[.pointer (some ⟨b,0,none⟩)] w fun e w'=>e=.returned (.tuple #[])∧w'=w.setCell ⟨b,0,none⟩ (.pointer (some ⟨b,0,none⟩)):=by
 obtain ⟨j,hj,hjs⟩:=Option.map_eq_some_iff.1 bSize
 go_enter Tryz.func139,Tryz.ntmps139
 go_wp2
 rw [Lib.run_to_unsafe w ⟨b,0,none⟩ Tryz.underlying186 Tryz.underlying274 hj (by rw [hjs]; decide) hsh (Nat.zero_lt_succ 1)]
 simp only [Result.andThen]
 rw [Oper.upon_value]
 go_wp2
 rw [run_callFunc_extern Tryz.func188 (by kernel_rfl) (by kernel_rfl) (by kernel_rfl) (e:=Extern.AbiNoEscape.same) (by kernel_rfl)]
 rw [Lib.run_noEscape]
 simp only [Result.andThen]
 rw [Oper.upon_value]
 go_wp2
 rw [Lib.run_from_unsafe w ⟨b,0,none⟩ Tryz.underlying274 Tryz.underlying186 hj hsh bLies]
 simp only [Result.andThen]
 rw [Oper.upon_value]
 go_wp2
 go_end0
 exact ⟨rfl,rfl⟩
def Bld (B b:Nat) (l:List UInt8) (w:World):Prop:=Lib.IsBuilder 188 5 B b (Lib.byteCells l) w
theorem copyCheck_any (B b:Nat) (l:List UInt8) (w:World) (h:Bld B b l w) :
  Calls Tryz.prog 139 #[.pointer (some ⟨b,0,none⟩)] w fun e w'=>e=.returned (.tuple #[])∧(Lib.BuilderAt 188 5 B b (.pointer (some ⟨b,0,none⟩)) (Lib.byteCells l) w'∧Below B w w'∧∀ k,k≠b→w'.heap[k]? = w.heap[k]?):=by
 rcases h with h | h
 ·refine (copyCheck_new w b h.cell0 h.shape h.frozen0).mono ?_
  rintro e w' ⟨rfl,rfl⟩
  exact ⟨rfl,h.used _,(Below.refl B w).setCell (p:=⟨b,0,none⟩) h.1 _,fun k hk=>Below.heap_setCell w ⟨b,0,none⟩ _ k hk⟩
 ·refine (copyCheck_used w b h.cell0).mono ?_
  rintro e w' ⟨rfl,rfl⟩
  exact ⟨rfl,h,Below.refl B _,fun _ _=>rfl⟩
theorem writeString_any (B b:Nat) (l:List UInt8) (s:ByteArray) (w:World) (h:Bld B b l w) (h0:0 < s.size) (hlen:l.length + s.size≤140737488355328) (h8:8≤B) (hBw:B≤w.heap.size) :
  Calls Tryz.prog 95 #[.pointer (some ⟨b,0,none⟩),.string s] w fun e w'=>e=.returned (.tuple #[.int .i64 s.size,.nilIface])∧Bld B b (l++s.data.toList) w'∧Below B w w'∧∀ (k:Nat) (cs:Array Value) (t:TypeId) (fz:Nat×Nat),w.heap[k]? = some (.cells cs t fz)→t≠5→k≠b→w'.heap[k]? = some (.cells cs t fz):=by
 have hsz:s.size≤140737488355328:=by omega
 have hcell:∀ l:List UInt8,(Lib.byteCells l).length=l.length:=fun l=>by simp [Lib.byteCells]
 have hfin:∀ w1,Lib.BuilderAt 188 5 B b (.pointer (some ⟨b,0,none⟩)) (Lib.byteCells l) w1→Below B w w1→(∀ k,k≠b→w1.heap[k]? = w.heap[k]?)→∃ v v' w2,w1.cell? ⟨b,1,none⟩=some v∧(Builtin.append_ #[106,9] 106 #[v,.string s]).run Tryz.prog w1=.ok v' w2∧(∃ g n c,v'=.slice (some g) n c)∧(∃ u,w2.cell? ⟨b,1,none⟩=some u)∧w2.frozen? ⟨b,1,none⟩=false∧Bld B b (l++s.data.toList) (w2.setCell ⟨b,1,none⟩ v')∧Below B w (w2.setCell ⟨b,1,none⟩ v')∧∀ (k:Nat) (cs:Array Value) (t:TypeId) (fz:Nat×Nat),w.heap[k]? = some (.cells cs t fz)→t≠5→k≠b→(w2.setCell ⟨b,1,none⟩ v').heap[k]? = some (.cells cs t fz):=by
  rintro w1 ⟨hB,v,hbk,hown,hne⟩ hBl hoth
  obtain ⟨i0,hi0,hz0,hz1,hz2⟩:=info_parts u8Info
  obtain ⟨v',w2,hr,ho,hg,_⟩:=Lib.run_append_own_string (P:=Tryz.prog) w1 B 106 9 106 5 i0 Tryz.underlying106 Tryz.underlying9 hi0 hz0 hz1 hz2 v _ _ hown s (by rw [hcell]; unfold maxLen; omega) (by rw [hcell]; omega) (Nat.le_trans hBw hBl.size)
  have hb2:w2.heap[b]? = some (.cells #[.pointer (some ⟨b,0,none⟩),v] 188 (0,0)):=(hg.block b (lt_of_some hbk) (fun e=>hne e.symm)).trans hbk
  have hcells:Lib.byteCells l++Lib.strCells s=Lib.byteCells (l++s.data.toList):=by simp [Lib.byteCells,Lib.strCells]
  have hlen':(Lib.byteCells l).length + s.size=(Lib.byteCells (l++s.data.toList)).length:=by rw [hcell,hcell,List.length_append]; rfl
  rw [hcells,hlen'] at ho
  refine ⟨v,v',w2,by simp [World.cell?,hbk],hr,?_,⟨v,by simp [World.cell?,hb2]⟩,by simp [World.frozen?,hb2],?_,?_,?_⟩
  ·obtain ⟨g, cap, h1, _⟩ := ho.form (by rw [hcell, List.length_append]; have : s.data.toList.length = s.size := by simp
                                         omega)
   exact ⟨_,_,_,h1⟩
  ·exact .inr (Lib.BuilderAt.put hB hb2 ho (by decide))
  ·refine (hBl.trans ((Below.refl B w1).grown hg (Nat.le_trans hBw hBl.size) (fun k hk=>?_))).setCell (p:=⟨b,1,none⟩) hB _
   rcases hown.2 with ⟨rfl,_⟩ | ⟨g,cap,cur,rfl,hbg,_⟩
   ·cases hk
   ·cases hk; exact hbg
  ·intro k cs t fz hk ht hkb
   refine (Below.heap_setCell w2 ⟨b,1,none⟩ v' k hkb).trans ?_
   have hk1:=(hoth k hkb).trans hk
   refine (hg.block k (lt_of_some hk1) (fun e=>?_)).trans hk1
   rcases hown.2 with ⟨rfl,_⟩ | ⟨g,cap,cur,rfl,hbg,hgb,_⟩
   ·cases e
   ·cases e
    rw [hk1] at hgb
    cases hgb
    exact ht rfl
 have HCC:=hide (copyCheck_any B b l w h)
 have HFIN:=hide hfin
 clear hfin h
 go_enter Tryz.func95,Tryz.ntmps95
 go_wp2_with fail
 refine HCC.out.mono ?_
 rintro e w1 ⟨rfl,h1,hB1,ho1⟩
 clear HCC
 obtain ⟨v,v',w2,c1,hr,⟨g,n,c,rfl⟩,⟨u,hu⟩,hz,hP⟩:=HFIN.out w1 h1 hB1 ho1
 have HP:=hide hP
 clear hP HFIN h1 hB1 ho1
 go_wp2_with (at_builtin; refine wpList_run_append _ rfl _ _ _ _ rfl _ _ _ _ rfl rfl hr ?_)
 go_ret2
 exact ⟨rfl,HP.out⟩
end
section
set_option maxRecDepth 100000
set_option maxHeartbeats 1000000
open Go.RowKit Go.Shelf
attribute [local go_sem] mt_wrN mt_wrW mt_wrL
theorem str_eq {l:List UInt8} {x:ByteArray} (h:x.data.toList=l):str l=.string x:=by
 subst h
 exact str_bytes x
theorem data_app (a b:ByteArray):(a++b).data.toList=a.data.toList++b.data.toList:=by simp
theorem data_mk (l:List UInt8):(⟨l.toArray⟩:ByteArray).data.toList=l:=by simp
theorem size_mk (l:List UInt8):(⟨l.toArray⟩:ByteArray).size=l.length:=by show l.toArray.size=_; simp
theorem ret_str {l:List UInt8} {x:ByteArray} (h:x.data.toList=l):Ending.returned (.string x)=.returned (str l):=by rw [str_eq h]
theorem thingText_any (w:World) (L:Nat→Prop) (th:Lard.Thing) (q:Nat) (key:ByteArray) (h:ThingAt w L th q) (g:G w) (hk:key.size≤200) :
  Calls Tryz.prog 60 #[ptr q,.string key] w fun e w'=>e=.returned (str (Lard.thingText key.data.toList th))∧Below w.heap.size w w':=by
 obtain ⟨v,r,k,hb,_,h200,h4,_⟩:=h
 have c0:w.cell? ⟨q,0,none⟩=some v:=by simp [World.cell?,hb]
 have c1:w.cell? ⟨q,1,none⟩=some r:=by simp [World.cell?,hb]
 have c2:w.cell? ⟨q,2,none⟩=some (.string ⟨th.came.toArray⟩):=by simp [World.cell?,hb,str]
 unfold ptr
 clear hb
 rcases h4 with ⟨h1,rfl,h3,_⟩ | ⟨t,a,h1,rfl,rfl,_⟩
 ·have hfin:Lard.thingText key.data.toList th=[112,117,116,32]++key.data.toList++32 :: Lard.wr 3 th.value:=by unfold Lard.thingText; rw [h1]
  rw [hfin]
  clear hfin
  have hl3:=wrLen3 h3
  rcases h3.forms with ⟨j,hj0,rfl,hj⟩ | ⟨d,hj0,rfl,hb⟩ | ⟨m2,l2,s2,ys2,hm2,hj0,rfl,hr2,hl2,h2,hv2⟩
  ·rw [hj0,wr_num] at hl3 ⊢
   have hz:=size_mk (Lib.itoa j)
   obtain ⟨x,hx⟩:∃ x:ByteArray,(⟨(Lib.itoa j).toArray⟩:ByteArray)=x:=⟨_,rfl⟩
   have hxd:x.data.toList=Lib.itoa j:=by rw [←hx]
   rw [hx] at hz
   have HX:=hide hx
   have HC:=hide (written_any j w g hj.1 hj.2)
   clear hx h3 hj0 h1
   go_enter Tryz.func60,Tryz.ntmps60
   go_wp2_with fail
   refine HC.out.mono ?_
   rw [HX.out]
   rintro e w2 ⟨rfl,hB2⟩
   go_wp2_with fail
   go_ret
   exact ⟨ret_str (by simp [data_app,hxd]),hB2⟩
  ·rw [hj0,wr_word] at hl3 ⊢
   have hz:=size_mk (39 :: (d.data.toList++[39]))
   obtain ⟨x,hx⟩:∃ x:ByteArray,(⟨(39 :: (d.data.toList++[39])).toArray⟩:ByteArray)=x:=⟨_,rfl⟩
   have hxd:x.data.toList=39 :: (d.data.toList++[39]):=by rw [←hx]
   rw [hx] at hz
   have HX:=hide hx
   have HC:=hide (writtenW_below d w (by omega))
   clear hx h3 hj0 h1
   go_enter Tryz.func60,Tryz.ntmps60
   go_wp2_with fail
   refine HC.out.mono ?_
   rw [HX.out]
   rintro e w2 ⟨rfl,hB2⟩
   go_wp2_with fail
   go_ret
   exact ⟨ret_str (by simp [data_app,hxd]),hB2⟩
  ·obtain rfl:m2=2:=by omega
   rw [hj0] at hl3 ⊢
   have hcall:=writtenL_any 2 (by omega) l2 s2 ys2 w g hr2 ⟨hl2,hv2⟩ h2
   have hz:=size_mk (Lard.wr 3 (Lard.vl l2))
   obtain ⟨x,hx⟩:∃ x:ByteArray,(⟨(Lard.wr 3 (Lard.vl l2)).toArray⟩:ByteArray)=x:=⟨_,rfl⟩
   have hxd:x.data.toList=Lard.wr 3 (Lard.vl l2):=by rw [←hx]
   rw [hx] at hz
   rw [show (⟨(Lard.wr (2 + 1) (Lard.vl l2)).toArray⟩:ByteArray)=x from hx] at hcall
   obtain ⟨o2,c2',rfl⟩:=hr2.len
   have HC:=hide hcall
   clear hcall h3 hv2 hr2 hx hj0 h1
   go_enter Tryz.func60,Tryz.ntmps60
   go_wp2_with fail
   refine HC.out.mono ?_
   rintro e w2 ⟨rfl,hB2⟩
   go_wp2_with fail
   go_ret
   exact ⟨ret_str (by simp [data_app,hxd]),hB2⟩
 ·have hfin:Lard.thingText key.data.toList th=[115,101,116,32]++key.data.toList++32 :: th.came:=by unfold Lard.thingText; rw [h1]
  rw [hfin]
  clear hfin
  have hz:=size_mk th.came
  obtain ⟨x,hx⟩:∃ x:ByteArray,(⟨th.came.toArray⟩:ByteArray)=x:=⟨_,rfl⟩
  have hxd:x.data.toList=th.came:=by rw [←hx]
  rw [hx] at hz c2
  clear hx h1
  go_enter Tryz.func60,Tryz.ntmps60
  go_wp2_with fail
  go_ret
  exact ⟨ret_str (by simp [data_app,hxd]),Below.refl _ _⟩
end
end Go.Proofs.YtpekpdimdelncaaGreatDoor
