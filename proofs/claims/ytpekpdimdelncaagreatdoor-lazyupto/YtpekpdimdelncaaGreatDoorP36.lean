/- Out of C10b. -/
import Derived.Test.YtpekpdimdelncaaGreatDoorP35
import Derived.ProofKit
import Derived.Deep.DeepWitnessRowRef
import Derived.Lib.TrailingZeros
import Derived.Stop.LaidErr
import Derived.LaidMore
import Derived.Deep.Matrix
import Derived.Test.YtpekpdimdelncaaGreatDoorRows
set_option linter.unusedVariables false
set_option maxRecDepth 100000
set_option linter.defProp false
namespace Go.Proofs.YtpekpdimdelncaaGreatDoor
open Go.ChangeShapes Go.WideShapes Go.ChangeAt Go.RowKit Go.ChangeMaps Go.Deep
section
namespace lazy
variable{v:Xb}
def own:ownKnob Tryz.prog.godebug=none:=S8
def QJ : Tryz.prog.globalNamed "math/bits.deBruijn64tab" = some 7 := by kernel_rfl
def QK : Tryz.prog.globalNamed "internal/strconv.uint64pow10" = some 1 := by kernel_rfl
def QL : Tryz.prog.globalNamed "strconv.ErrRange" = some 5 := by kernel_rfl
def QM : Tryz.prog.globalNamed "strconv.ErrSyntax" = some 4 := by kernel_rfl
def QN:(Tryz.prog.globals[1]?).map (·.type)=some 340:=S8
def QO:(Tryz.prog.globals[5]?).map (·.type)=some 190:=S8
def QP:(Tryz.prog.globals[4]?).map (·.type)=some 190:=S8
def Lu:Tryz.prog.cellsOf 9=1:=S8
def Lv:Tryz.prog.cellsOf 374=1:=S8
def Pp:Tryz.prog.cellsOf 228=1:=S8
def Pq:Tryz.prog.cellsOf 5=1:=S8
def NU:Tryz.prog.cellsOf 376=64:=S8
def t64:(Tryz.prog.globals[7]?).map (·.type)=some 376:=S8
def Pr:Tryz.prog.cellsOf 340=20:=S8
def NV:laidOutB Tryz.prog=true:=S8
def star : "*" ++ "errors.errorString" = "*errors.errorString" := by decide
def row(u : TypeId)(h : Tryz.prog.typeName? 3 u = some "*errors.errorString") : u = 372 :=
 typeName_ptr_named (nm := "errors.errorString") (by rw [star]; kernel_rfl) (by kernel_rfl) (by decide) u (by rw [star]; exact h)
def Qh:List Int:=Lib.deBruijn64tab.map Int.ofNat
def globals{W:Xa}(h:laidMetH Tryz.prog Rows.lazyUptoRow.laid W):G W/\jY W:=by
 rw[MakeChecks.laidMetH_plain _ _ _ S8]at h;have h1:=h.tail;have h2:=h1.tail;have m:=h2.tail;have j:=m.tail;have n:=j.tail;have r:=Lib.tabIs_of_head (zs:=Lib.pow10Tab) QK QN Tryz.underlying340 Tryz.underlying228 Pp Pr h2;have p:=Lib.tabIs_of_head (zs:=Qh) QJ t64 Tryz.underlying376 Tryz.underlying5 Pq NU h1;obtain⟨B,L,u,_⟩:=laid_sentinel j QL QO Tryz.underlying190 row Tryz.underlying372 Tryz.underlying374 rfl rfl Tryz.underlying9 Lv Lu;obtain⟨C,M,y,_⟩:=laid_sentinel n QM QP Tryz.underlying190 row Tryz.underlying372 Tryz.underlying374 rfl rfl Tryz.underlying9 Lv Lu;have z:8<=W.1.size:=by
  obtain⟨J,⟨E,t0,D,f0,I,K,l,F,e,_⟩,_⟩:=h1;obtain rfl:=aB (QJ.symm.trans l);unfold World.var? at e;rw[l]at e;rcases Ro 7 W.1.size with b|b
  ·exact b
  simp[R9 b]at e
 exact⟨⟨z,r,⟨_,_,y⟩,⟨_,_,u⟩⟩,p.cell QJ 15 S4⟩
def yZ{W:Xa}{b o:Nat}(h:W.cell? ⟨b,o,none⟩=some v):b<W.1.size:=by
 rcases Ro b W.1.size with e|e
 ·exact e
 simp[World.cell?,R9 e]at h
def Cj{H:Type}{d:DataW H}:∀{l:List (DataW H)},d∈l->Rows.uptoBulk d<=Rows.uptoBulkAll l
 |[],h=>by cases h
 |x::r,h=>by
  rw[Rows.uptoBulkAll];rcases aK.1 h with rfl|h
  ·omega
  have:=Cj h;omega
def Ck{H:Type}:∀{l:List (DataW H)},(∀d∈l,6<=Rows.uptoBulk d)->6*l.length<=Rows.uptoBulkAll l
 |[],_=>by simp
 |x::r,h=>by
  rw[Rows.uptoBulkAll];have h1:=h x S5;have h2:=Ck (l:=r) λd hd=>h d (by simp[hd]);simp only[aM];omega
def Lw{H:Type}{x:DataW H}{b:Nat}{K A B:Nat->Int}{S T:Nat->ba}{D:Nat->DataW H}{sp:List (DataW H)}(hx:x=.slice ((List.range b).map D) sp\/b=0)
  (j:∀i,i<b->D i=.agg [.lit (.int .i64 (K i)),.lit (.int .i64 (A i)),.lit (.int .i64 (B i)),.lit (.string (S i).1.1),.lit (.string (T i).1.1)]) (l:Rows.uptoBulkAll [x]<=1048576) :
  b<=174762/\∀i,i<b->(S i).size<=1048576/\(T i).size<=1048576:=by
 rcases hx with rfl|rfl
 ·simp only[Rows.uptoBulkAll,Rows.uptoBulk]at l;have e:∀i,i<b->Rows.uptoBulk (D i)=(S i).size+(T i).size+6:=λi hi=>by
   rw[j i hi];simp only[Rows.uptoBulkAll,Rows.uptoBulk,Array.length_toList,ByteArray.size_data];omega
  have h1:=Ck (l:=(List.range b).map D) (λd hd=>by
   obtain⟨i,hi,rfl⟩:=aE.1 hd;rw[e i (SW.1 hi)];omega)
  simp only[aH,List.length_range]at h1;refine⟨by omega,λi hi=>?_⟩;have h2:=Cj (l:=(List.range b).map D) (aE.2 ⟨i,SW.2 hi,rfl⟩);rw[e i hi]at h2;omega
 exact⟨by omega,λi hi=>by omega⟩
def contract(H:Type)(enc:TypeId×Xb->H)(W:Xa)(base:Nat)(args:Array Xb)(b y:List (DataW H))(before:List MemPlace)
  (hval:∀(j:Nat) t v,Tryz.f8.params[j]?=some t->args[j]?=some v->Value.okWide Tryz.prog W .any base t v)
  (G:DataW.Whole enc Tryz.prog Tryz.f8.params.toList Rows.lazySpec.vars false W args.toList b y before) (hk:Rows.uptoBulkAll (b++y)<=1048576) (F:laidMetH Tryz.prog Rows.lazyUptoRow.laid W) :
  Calls Tryz.prog 8 args W λe n=>∃v,e=.returned v/\Rows.lazySpec.post enc Tryz.prog Tryz.f8 false true false false W args v n:=by
 have l:=G;obtain⟨p,q,E,Z,rfl,am,ap⟩:=G;have C:DataW.TrodAll enc Tryz.prog W 0 (λ_=>true) true Tryz.f8.params.toList args.toList b p:=E;rw[Tryz.params8]at C hval;obtain⟨v0,d0,rfl,rfl,z⟩:=trodAll_one C;obtain⟨rfl,rfl⟩:=trodVars_none Z;obtain⟨o,ad,N,rfl⟩:=okWide_slice Tryz.underlying24 (hval 0 24 v0 rfl rfl);have X:=z;obtain⟨ak,hf⟩:=z;clear E;simp only[RD]at l;have J:∀x∈p,x.block<W.1.size:=λx hx=>l.lt x TN;obtain⟨o',av,ai,K,A,B,S,T,D,sp,I,hv,hx,Y⟩:=jU.Lt hf;simp[Value.cells]at I;obtain⟨rfl,rfl,rfl⟩:=I;have m:=Lw hx Y hk;refine(jU.Ls W (globals F).1 (globals F).2 o ad N K A B S T (λi hi=>by
  obtain⟨L,M,O,r,P,Q,R,U,V⟩:=hv i hi;exact⟨L,M,O,yZ r,r,P,Q,R,U,V,by have:=(m.2 i hi).1;omega,by have:=(m.2 i hi).2;omega⟩) (by have:=m.1;omega)).mono λe n aa=>?_
 obtain⟨he,u⟩:=aa;subst he;refine⟨_,rfl,_,_,_,[],p,[],l,?_,?_,?_,u.frame _,λh=>by cases h⟩
 ·exact trodAll_cons_mk (shut_bool Tryz.underlying4 _) trodAll_mk0
 ·exact trodAll_mk1 (WideElems.Trod_stays NV S8 (of_decide_eq_true S8) X (λx hx=>u.same (J x hx)) (λx hx=>by simpa using J x hx))
 rfl
def firstCells:Array Xb:=(Go.Pinned.utf8FirstZ.map λ(n:Nat)=>Value.int .u8 (Int.ofNat n)).toArray
def Ak(w:Xa):Xa:={w with heap:=w.1.setIfInBounds 2 (.cells firstCells 353 (0,0))}
def Ly(os:Os):laidMet Tryz.prog Rows.lazyUptoRow.laid ((Ak (World.doorLaid Tryz.prog 72 os)).forCall (λ_ _=>0) ⟨#[],#[.slice none 0 0],[]⟩).memory :=laidMet_of_run' 8 S8 S8
def reads(os:Os){H:Type}(enc:TypeId×Xb->H):∃places,DataW.whole enc Tryz.prog ((Ak (World.doorLaid Tryz.prog 72 os)).forCall (λ_ _=>0) ⟨#[],#[.slice none 0 0],[]⟩).memory Tryz.f8.params.toList Rows.lazySpec.vars false #[Value.slice none 0 0].toList 8=some ([.nil],[],places) :=⟨[],by kernel_rfl⟩
def lifted(os:Os)(p:os.Started)(H:Type)(enc:TypeId×Xb->H)(F:Stop.Interp):ReturnsInHanded {} Tryz.checked os 8 .any ((Rows.OpenSpec.upto Rows.lazySpec).preRow enc Tryz.prog Tryz.f8 Rows.lazyUptoRow.domain false Rows.lazyUptoRow.laid) (((Rows.OpenSpec.upto Rows.lazySpec).at F).post enc Tryz.prog Tryz.f8 false true false false):=by
 obtain⟨places,hx⟩:=reads os enc;refine returnsInHanded_of_row (C:=Tryz.checked) (s:=Rows.OpenSpec.upto Rows.lazySpec) own p S8 Tryz.func8
  (witness_row_atRef (enc:=enc) (C:=Tryz.checked) false (Ak (World.doorLaid Tryz.prog 72 os)) #[.slice none 0 0] rfl S8 S8 S8
   (OpenSpec.preRow_of_cond 8 hx S8 (λk b=>by cases b;rfl) S8 (Ly os))) ?_
 intro W e args j l before hval n _ b _ m _ _;exact contract H enc W e args j l before hval n (of_decide_eq_true (b _ rfl)) m
end lazy
end
