/- Out of V11. -/
import Derived.Test.YtpekpdimdelncaaGreatDoorP09
import Derived.Test.YtpekpdimdelncaaGreatDoorPS2
import Derived.RangeFuncNested
import Derived.RangeFuncBound
import Derived.OwnWalkIn
import Derived.TacticsInMore
import Derived.LoopNIn
import Derived.LoopIn
import Derived.Test.YtpekpdimdelncaaGreatDoorP04
set_option maxRecDepth 100000
set_option maxHeartbeats 18000000
set_option linter.defProp false
namespace Go.Proofs.YtpekpdimdelncaaGreatDoor
open Go.RowKit Go.Shelf
section
open bY
open Tryz
attribute [local go_sem] nT nV nW nX nY nZ n_ oc oe
def drop_cons{α:Type}{l:List α}{k:Nat}{u:α}(h:l[k]?=some u):l.drop k=u :: l.drop (k+1):=by
 obtain⟨b,rfl⟩:=az.1 h;exact aR b
def yw(n:Nat):Prop :=∀(v u:V) (x y:Xa) (m:Nat) (w:QV),cT w n v x->cT w m u y ->Calls prog 200 #[x,y] w λe w'=>e=.returned (.bool (bY.same n v u))/\w'=w
def lT(n:Nat)(l m:List V):Bool:=(l.zip m).all λp=>bY.same n p.1 p.2
def wu(n)(N:yw n)(b j O P r p m w)(h1:fX w O r)(h2:fX w P p)(C:iW w n b r)(D:iW w m j p)(ad:j.length<=12):Calls prog 243 #[O,P,.func (.func 200) #[] #[]] w λe w'=>e=.returned (.bool (b.length==j.length&&lT n b j))/\w'=w:=by
 obtain⟨o1,c1,rfl⟩:=h1.len;obtain⟨o2,c2,rfl⟩:=h2.len;have Y:=C.1;have Z:=D.1;have IH:=bZ N;clear N;by_cases L:b.length=j.length
 ·have hb:(b.length==j.length)=true:=by simp[L]
  rw[hb,Qk];generalize K:lT n b j=fin;have G:=bZ K;clear K hb;have R:(r.length:Int)=(p.length:Int):=RM;go_enter func243,ntmps243;go_wp2_with fail
  go_loop [17] (λi=>∃k:Nat,k<=b.length/\i=.int .i64 k/\Hid (lT n (b.drop k) (j.drop k)=fin)) (λi=>p.length-(intOf i).toNat)
  case atStart=>exact⟨0,au _,rfl,G⟩
  case round =>
   obtain⟨k,X,rfl,y⟩:=hrel;by_cases S:k<b.length
   ·obtain⟨u1,z⟩:∃u,b[k]?=some u:=⟨_,aq S⟩;obtain⟨u2,B⟩:∃u,j[k]?=some u:=⟨_,aq RM⟩;obtain⟨T,E⟩:∃u,r[k]?=some u:=⟨_,aq RM⟩;obtain⟨U,F⟩:∃u,p[k]?=some u:=⟨_,aq RM⟩;obtain⟨b1,rfl,e1⟩:=h1.cell E;obtain⟨b2,rfl,e2⟩:=h2.cell F;have hc:=IH.Z u1 u2 T U m w (C.2 k _ _ z E) (D.2 k _ _ B F);have l:=y.Z;have M:lT n (b.drop k) (j.drop k)=(bY.same n u1 u2&&lT n (b.drop (k+1)) (j.drop (k+1))):=by
     rw[drop_cons z,drop_cons B];rfl
    rw[M]at l;obtain⟨t1,a1,rfl⟩:=(C.2 k _ _ z E).one;obtain⟨t2,V,rfl⟩:=(D.2 k _ _ B F).one;have aa:(k:Int)<(r.length:Int):=RM;have ab:(k:Int)<(p.length:Int):=RM;generalize bY.same n u1 u2=q at hc l;have J:=bZ hc;clear hc M y G C D h1 h2 z B E F;cases q with
    |true =>
     have Q:Hid (lT n (b.drop (k+1)) (j.drop (k+1))=fin):=l;clear l;go_wp2_with(go_at_call 200;refine J.Z.mono ?_;rintro e w2 ⟨rfl,rfl⟩);exact⟨⟨k+1,by omega,by go_num,Q⟩,by simp[intOf];omega⟩
    |false =>
     have I:fin=false:=l.symm;subst I;clear l;go_wp2_with(go_at_call 200;refine J.Z.mono ?_;rintro e w2 ⟨rfl,rfl⟩);go_ret;exact⟨rfl,rfl⟩
   have l:=y.Z;rw[aQ RM]at l;have I:fin=true:=l.symm;subst I;clear l y G;go_wp2_with fail;go_ret;exact⟨rfl,rfl⟩
 have hb:(b.length==j.length)=false:=by simp[L]
 rw[hb,Qz];have R:¬(r.length:Int)=(p.length:Int):=RM;go_enter func243,ntmps243;go_wp2_with fail;go_ret;exact⟨rfl,rfl⟩
def uf(n)(r:∀m,n=m+1->yw m):yw n:=by
 intro v u x y m w hx hy;rcases hx.fP with⟨i,rfl,rfl,hi⟩|⟨b,rfl,rfl,hb⟩|⟨k,l,s,ys,rfl,rfl,rfl,J,hl,L,hv⟩
 ·rcases hy.fP with⟨j,rfl,rfl,hj⟩|⟨c,rfl,rfl,hc⟩|⟨F,z,G,I,rfl,rfl,rfl,B,E,D,C⟩
  ·have p:bY.same n (vn i) (vn j)=(i==j):=Sb;rw[p];clear hx hy r p;go_enter func200,ntmps200;go_wp2_with fail;go_ret;exact⟨rfl,rfl⟩
  ·have p:bY.same n (vn i) (vw c.1.1)=false:=Sb;rw[p];clear hx hy r p;go_enter func200,ntmps200;go_wp2_with fail;go_ret;exact⟨rfl,rfl⟩
  have p:bY.same n (vn i) (vl z)=false:=Sb;rw[p];clear hx hy r p;go_enter func200,ntmps200;go_wp2_with fail;go_ret;exact⟨rfl,rfl⟩
 ·rcases hy.fP with⟨j,rfl,rfl,hj⟩|⟨c,rfl,rfl,hc⟩|⟨F,z,G,I,rfl,rfl,rfl,B,E,D,C⟩
  ·have p:bY.same n (vw b.1.1) (vn j)=false:=Sb;rw[p];clear hx hy r p;go_enter func200,ntmps200;go_wp2_with fail;go_ret;exact⟨rfl,rfl⟩
  ·have p:bY.same n (vw b.1.1) (vw c.1.1)=(b.toList==c.toList):=by
    rw[UC,UC];cases n<;>rfl
   rw[p];clear hx hy r p;go_enter func200,ntmps200;go_wp2_with fail;go_ret;exact⟨rfl,rfl⟩
  have p:bY.same n (vw b.1.1) (vl z)=false:=Sb;rw[p];clear hx hy r p;go_enter func200,ntmps200;go_wp2_with fail;go_ret;exact⟨rfl,rfl⟩
 obtain⟨o,c,rfl⟩:=J.len;rcases hy.fP with⟨j,rfl,rfl,hj⟩|⟨c2,rfl,rfl,hc⟩|⟨F,z,G,I,rfl,rfl,rfl,B,E,D,C⟩
 ·have p:bY.same (k+1) (vl l) (vn j)=false:=rfl;rw[p];clear hx hy r p;go_enter func200,ntmps200;go_wp2_with fail;go_ret;exact⟨rfl,rfl⟩
 ·have p:bY.same (k+1) (vl l) (vw c2.1.1)=false:=rfl;rw[p];clear hx hy r p;go_enter func200,ntmps200;go_wp2_with fail;go_ret;exact⟨rfl,rfl⟩
 have p:bY.same (k+1) (vl l) (vl z)=(l.length==z.length&&lT k l z):=rfl;rw[p];have hc:=wu k (r k rfl) l z _ G ys I F w J B ⟨hl,hv⟩ ⟨E,C⟩ D;obtain⟨M,c2,rfl⟩:=B.len;generalize (l.length==z.length&&lT k l z)=q at hc ⊢;have K:=bZ hc;clear hx hy r p hc hv C;go_enter func200,ntmps200;go_wp2_with(go_at_call 243;refine K.Z.mono ?_;rintro e w2 ⟨rfl,rfl⟩);go_ret;exact⟨rfl,rfl⟩
def rJ:∀n,yw n
 |0=>uf 0 (λm b=>RM)
 |n+1=>uf (n+1) (λm b=>by
  obtain rfl:n=m:=RM;exact rJ n)
def ug{v u:V}{x y:Xa}(w)(hx:cT w 3 v x)(hy:cT w 3 u y):Calls prog 308 #[.agg #[x,y]] w (PV w (.ok (bY.bit (bY.same 3 v u)))):=by
 have b:∀o,Xb w (w.alloc o):=λo=>(Uz _ _).alloc (af _) _;have hc:=λo=>rJ 3 v u x y 3 (w.alloc o) (hx.keeps (cK.below (b o))) (hy.keeps (cK.below (b o)));obtain⟨t1,a1,rfl⟩:=hx.one;obtain⟨t2,l,rfl⟩:=hy.one;have j:=bZ hc;clear hc hx hy;generalize bY.same 3 v u=q at j ⊢;cases q
 all_goals
  go_enter func308,ntmps308;go_wp2_with fail;refine(j.Z _).mono ?_;rintro e w2⟨rfl,rfl⟩;go_wp2_with(go_at_call 317;refine(rI _ _).mono ?_;rintro e w2 ⟨rfl,rfl⟩);go_ret;exact PV.num (b _) rfl RZ RZ
end
section
open Tryz
def M8:∃c:Array Xa,(∀w:QV,(storeCells ⟨w.1.size,0,none⟩ ((((((((((zeroCells371.toList).set 43 (.func (.func 303) #[] #[])).set 45 (.func (.func 304) #[] #[])).set 42 (.func (.func 305) #[] #[])).set 47 (.func (.func 306) #[] #[])).set 60 (.func (.func 307) #[] #[])).set 61 (.func (.func 308) #[] #[])).set 109 (.func (.func 309) #[] #[])).set 120 (.func (.func 310) #[] #[])).set 64 (.func (.func 311) #[] #[]))).run prog (w.alloc (.cells zeroCells371 371))=.ok () (w.alloc (.cells c 371)))/\c[43]?=some (.func (.func 303) #[] #[])/\c[45]?=some (.func (.func 304) #[] #[])/\c[42]?=some (.func (.func 305) #[] #[])/\c[47]?=some (.func (.func 306) #[] #[])/\c[60]?=some (.func (.func 307) #[] #[])/\c[61]?=some (.func (.func 308) #[] #[])/\c[109]?=some (.func (.func 309) #[] #[])/\c[120]?=some (.func (.func 310) #[] #[])/\c[64]?=some (.func (.func 311) #[] #[]):=by
 refine⟨(((((((((zeroCells371).setIfInBounds 43 (.func (.func 303) #[] #[])).setIfInBounds 45 (.func (.func 304) #[] #[])).setIfInBounds 42 (.func (.func 305) #[] #[])).setIfInBounds 47 (.func (.func 306) #[] #[])).setIfInBounds 60 (.func (.func 307) #[] #[])).setIfInBounds 61 (.func (.func 308) #[] #[])).setIfInBounds 109 (.func (.func 309) #[] #[])).setIfInBounds 120 (.func (.func 310) #[] #[])).setIfInBounds 64 (.func (.func 311) #[] #[]),λw=>?_,by kernel_rfl,by kernel_rfl,by kernel_rfl,by kernel_rfl,by kernel_rfl,by kernel_rfl,by kernel_rfl,by kernel_rfl,by kernel_rfl⟩;have h:=run_storeCells_new (P:=prog) w 371 zeroCells371 ((((((((((zeroCells371).setIfInBounds 43 (.func (.func 303) #[] #[])).setIfInBounds 45 (.func (.func 304) #[] #[])).setIfInBounds 42 (.func (.func 305) #[] #[])).setIfInBounds 47 (.func (.func 306) #[] #[])).setIfInBounds 60 (.func (.func 307) #[] #[])).setIfInBounds 61 (.func (.func 308) #[] #[])).setIfInBounds 109 (.func (.func 309) #[] #[])).setIfInBounds 120 (.func (.func 310) #[] #[])).setIfInBounds 64 (.func (.func 311) #[] #[])) RO RO RO
 have hl:((((((((((zeroCells371).setIfInBounds 43 (.func (.func 303) #[] #[])).setIfInBounds 45 (.func (.func 304) #[] #[])).setIfInBounds 42 (.func (.func 305) #[] #[])).setIfInBounds 47 (.func (.func 306) #[] #[])).setIfInBounds 60 (.func (.func 307) #[] #[])).setIfInBounds 61 (.func (.func 308) #[] #[])).setIfInBounds 109 (.func (.func 309) #[] #[])).setIfInBounds 120 (.func (.func 310) #[] #[])).setIfInBounds 64 (.func (.func 311) #[] #[])).toList=(((((((((zeroCells371.toList).set 43 (.func (.func 303) #[] #[])).set 45 (.func (.func 304) #[] #[])).set 42 (.func (.func 305) #[] #[])).set 47 (.func (.func 306) #[] #[])).set 60 (.func (.func 307) #[] #[])).set 61 (.func (.func 308) #[] #[])).set 109 (.func (.func 309) #[] #[])).set 120 (.func (.func 310) #[] #[])).set 64 (.func (.func 311) #[] #[]):=RO;rw[hl]at h;exact h
def uh(op:Nat)(r:op=43\/op=45\/op=42\/op=47\/op=60\/op=61\/op=109\/op=120\/op=64){v u:bY.V}{x y:Xa}(w)(hx:cT w 3 v x)(hy:cT w 3 u y):Calls prog 281 #[.int .u8 op,x,y] w (PV w (bY.make op v u)):=by
 obtain⟨c,z,j⟩:=M8;have z:=z w;obtain⟨fn,E,p,hc⟩:∃fn:Nat,((op=43/\fn=303)\/(op=45/\fn=304)\/(op=42/\fn=305)\/(op=47/\fn=306)\/(op=60/\fn=307)\/(op=61/\fn=308)\/(op=109/\fn=309)\/(op=120/\fn=310)\/(op=64/\fn=311))/\c[op]?=some (.func (.func fn) #[] #[])/\∀w',cK w w'->Calls prog fn #[.agg #[x,y]] w' (PV w' (bY.make op v u)):=by
  rcases r with rfl|rfl|rfl|rfl|rfl|rfl|rfl|rfl|rfl
  ·exact⟨303,by decide,j.1,λw' b=>G5 w' (hx.keeps b) (hy.keeps b)⟩
  ·exact⟨304,by decide,j.2.1,λw' b=>ET w' (hx.keeps b) (hy.keeps b)⟩
  ·exact⟨305,by decide,j.2.2.1,λw' b=>EU w' (hx.keeps b) (hy.keeps b)⟩
  ·exact⟨306,by decide,j.2.2.2.1,λw' b=>GS w' (hx.keeps b) (hy.keeps b)⟩
  ·exact⟨307,by decide,j.2.2.2.2.1,λw' b=>GW w' (hx.keeps b) (hy.keeps b)⟩
  ·exact⟨308,by decide,j.2.2.2.2.2.1,λw' b=>ug w' (hx.keeps b) (hy.keeps b)⟩
  ·exact⟨309,by decide,j.2.2.2.2.2.2.1,λw' b=>EV w' (hx.keeps b) (hy.keeps b)⟩
  ·exact⟨310,by decide,j.2.2.2.2.2.2.2.1,λw' b=>GR w' (hx.keeps b) (hy.keeps b)⟩
  exact⟨311,by decide,j.2.2.2.2.2.2.2.2,λw' b=>M7 w' (hx.keeps b) (hy.keeps b)⟩
 have hcell:(w.alloc (.cells c 371)).cell? ⟨w.1.size,op,none⟩=some (.func (.func fn) #[] #[]):=by
  rw[cell_of_row _ _ op c 371 (0,0) (heap_alloc_last w _)];exact p
 have l:Xb w (w.alloc (.cells c 371)):=(Uz _ _).alloc (af _) _;obtain⟨t1,a1,rfl⟩:=hx.one;obtain⟨t2,G,rfl⟩:=hy.one;have m:=bZ hc;generalize bY.make op v u=res at m ⊢;clear hc p r;rcases E with⟨rfl,rfl⟩|⟨rfl,rfl⟩|⟨rfl,rfl⟩|⟨rfl,rfl⟩|⟨rfl,rfl⟩|⟨rfl,rfl⟩|⟨rfl,rfl⟩|⟨rfl,rfl⟩|⟨rfl,rfl⟩
 all_goals
  go_enter func281,ntmps281;go_wp2_with fail;refine(m.Z _ (cK.below l)).mono ?_;rintro e w2⟨C,F,D⟩;have n:=l.trans (C.mono l.size);cases res with
  |error c =>
   obtain rfl:=D c rfl;exact⟨rfl,PV.err n⟩
  |ok v =>
   obtain⟨y,rfl,hval⟩:=F v rfl;obtain⟨t3,I,rfl⟩:=hval.one;have B:=bZ hval;go_wp2_with fail;go_ret;exact PV.ok n B.Z
end
section
open bY
open Tryz
variable{v:Xa}{xs:List Xa}
def DF:(prog.info? 9).map (λi=>(i.zero,i.size,i.bytes))=some (some (.string ⟨#[]⟩),1,16):=RO
def qH{a b:ba}(h:a.1.1=b.1.1):a=b:=by
 cases a;cases b;simp at h;simp[h]
def ld{w w':QV}{b n size:Nat}{e:TypeId}(h:w.ownsRow b e size v n xs)(r:Xb w w'):w'.ownsRow b e size v n xs:=by
 refine⟨h.1,?_⟩;rcases h.2 with h'|⟨g,l,m,h1,h2,j,p⟩
 ·exact .inl h'
 exact .inr ⟨g,l,m,h1,h2,(r.block g (cj j)).trans j,p⟩
def M9{w:QV}{b n size g c:Nat}{e:TypeId}(h:w.ownsRow b e size (.slice (some ⟨g,0,none⟩) n c) n xs):g<w.1.size:=by
 rcases h.2 with⟨h',_⟩|⟨g',l,m,h1,h2,j,p⟩
 ·cases h'
 cases h1;exact cj j
def lu:Nat->Nat
 |0=>32
 |n+1=>12*(lu n+1)+32
def iC{B:Nat}:∀l,(∀x∈l,x.length<=B)->(cJ l).length<=l.length*(B+1)
 |[],_=>by simp[cJ]
 |[a],h=>by have:=h a R2;simp[cJ];omega
 |a :: b :: r,h=>by
  have h1:=h a R2;have h2:=iC (b :: r) (λx hx=>h x SW);simp only[cJ,aj,aM]at h2 ⊢;rw[QO,QX];rw[QO,QX]at h2;rw[QO,QX];omega
def sD:∀l,Lib.join l [44]=cJ l
 |[]=>rfl
 |[a]=>Lib.join_one a [44]
 |a :: b :: r=>by
  rw[Lib.join_cons,cJ,<-sD (b :: r),Lib.join_cons];simp[Lib.joinTail]
def rK(n i):bY.wr n (vn i)=Lib.itoa i:=Sb
def pA(n b):bY.wr n (vw b)=39 :: (b++[39]):=Sb
def DG(n l):bY.wr (n+1) (vl l)=123 :: (cJ (l.map (bY.wr n))++[125]):=rfl
def cT.ui{w:QV}:∀{n:Nat} {v:V} {x:Xa},cT w n v x->(bY.wr n v).length<=lu n:=by
 intro n
 induction n with
 |zero =>
  intro v x h;rcases h with⟨i,rfl,_,e,h1⟩|⟨b,rfl,_,h⟩
  ·rw[rK];have:=Lib.itoa_length_le i e h1;simp[lu];omega
  rw[pA];simp[lu];omega
 |succ n m =>
  intro v x h;rcases h with(⟨i,rfl,_,e,h1⟩|⟨b,rfl,_,h⟩)|⟨l,s,ys,rfl,_,_,hl,j,hv⟩
  ·rw[rK];have:=Lib.itoa_length_le i e h1;simp[lu];omega
  ·rw[pA];simp[lu];omega
  rw[DG];have hc:=iC (B:=lu n) _ (λx hx=>by
   obtain⟨u,hu,rfl⟩:=aH.1 hx;obtain⟨i,hi,rfl⟩:=QW hu;exact m (hv i _ _ (aq hi) (aq RM)))
  have h2:l.length*(lu n+1)<=12*(lu n+1):=Qo _ j;simp only[aG]at hc;simp only[lu,aM,aj,P6];omega
def qI(b w)(hb:b.size<=1000):Calls prog 336 #[.string b] w λe w'=>e=.returned (.string ⟨(39 :: (b.1.1++[39])).toArray⟩)/\w'=w:=by
 go_enter func336,ntmps336;go_wp2;go_ret;exact⟨congrArg (λs=>Ending.returned (.string s)) (qH R2),rfl⟩
def yx(a w) : (method 499 219 a "Written").run prog w = .ok (171, a) w := by kernel_rfl
def yz(a w) : (method 499 215 a "Written").run prog w = .ok (336, a) w := by kernel_rfl
def yA(a w) : (method 499 248 a "Written").run prog w = .ok (339, a) w := by kernel_rfl
attribute [local go_sem] yx yz yA
def Ce(n:Nat):Prop :=∀(l:List V) (s:Xa) (ys:List Xa) (w:QV),G w->fX w s ys->iW w n l ys->l.length<=12 ->Calls prog 339 #[s] w λe w'=>e=.returned (.string ⟨(bY.wr (n+1) (vl l)).toArray⟩)/\Xb w w'
def pQ(n)(hn:n<=3)(ih:∀m,n=m+1->Ce m):Ce n:=by
 intro l s ys w g U hv aa;obtain⟨o,c,rfl⟩:=U.len;have hl:=hv.1;obtain⟨i0,ak,a3,a4,a5⟩:=UJ DF;have Z:=bZ ih;have L:=bZ hv;rw[DG];generalize aC:cJ _=res;have K:=bZ aC;go_enter func339,ntmps339;go_wp2_with(at_make;refine wpList_make_full _ rfl _ _ _ rfl _ 9 i0 _ 1 underlying40 ak a3 a4 _ _ _ _ _ rfl rfl rfl rfl (by rw[a5];omega) R6 (af _) ?_;intro w1 ay ai);have ab:=(Uz _ _).grown ai (af _) (λk S=>by cases S)
 go_loopw [11] (λi wr=>∃(k:Nat) (xs:List Xa),k<=ys.length/\i=.int .i64 k/\Xb w wr/\wr.ownsRow w.1.size 9 1 (.slice (some ⟨w.1.size,0,none⟩) ys.length ys.length) ys.length xs/\Hid (∀j,j<k->xs[j]?=(l[j]?).map λu=>Value.string ⟨(bY.wr n u).toArray⟩)) (λi _=>ys.length-(intOf i).toNat)
 case atStart=>exact⟨0,_,au _,rfl,ab,ay,λj hj=>by omega⟩
 case round =>
  obtain⟨k,xs,S,rfl,C,D,M⟩:=hrel;have N:=g.below C g.size;by_cases av:k<ys.length
  ·obtain⟨y,hy⟩:∃u,ys[k]?=some u:=⟨_,aq av⟩;obtain⟨u,hu⟩:∃u,l[k]?=some u:=⟨_,aq RM⟩;have a0:=U.keeps (cK.below C);obtain⟨b,rfl,hc⟩:=a0.cell hy;have hval:=(L.Z.2 k u y hu hy).keeps (cK.below C);obtain⟨z,hz⟩:∃z,xs[k]?=some z:=⟨_,aq (by have:=D.1;omega)⟩;have after:∀w2,Below _ _ w2->w2.cell? ⟨w.1.size,k,none⟩=some z/\w2.frozen? ⟨w.1.size,k,none⟩=false:=λw2 r=>by
    have T:=ld D r;exact⟨(T.cellAt k RM).trans hz,T.frozenAt k⟩
   have fin:∀(w2:QV) (v:Xa),Below _ _ w2->v=.string ⟨(bY.wr n u).toArray⟩->∃(k':Nat) (xs':List Xa),k'<=ys.length/\Value.int .i64 ((k:Int)+1)=.int .i64 (k':Int)/\Xb w (w2.setCell ⟨w.1.size,k,none⟩ v)/\(w2.setCell ⟨w.1.size,k,none⟩ v).ownsRow w.1.size 9 1 (.slice (some ⟨w.1.size,0,none⟩) ys.length ys.length) ys.length xs'/\Hid (∀j,j<k'->xs'[j]?=(l[j]?).map λu=>Value.string ⟨(bY.wr n u).toArray⟩):=λw2 v r hv=>by
    refine⟨k+1,xs.set k v,by omega,by go_num,(C.trans (r.mono C.size)).setCell (p:=⟨w.1.size,k,none⟩) (af _) _,((ld D r).stored k v).1,λj hj=>?_⟩;by_cases R:j=k
    ·subst R;rw[P4 (by have:=D.1;omega),hu,hv];rfl
    rw[Qt (λh=>R h.symm)];exact M.Z j RM
   have G:=bZ after;have I:=bZ fin;rcases hval.fP with⟨j,rfl,rfl,hj⟩|⟨d,rfl,rfl,hb⟩|⟨m2,l2,s2,a6,ax,rfl,rfl,V,ao,h2,a2⟩
   ·clear hval;go_wp2_with fail;refine(iA j _ N hj.1 hj.2).mono ?_;rintro e w2⟨rfl,r⟩;obtain⟨O,Q⟩:=G.Z w2 r;have E:=bZ (I.Z w2 _ r (by rw[rK]));go_wp2_with fail;exact⟨E.Z,by simp[intOf];omega⟩
   ·clear hval;go_wp2_with fail;refine(qI d _ RM).mono ?_;rintro e w2⟨rfl,rfl⟩;obtain⟨O,Q⟩:=G.Z _ (Uz _ _);have E:=bZ (I.Z _ _ (Uz _ _) (by rw[pA]));go_wp2_with fail;exact⟨E.Z,by simp[intOf];omega⟩
   subst ax;have hI:=Z.Z m2 rfl l2 s2 a6 _ N V ⟨ao,a2⟩ h2;obtain⟨o2,c2,rfl⟩:=V.len;have Y:=bZ hI;go_wp2_with fail;refine Y.Z.mono ?_;rintro e w2⟨rfl,r⟩;obtain⟨O,Q⟩:=G.Z w2 r;have E:=bZ (I.Z w2 _ r rfl);go_wp2_with fail;exact⟨E.Z,by simp[intOf];omega⟩
  have hX:∀(j:Nat) (x:ba),(l.map λu=>(⟨(bY.wr n u).toArray⟩:ba))[j]?=some x->xs[j]?=some (.string x):=λj x hj=>by
   rw[P2]at hj;cases F:l[j]? with
   |none=>rw[F]at hj;cases hj
   |some u =>
    rw[F]at hj;obtain⟨J,_⟩:=az.1 F;rw[M.Z j RM,F];cases hj;rfl
  have ap:((l.map λu=>(⟨(bY.wr n u).toArray⟩:ba)).map (·.1.1))=l.map (bY.wr n):=by
   rw[P8];congr 1
  have J:(Lib.join ((l.map λu=>(⟨(bY.wr n u).toArray⟩:ba)).map (·.1.1)) [44])=cJ (l.map (bY.wr n)):=by
   rw[ap,sD]
  have ad:(cJ (l.map (bY.wr n))).length<=1000000:=by
   have hc:=iC (B:=lu n) (l.map (bY.wr n)) (λx hx=>by
    obtain⟨u,hu,rfl⟩:=aH.1 hx;obtain⟨i,hi,rfl⟩:=QW hu;exact(L.Z.2 i _ _ (aq hi) (aq RM)).ui)
   have h2:l.length*(lu n+1)<=12*(lu n+1):=Qo _ aa;have h3:lu n<=70000:=by
    obtain rfl|rfl|rfl|rfl:n=0\/n=1\/n=2\/n=3:=RM
    all_goals decide
   simp only[aG]at hc;omega
  have P:=strings_Join w.1.size 0 ys.length (l.map λu=>(⟨(bY.wr n u).toArray⟩:ba)) ⟨#[44]⟩ _ (λj x hj=>by
    have a7:j<l.length:=by
     obtain⟨h,_⟩:=az.1 hj;simpa using h
    rw[aI,D.cellAt j RM];exact hX j x hj) (M9 D) R5 R5 (by rw[show(⟨#[44]⟩:ba).1.1=[44]from rfl,J];omega)
  rw[show(⟨#[44]⟩:ba).1.1=[44]from rfl,J,aG,hl,K.Z]at P;rw[K.Z]at ad;have X:=bZ P;have am:k=ys.length:=RM;subst am;go_wp2_with fail;refine X.Z.mono ?_;rintro e w2⟨rfl,r⟩;go_wp2_with fail;go_ret;exact⟨congrArg (λs=>Ending.returned (.string s)) (qH R2),C.trans (r.mono C.size)⟩
def kQ:∀n,n<=3->Ce n
 |0,h=>pQ 0 h (λm b=>by omega)
 |n+1,h=>pQ (n+1) h (λm b=>by
  obtain rfl:n=m:=RM;exact kQ n RM)
end
section
open bY
open Tryz
variable{r:Except Nat V}{x:Xa}
attribute [local go_sem] yx yz yA
def g_(w:QV)(r:Except Nat V)(x:Xa):Prop :=(∃v y,r=.ok v/\x=.agg #[.int .i64 0,y]/\cT w 3 v y)\/(∃c:Nat,r=.error c/\x=.agg #[.int .i64 (c:Int),.nilIface]/\0<c/\c<=12)
def g_.keeps{w w':QV}(h:g_ w r x)(e:cK w w'):g_ w' r x:=by
 rcases h with⟨v,y,h1,h2,b⟩|h
 ·exact .inl ⟨v,y,h1,h2,b.keeps e⟩
 exact .inr h
def g_.form{w:QV}(h:g_ w r x):∃c y,x=.agg #[.int .i64 c,y]/\(y=.nilIface\/∃t a,y=.iface t a):=by
 rcases h with⟨v,y,h1,rfl,b⟩|⟨c,_,rfl,_⟩
 ·exact⟨_,_,rfl,.inr b.one⟩
 exact⟨_,_,rfl,.inl rfl⟩
def p_(w)(h:g_ w r x):Calls prog 276 #[x] w (PV w r):=by
 have e:∀o,Xb w (w.alloc o):=λo=>(Uz _ _).alloc (af _) _;rcases h with⟨v,y,rfl,rfl,b⟩|⟨c,rfl,rfl,l,h1⟩
 ·obtain⟨t,a,rfl⟩:=b.one;have j:=bZ b;clear b;go_enter func276,ntmps276;go_wp2;go_ret;exact PV.ok (e _) (j.Z.keeps (cK.below (e _)))
 have m:((c:Int) != 0)=true:=Sm;go_enter func276,ntmps276;go_wp2;exact⟨rfl,PV.err (e _)⟩
def lx(b w)(hb:b.size<=1000):Calls prog 336 #[.string b] w λe w'=>e=.returned (.string ⟨(39 :: (b.1.1++[39])).toArray⟩)/\Xb w w' :=(qI b w hb).mono λ_ _ h=>⟨h.1,h.2▸Uz _ _⟩
def dw:Except Nat V->Xa
 |.ok v=>.agg #[.int .i64 0,.string ⟨(wr 3 v).toArray⟩]
 |.error c=>.agg #[.int .i64 (c:Int),.string ⟨#[]⟩]
def qa(w)(g:G w)(h:g_ w r x):Calls prog 50 #[x] w λe w'=>e=.returned (dw r)/\Xb w w':=by
 have m:∀o,Xb w (w.alloc o):=λo=>(Uz _ _).alloc (af _) _;rcases h with⟨v,y,rfl,rfl,z⟩|⟨c,rfl,rfl,L,h1⟩
 ·rcases z.fP with⟨j,rfl,rfl,hj⟩|⟨d,rfl,rfl,hb⟩|⟨I,F,J,K,M,rfl,rfl,n,E,h2,C⟩
  ·have D:∀o o',G ((w.alloc o).alloc o'):=λo o'=>g.below ((m o).alloc R2 o') g.size;go_enter func50,ntmps50;go_wp2_with fail;refine(iA j _ (D _ _) hj.1 hj.2).mono ?_;rintro e w2⟨rfl,b⟩;obtain⟨hc,hf⟩:=nQ b;have hz:w.1.size+1<w2.1.size:=SU;have l:Xb w w2:=((m _).alloc R2 _).trans (b.mono R5);go_wp2_with fail;exact UA (v:=dw _) (by simp[results,results50,go_sem,hc,dw,rK]) rfl ⟨rfl,(l.setCell (p:=⟨w.1.size+1,0,none⟩) (aJ _ _) _).setCell (p:=⟨w.1.size+1,1,none⟩) (aJ _ _) _⟩
  ·go_enter func50,ntmps50;go_wp2_with fail;refine(lx d _ RM).mono ?_;rintro e w2⟨rfl,b⟩;obtain⟨hc,hf⟩:=nQ b;have hz:w.1.size+1<w2.1.size:=SU;have l:Xb w w2:=((m _).alloc R2 _).trans (b.mono R5);go_wp2_with fail;exact UA (v:=dw _) (by simp[results,results50,go_sem,hc,dw,pA]) rfl ⟨rfl,(l.setCell (p:=⟨w.1.size+1,0,none⟩) (aJ _ _) _).setCell (p:=⟨w.1.size+1,1,none⟩) (aJ _ _) _⟩
  obtain rfl:I=2:=RM;have B:=λ(w':QV) (l:Xb w w')=>kQ 2 RM F J K w' (g.below l g.size) (n.keeps (cK.below l)) (iW.keeps ⟨E,C⟩ (cK.below l)) h2;obtain⟨O,c2,rfl⟩:=n.len;have u:=bZ B;clear B z C n;go_enter func50,ntmps50;go_wp2_with fail;refine(u.Z _ ((m _).alloc R2 _)).mono ?_;rintro e w2⟨rfl,b⟩;clear u;obtain⟨hc,hf⟩:=nQ b;have hz:w.1.size+1<w2.1.size:=SU;have l:Xb w w2:=((m _).alloc R2 _).trans (b.mono R5);go_wp2_with fail;exact UA (v:=dw _) (by simp[results,results50,go_sem,hc,dw]) rfl ⟨rfl,(l.setCell (p:=⟨w.1.size+1,0,none⟩) (aJ _ _) _).setCell (p:=⟨w.1.size+1,1,none⟩) (aJ _ _) _⟩
 have N:((c:Int) != 0)=true:=Sm;go_enter func50,ntmps50;go_wp2;exact UA (v:=dw _) (by simp[results,results50,go_sem,dw]) rfl ⟨rfl,(m _).alloc R2 _⟩
def MK:Except Nat V->Except Nat V->Bool
 |.ok v,.ok u=>bY.same 3 v u
 |.error c,.error d=>c==d
 |_,_=>false
def Cf{q:Except Nat V}{y:Xa}(w)(hx:g_ w r x)(hy:g_ w q y):Calls prog 159 #[x,y] w λe w'=>e=.returned (.bool (MK r q))/\Xb w w':=by
 have p:∀o,Xb w (w.alloc o):=λo=>(Uz _ _).alloc (af _) _;have j:∀o o',Xb w ((w.alloc o).alloc o'):=λo o'=>(p o).alloc R2 o';rcases hx with⟨v,G,rfl,rfl,h1⟩|⟨c,rfl,rfl,E,F⟩
 ·obtain⟨t1,a1,rfl⟩:=h1.one;rcases hy with⟨u,D,rfl,rfl,h2⟩|⟨d,rfl,rfl,z,B⟩
  ·obtain⟨t2,n,rfl⟩:=h2.one;have hc:=λ(w':QV) (m:Xb w w')=>rJ 3 v u _ _ 3 w' (h1.keeps (cK.below m)) (h2.keeps (cK.below m));have l:=bZ hc;show Calls _ _ _ _ (λe w'=>e=.returned (.bool (bY.same 3 v u))/\_);generalize bY.same 3 v u=b at l ⊢;clear hc h1 h2;go_enter func159,ntmps159;go_wp2_with fail;refine(l.Z _ (j _ _)).mono ?_;rintro e w2⟨rfl,rfl⟩;go_wp2_with fail;go_ret;exact⟨rfl,j _ _⟩
  have C:((d:Int) != 0)=true:=Sm;have hz:((0:Int)==(d:Int))=false:=R7;show Calls _ _ _ _ (λe w'=>e=.returned (.bool false)/\_);go_enter func159,ntmps159;go_wp2_with fail;go_ret;exact⟨rfl,j _ _⟩
 have C:((c:Int) != 0)=true:=Sm;rcases hy with⟨u,D,rfl,rfl,h2⟩|⟨d,rfl,rfl,z,B⟩
 ·obtain⟨t2,n,rfl⟩:=h2.one;have hz:((c:Int)==(0:Int))=false:=R7;show Calls _ _ _ _ (λe w'=>e=.returned (.bool false)/\_);go_enter func159,ntmps159;go_wp2_with fail;go_ret;exact⟨rfl,j _ _⟩
 have hz:((c:Int)==(d:Int))=(c==d):=by
  by_cases h:c=d
  ·subst h;simp
  have h':¬(c:Int)=(d:Int):=RM;rw[aw.2 h,aw.2 h']
 show Calls _ _ _ _ (λe w'=>e=.returned (.bool (c==d))/\_);rw[<-hz];clear hz;go_enter func159,ntmps159;go_wp2_with fail;go_ret;exact⟨rfl,j _ _⟩
end
section
open Tryz
variable{b:Nat}
def PW(Φ:Except Nat bY.V->QV->Prop)(e:Ending)(w':QV):Prop :=∃r,Φ r w'/\((∃v y,r=.ok v/\e=.returned y/\cT w' 3 v y)\/(∃c:Nat,r=.error c/\e=gE c/\0<c/\c<=12))
def da{w w':QV}(h:w.grownBy w' (some b))(o v):w.grownBy (w'.setCell ⟨b,o,none⟩ v) (some b) :=⟨h.os,h.tape,h.output,by simp[World.setCell];exact h.size,λk l j=>by
  rw[<-h.block k l j];have m:b≠k:=λe=>j SA;simp[World.setCell,Qj,m]⟩
def kz{w w':QV}(h:w.grownBy w' (some b))(hb:∀cs t fz,w.1[b]?=some (.cells cs t fz)->¬Kx t):cK w w':=λk cs t fz j l =>
 (h.block k (cj j) (λe=>by cases e;exact hb cs t fz j l)).trans j
theorem Ac(j w):CallsD prog 244 #[.pointer (some j)] .returning w λe u' w'=>e=.returned (.tuple #[])/\u'=.returning/\w'=w:=by
 refine callsD_of_wpS func244 rfl λm cs hu=>?_;apply wpS_seq;apply wpS_region;simp[wpOpsS,go_sem,recoverD,hu,ntmps244,Exit.thenS];refine wpS_of_wp ?_;have l:(#[Value.pointer (some j)]++((Array.replicate 13 undef).setIfInBounds 4 Value.nilIface).setIfInBounds 0 Value.nilIface)=#[Value.pointer (some j),Value.nilIface,undef,undef,undef,Value.nilIface,undef,undef,undef,undef,undef,undef,undef,undef]:=rfl;rw[l];clear l;go_wp2_with fail;cases m
 simp_all [bodyPostS,results,results244]
def yG(b c:Nat)(w v1 n)(m:w.cell? ⟨b,0,none⟩=some (.int .i64 v1))(c1:w.cell? ⟨b,1,none⟩=some n)(z0:w.frozen? ⟨b,0,none⟩=false)(u:w.frozen? ⟨b,1,none⟩=false):CallsD prog 244 #[.pointer (some ⟨b,0,none⟩)] (.panicking [{ v:=.iface 324 (.int .i64 c),recovered:=false }]) w λe u' w' =>
   e=.returned (.tuple #[])/\u'=.panicking [{ v:=.iface 324 (.int .i64 c),recovered:=true }]/\w'.cell? ⟨b,0,none⟩=some (.int .i64 c)/\w'.cell? ⟨b,1,none⟩=some .nilIface/\w.grownBy w' (some b):=by
 have r:∀(a:Xa) (w:QV),(Instr.typeAssert (.iface 324 a) 20 324 true).run prog w=.ok (.tuple #[a,.bool true]) w:=λ_ _=>by kernel_rfl
 refine callsD_of_wpS func244 rfl λp cs hu=>?_;apply wpS_seq;apply wpS_region;simp[wpOpsS,go_sem,recoverD,hu,ntmps244,Exit.thenS];refine wpS_of_wp ?_;generalize hv:Value.iface 324 (.int .i64 (c:Int))=j;have l:(#[Value.pointer (some ⟨b,0,none⟩)]++((Array.replicate 13 undef).setIfInBounds 4 j).setIfInBounds 0 j)=#[Value.pointer (some ⟨b,0,none⟩),j,undef,undef,undef,j,undef,undef,undef,undef,undef,undef,undef,undef]:=rfl;rw[l];clear l;subst hv;go_wp2_with fail;refine⟨rfl,_,rfl,.tuple #[],by simp[results,results244],rfl,rfl,?_,?_,?_⟩
 ·simp[go_sem,m]
 ·simp[go_sem,c1]
 exact da (da (UD _ _) _ _) _ _
def sF(w)(b c:Nat)(j R)(t1:j[2]?.getD undef=.pointer (some ⟨b,0,none⟩))(v1 l)(m:w.cell? ⟨b,0,none⟩=some (.int .i64 v1))(c1:w.cell? ⟨b,1,none⟩=some l)(z0:w.frozen? ⟨b,0,none⟩=false)(r:w.frozen? ⟨b,1,none⟩=false)(n:∀w',w.grownBy w' (some b)->R (.returned (.agg #[.int .i64 c,.nilIface])) w'):Leaves prog f201 j R [{ target:=Target.fn (Fn.func 244) #[.pointer (some ⟨b,0,none⟩)],args:=#[] }] (.panicking [{ v:=.iface 324 (.int .i64 c),recovered:=false }]) w:=by
 refine leaves_cons (f:=244) (args:=#[.pointer (some ⟨b,0,none⟩)]) R2 Sj ?_;refine(yG b c w v1 l m c1 z0 r).mono ?_;rintro e u' w'⟨rfl,rfl,d0,d1,p⟩;refine⟨.agg #[.int .i64 (c:Int),.nilIface],?_,n w' p⟩;simp[results,results201,go_sem,t1,d0,d1]
def xh(w b y j R)(t1:j[2]?.getD undef=.pointer (some ⟨b,0,none⟩))(l:w.cell? ⟨b,0,none⟩=some (.int .i64 0))(c1:w.cell? ⟨b,1,none⟩=some y)(m:R (.returned (.agg #[.int .i64 0,y])) w):Leaves prog f201 j R [{ target:=Target.fn (Fn.func 244) #[.pointer (some ⟨b,0,none⟩)],args:=#[] }] .returning w:=by
 refine leaves_cons (f:=244) (args:=#[.pointer (some ⟨b,0,none⟩)]) R2 Sj ?_;refine(Ac _ w).mono ?_;rintro e u' w'⟨rfl,rfl,rfl⟩;refine⟨.agg #[.int .i64 0,y],?_,m⟩;simp[results,results201,go_sem,t1,l,c1]
def uy(F:Nat)(hF:F=202\/F=277)(z w Φ)(u:Calls prog F z (w.alloc (.cells #[.int .i64 0,.nilIface] 113)) λe w'=>w'.1[w.1.size]?=some (.cells #[.int .i64 0,.nilIface] 113 (0,0))/\PW Φ e w'):Calls prog 201 #[.func (.func F) #[] z] w λe w'=>∃r x w2,e=.returned x/\Φ r w2/\w2.grownBy w' (some w.1.size)/\g_ w' r x:=by
 have H:=bZ u;clear u;rcases hF with rfl|rfl
 all_goals
  go_enter_defers func201,ntmps201
  go_wp2_with fail;refine H.Z.mono ?_;rintro e w2⟨j,r,m,⟨v,y,rfl,rfl,hval⟩|⟨c,rfl,rfl,B,C⟩⟩
 all_goals
  have E:w.1.size<w2.1.size:=cj j;have d0:w2.cell? ⟨w.1.size,0,none⟩=some (.int .i64 0):=by simp[World.cell?,j]
  have d1:w2.cell? ⟨w.1.size,1,none⟩=some .nilIface:=by simp[World.cell?,j]
  have z0:w2.frozen? ⟨w.1.size,0,none⟩=false:=by simp[World.frozen?,j]
  have D:w2.frozen? ⟨w.1.size,1,none⟩=false:=by simp[World.frozen?,j]
  clear H
 ·obtain⟨t,a,rfl⟩:=hval.one;have p:=bZ hval;have n:=bZ j;clear hval j;go_wp2_with fail;have l:=da (da (UD w2 (some w.1.size)) 0 (.int .i64 0)) 1 (.iface t a);refine xh _ w.1.size (.iface t a) _ _ rfl (by simp[go_sem,d0]) (by simp[go_sem,d1]) ⟨.ok v,_,w2,rfl,m,l,.inl ⟨v,_,rfl,rfl,p.Z.keeps (kz l λcs t fz h=>?_)⟩⟩;rw[n.Z]at h;cases h;rintro(h|h|h)<;>cases h
 ·exact sF w2 w.1.size c _ _ rfl 0 .nilIface d0 d1 z0 D λw' l=>⟨.error c,_,w2,rfl,m,l,.inr ⟨c,rfl,rfl,B,C⟩⟩
 ·obtain⟨t,a,rfl⟩:=hval.one;have p:=bZ hval;have n:=bZ j;clear hval j;go_wp2_with fail;have l:=da (da (UD w2 (some w.1.size)) 0 (.int .i64 0)) 1 (.iface t a);refine xh _ w.1.size (.iface t a) _ _ rfl (by simp[go_sem,d0]) (by simp[go_sem,d1]) ⟨.ok v,_,w2,rfl,m,l,.inl ⟨v,_,rfl,rfl,p.Z.keeps (kz l λcs t fz h=>?_)⟩⟩;rw[n.Z]at h;cases h;rintro(h|h|h)<;>cases h
 exact sF w2 w.1.size c _ _ rfl 0 .nilIface d0 d1 z0 D λw' l=>⟨.error c,_,w2,rfl,m,l,.inr ⟨c,rfl,rfl,B,C⟩⟩
end
section
open Tryz
def dO(w:QV)(e:Nat)(b y tc ti:Xa)(f:Nat)(wc wi:Xa):Prop :=w.1[e]?=some (.cells #[b,y,tc,ti,.int .i64 (f:Int),wc,wi] 291 (0,0))
def qN(b l f z tc ti wc wi I w)(Φ:Except Nat bY.V->QV->Prop)(p:dO w b z (.func (.yield l) #[] #[]) tc ti f wc wi)(hy:YieldAt Fence.wide 0 prog l #[.string I] w λe w'=>e=.returned (.bool true)/\∃r c i,g_ w' r (.agg #[c,i])/\dO w' b z (.func (.yield l) #[] #[]) c i f wc wi/\Φ r w'):Calls prog 246 #[.pointer (some ⟨b,0,none⟩),.string I] w (PW λr w'=>∃w2,Φ r w2/\Xb w2 w'):=by
 refine(callsIn_wide (n:=0)).1 ?_;have c1:w.cell? ⟨b,1,none⟩=some (.func (.yield l) #[] #[]):=by rw[dO]at p;simp[World.cell?,p]
 obtain⟨fn,Q,assign,body,P,C⟩:=hy;refine callsIn_of_wp func246 rfl trivial ?_;simp only[ntmps246,Rb,aM,P6,Nat.reduceAdd,Nat.reduceSub,Array.replicate_succ,Array.replicate_zero,List.push_toArray,List.append_toArray,Qv,Qs]
 gi_wp2_with fail
 refine⟨rfl,C.mono ?_⟩;rintro e w1⟨rfl,r,c,i,m,j,G⟩;have d2:w1.cell? ⟨b,2,none⟩=some c:=by rw[dO]at j;simp[World.cell?,j]
 have d3:w1.cell? ⟨b,3,none⟩=some i:=by rw[dO]at j;simp[World.cell?,j]
 have hc:=p_ w1 m;have F:∀c,r=.error c->0<c/\c<=12:=λK L=>by
  subst L;rcases m with⟨v,y,h,_⟩|⟨c2,h,_,h1,h2⟩
  ·cases h
  cases h;exact⟨h1,h2⟩
 have N:(∃ci,c=.int .i64 ci)/\(i=.nilIface\/∃t a,i=.iface t a):=by
  obtain⟨K,y',M,O⟩:=m.form;cases M;exact⟨⟨_,rfl⟩,O⟩
 obtain⟨⟨ci,rfl⟩,hi⟩:=N;have u:=bZ hc;clear hc m p C P j c1;rcases hi with rfl|⟨t,a,rfl⟩
 all_goals
  gi_wp2_with fail
  refine⟨trivial,rfl,(callsIn_wide.2 u.Z).mono ?_⟩;rintro e w2⟨B,E,D⟩;cases r with
  |error e =>
   obtain rfl:=D e rfl;exact⟨rfl,.error e,⟨w1,G,B⟩,.inr ⟨e,rfl,rfl,(F e rfl).1,(F e rfl).2⟩⟩
  |ok v =>
   obtain⟨y,rfl,hval⟩:=E v rfl;obtain⟨t',a',rfl⟩:=hval.one;have J:=bZ hval;clear hval E D u
   gi_wp2_with fail
   go_ret;exact⟨.ok v,⟨w1,G,B⟩,.inl ⟨v,_,rfl,rfl,J.Z⟩⟩
end
section
open Tryz
def Hm(t:TypeId):Prop:=Kx t\/t=113\/t=242
structure Fm(base:Nat)(w w':QV):Prop where
 eh:Below base w w'
 rQ:∀(k:Nat) (cs:Array Xa) (t:TypeId) (fz:Nat×Nat),w.1[k]?=some (.cells cs t fz)->Hm t->w'.1[k]?=some (.cells cs t fz)
def Fm.refl(b w):Fm b w w:=⟨Uz _ _,λ_ _ _ _ h _=>h⟩
def Fm.trans{e:Nat}{a b c:QV}(h:Fm e a b)(h':Fm e b c):Fm e a c:=⟨h.eh.trans h'.eh,λk cs t fz l j=>h'.rQ k cs t fz (h.rQ k cs t fz l j) j⟩
def Fm.below{b:Nat}{w w':QV}(h:Xb w w')(hb:b<=w.1.size):Fm b w w' :=⟨h.mono hb,λk _ _ _ e _=>(h.block k (cj e)).trans e⟩
def Fm.keeps{b:Nat}{w w':QV}(h:Fm b w w'):cK w w':=λk cs t fz e j=>h.rQ k cs t fz e (.inl j)
theorem Fm.size{b:Nat}{w w':QV}(h:Fm b w w'):w.1.size<=w'.1.size:=h.eh.size
def Fm.g{b:Nat}{w w':QV}(h:Fm b w w')(g:G w)(hb:8<=b):G w':=g.below h.eh hb
def Fm.grown{l b:Nat}{w w':QV}(h:w.grownBy w' (some b))(hb:l<=b)(m:l<=w.1.size)(n:∀cs t fz,w.1[b]?=some (.cells cs t fz)->¬Hm t):Fm l w w' :=⟨(Uz l w).grown h m (λk j=>by cases j;exact hb),λk cs t fz j hi=>(h.block k (cj j) (λe=>by cases e;exact n cs t fz j hi)).trans j⟩
structure eH(w w':QV):Prop where
 val:∀n v x,cT w n v x->cT w' n v x
 node:∀(k:Nat) (cs:Array Xa) (t:TypeId) (fz:Nat×Nat),w.1[k]?=some (.cells cs t fz)->t=263\/t=121->w'.1[k]?=some (.cells cs t fz)
def cK.stay{w w':QV}(h:cK w w'):eH w w':=⟨λ_ _ _ hx=>hx.keeps h,λk cs t fz b e=>h k cs t fz b (.inr e)⟩
structure Env where
 σ:Type
 N:a_->σ->Except Nat bY.V×σ
 kO:σ->Nat
 J:(Nat->Prop)->σ->QV->Prop
 rb:Nat
 l:Nat
 base:Nat
 dc:Xa
 wc:Xa
 wi:Xa
def Env.Y(E:Env):Xa:=.func (.yield E.l) #[] #[]
structure gh(E:Env):Prop where
 Ad:∀F s w w',E.J F s w->w.1.size<=w'.1.size->(∀k,F k->w'.1[k]?=w.1[k]?)->eH w w'->E.J F s w'
 Gt:∀F s w k,E.J F s w->F k->k<w.1.size/\k≠E.rb
 Nc:∀key s,E.kO (E.N key s).2<=E.kO s+1
 Ae:8<=E.base
 gj:E.base<=E.rb
 yields:∀(key:ba) F s w f tc ti,E.J F s w->dO w E.rb E.dc E.Y tc ti f E.wc E.wi->G w->key.size<=200->E.kO s+f<400 ->YieldAt Fence.wide 0 prog E.l #[.string key] w λe w'=>e=.returned (.bool true)/\∃c i F',g_ w' (E.N key.1.1 s).1 (.agg #[c,i])/\dO w' E.rb E.dc E.Y c i f E.wc E.wi/\E.J F' (E.N key.1.1 s).2 w'/\(∀k,F' k->F k\/w.1.size<=k)/\Fm E.base w w'
structure St(E:Env)(F:Nat->Prop)(st:Nat×E.σ)(w:QV):Prop where
 run:∃tc ti,dO w E.rb E.dc E.Y tc ti st.1 E.wc E.wi
 inv:E.J F st.2 w
 g:G w
 le:E.kO st.2+st.1<=400
def St.lt{E:Env}{F:Nat->Prop}{st:Nat×E.σ}{w:QV}(h:St E F st w):E.rb<w.1.size:=by
 obtain⟨tc,ti,h⟩:=h.run;exact cj h
def St.below{E:Env}(ok:gh E){F:Nat->Prop}{st:Nat×E.σ}{w w':QV}(h:St E F st w)(b:Xb w w'):St E F st w':=by
 obtain⟨tc,ti,j⟩:=h.run;exact⟨⟨tc,ti,(b.block _ h.lt).trans j⟩,ok.Ad _ _ _ _ h.inv b.size (λk e=>b.block k (ok.Gt _ _ _ _ h.inv e).1) (cK.below b).stay,h.g.below b h.g.size,h.le⟩
def St.grown{E:Env}(ok:gh E){F:Nat->Prop}{st:Nat×E.σ}{w w':QV}(h:St E F st w){b:Nat}(j:w.grownBy w' (some b))(hb:E.rb≠b)(hF:¬F b)(m:8<=b)(p:eH w w'):St E F st w':=by
 obtain⟨tc,ti,n⟩:=h.run;refine⟨⟨tc,ti,(j.block _ h.lt (λe=>hb Sv)).trans n⟩,ok.Ad _ _ _ _ h.inv j.size (λk l=>j.block k (ok.Gt _ _ _ _ h.inv l).1 (λe=>by cases e;exact hF l)) p,?_,h.le⟩;exact h.g.below (B:=8) ((Uz 8 w).grown j h.g.size (λk l=>by cases l;exact m)) (af _)
def Ψ(E:Env)(F:Nat->Prop)(w:QV)(q:Except Nat bY.V×(Nat×E.σ))(r:Except Nat bY.V)(w':QV):Prop :=r=q.1/\∃F',St E F' q.2 w'/\(∀k,F' k->F k\/w.1.size<=k)/\Fm E.base w w'
def Cm(E F s w)(h:St E F (0,s) w):Calls prog 245 #[.pointer (some ⟨E.rb,0,none⟩)] w λe w'=>e=gE 11/\w'=w:=by
 obtain⟨tc,ti,b⟩:=h.run;have j:w.cell? ⟨E.rb,4,none⟩=some (.int .i64 0):=by rw[dO]at b;simp[World.cell?,b]
 generalize E.rb=rb at j;go_enter func245,ntmps245;go_wp2;exact⟨rfl,rfl,rfl⟩
def uz(E)(ok:gh E)(F f s w)(h:St E F (f,s) w)(r:0<f):Calls prog 245 #[.pointer (some ⟨E.rb,0,none⟩)] w λe w'=>e=.returned (.tuple #[])/\St E F (f-1,s) w'/\Fm E.base w w'/\w'.1.size=w.1.size:=by
 have u:E.kO s+f<=400:=h.le;obtain⟨tc,ti,b⟩:=h.run;have p:w.cell? ⟨E.rb,4,none⟩=some (.int .i64 (f:Int)):=by rw[dO]at b;simp[World.cell?,b]
 have z4:w.frozen? ⟨E.rb,4,none⟩=false:=by rw[dO]at b;simp[World.frozen?,b]
 have fin:∀w',w'=w.setCell ⟨E.rb,4,none⟩ (.int .i64 ((f:Int)-1))->St E F (f-1,s) w'/\Fm E.base w w'/\w'.1.size=w.1.size:=by
  rintro w' rfl;have j:=da (UD w (some E.rb)) 4 (.int .i64 ((f:Int)-1));have n:=Fm.grown j ok.gj (aE (Rz ok.gj h.lt)) (λcs t fz h=>by
    rw[dO]at b;rw[b]at h;cases h;rintro((h|h|h)|h|h)<;>cases h)
  refine⟨⟨⟨tc,ti,?_⟩,?_,?_,by show E.kO s+(f-1)<=400;omega⟩,?_,by simp[World.setCell]⟩
  ·rw[dO]at b ⊢;simp[World.setCell,Qj,b];omega
  ·exact ok.Ad _ _ _ _ h.inv j.size (λk l=>j.block k (ok.Gt _ _ _ _ h.inv l).1 (λe=>(ok.Gt _ _ _ _ h.inv l).2 Sv)) n.keeps.stay
  ·exact h.g.below (B:=8) ((Uz 8 w).grown j h.g.size (λk l=>by cases l;exact ah ok.Ae ok.gj)) (af _)
  exact n
 have m:=bZ fin;generalize E.rb=rb at p z4 m;go_enter func245,ntmps245;go_wp2
 go_end0
 exact⟨rfl,m.Z _ rfl⟩
end
