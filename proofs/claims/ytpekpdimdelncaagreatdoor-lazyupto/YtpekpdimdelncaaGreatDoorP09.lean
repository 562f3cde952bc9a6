/- Out of V11. -/
import Derived.Test.YtpekpdimdelncaaGreatDoorP05
import Derived.Test.YtpekpdimdelncaaGreatDoorPS2
import Derived.RangeFuncNested
import Derived.RangeFuncBound
import Derived.OwnWalkIn
import Derived.TacticsInMore
import Derived.LoopNIn
import Derived.LoopIn
set_option linter.unusedVariables false
set_option maxRecDepth 100000
set_option maxHeartbeats 18000000
set_option linter.defProp false
namespace Go.Proofs.YtpekpdimdelncaaGreatDoor
open Go.RowKit Go.Shelf
section
open bY
open Tryz
attribute [local go_sem] ov ow oz oC oD oE oG oH oJ
def drop_cons{α:Type}{l:List α}{k:Nat}{u:α}(h:l[k]?=some u):l.drop k=u::l.drop (k+1):=by
 obtain⟨b,rfl⟩:=aA.1 h
 simp_all
def za(n:Nat):Prop :=∀(v u:V) (x y:Xb) (m:Nat) (w:Xa),cZ w n v x->cZ w m u y ->Calls prog 200 #[x,y] w λe b=>e=.returned (.bool (bY.same n v u))/\b=w
def ml(n:Nat)(l m:List V):Bool:=(l.zip m).all λp=>bY.same n p.1 p.2
def xe(n)(Q:za n)(b j R S r p m w)(h1:gm w R r)(h2:gm w S p)(E:jg w n b r)(F:jg w m j p)(ak:j.length<=12):Calls prog 243 #[R,S,.func (.func 200) #[] #[]] w λe Y=>e=.returned (.bool (b.length==j.length&&ml n b j))/\Y=w:=by
 obtain⟨o1,c1,rfl⟩:=h1.len;obtain⟨o2,c2,rfl⟩:=h2.len;have aa:=E.1;have ab:=F.1;have U:=bZ Q;clear Q;by_cases O:b.length=j.length
 ·have B:(b.length==j.length)=true:=by simp[O]
  rw[B,Ru];generalize N:ml n b j=z;have J:=bZ N;clear N B;have V:(r.length:Int)=(p.length:Int):=R5;go_enter func243,ntmps243;go_wp2_with fail
  go_loop [17] (λi=>∃k:Nat,k<=b.length/\i=.int .i64 k/\Hid (ml n (b.drop k) (j.drop k)=z)) (λi=>p.length-(intOf i).toNat)
  case atStart=>exact⟨0,ar _,rfl,J⟩
  case round =>
   obtain⟨k,hk,rfl,y⟩:=hrel;by_cases X:k<b.length
   ·obtain⟨u1,C⟩:∃u,b[k]?=some u:=⟨_,aq X⟩;obtain⟨u2,D⟩:∃u,j[k]?=some u:=⟨_,aq R5⟩;obtain⟨Z,G⟩:∃u,r[k]?=some u:=⟨_,aq R5⟩;obtain⟨y2,I⟩:∃u,p[k]?=some u:=⟨_,aq R5⟩;obtain⟨b1,rfl,e1⟩:=h1.cell G;obtain⟨b2,rfl,e2⟩:=h2.cell I;have L:=U.Z u1 u2 Z y2 m w (E.2 k _ _ C G) (F.2 k _ _ D I);have l:=y.Z;have P:ml n (b.drop k) (j.drop k)=(bY.same n u1 u2&&ml n (b.drop (k+1)) (j.drop (k+1))):=by
     rw[drop_cons C,drop_cons D];rfl
    rw[P]at l;obtain⟨t1,a1,rfl⟩:=(E.2 k _ _ C G).one;obtain⟨t2,a2,rfl⟩:=(F.2 k _ _ D I).one;have ad:(k:Int)<(r.length:Int):=R5;have ai:(k:Int)<(p.length:Int):=R5;generalize bY.same n u1 u2=q at L l;have M:=bZ L;clear L P y J E F h1 h2 C D G I;cases q with
    |true =>
     have T:Hid (ml n (b.drop (k+1)) (j.drop (k+1))=z):=l;clear l;go_wp2_with(go_at_call 200;refine M.Z.mono ?_;rintro e w2 ⟨rfl,rfl⟩);exact⟨⟨k+1,by omega,by go_num,T⟩,by simp[intOf];omega⟩
    |false =>
     have K:z=false:=l.symm;subst K;clear l;go_wp2_with(go_at_call 200;refine dL M.Z ?_);go_ret;exact⟨rfl,rfl⟩
   have l:=y.Z;rw[aT R5]at l;have K:z=true:=l.symm;subst K;clear l y J;go_wp2;go_ret;exact⟨rfl,rfl⟩
 have B:(b.length==j.length)=false:=by simp[O]
 rw[B,RS];have V:¬(r.length:Int)=(p.length:Int):=R5;go_enter func243,ntmps243;go_wp2;go_ret;exact⟨rfl,rfl⟩
def uM(n)(r:∀m,n=m+1->za m):za n:=by
 intro v u x y m w hx p;rcases hx.fY with⟨i,rfl,rfl,hi⟩|⟨b,rfl,rfl,S⟩|⟨k,l,s,Q,rfl,rfl,rfl,M,P,R,N⟩
 ·rcases p.fY with⟨j,rfl,rfl,L⟩|⟨c,rfl,rfl,B⟩|⟨G,z,I,J,rfl,rfl,rfl,C,F,E,D⟩
  ·have e:bY.same n (vn i) (vn j)=(i==j):=Tp;rw[e];clear hx p r e;go_enter func200,ntmps200;go_wp2;go_ret;exact⟨rfl,rfl⟩
  ·have e:bY.same n (vn i) (vw c.1.1)=false:=Tp;rw[e];clear hx p r e;go_enter func200,ntmps200;go_wp2;go_ret;exact⟨rfl,rfl⟩
  have e:bY.same n (vn i) (vl z)=false:=Tp;rw[e];clear hx p r e;go_enter func200,ntmps200;go_wp2;go_ret;exact⟨rfl,rfl⟩
 ·rcases p.fY with⟨j,rfl,rfl,L⟩|⟨c,rfl,rfl,B⟩|⟨G,z,I,J,rfl,rfl,rfl,C,F,E,D⟩
  ·have e:bY.same n (vw b.1.1) (vn j)=false:=Tp;rw[e];clear hx p r e;go_enter func200,ntmps200;go_wp2;go_ret;exact⟨rfl,rfl⟩
  ·have e:bY.same n (vw b.1.1) (vw c.1.1)=(b.toList==c.toList):=by
    rw[VP,VP];cases n<;>rfl
   rw[e];clear hx p r e;go_enter func200,ntmps200;go_wp2;go_ret;exact⟨rfl,rfl⟩
  have e:bY.same n (vw b.1.1) (vl z)=false:=Tp;rw[e];clear hx p r e;go_enter func200,ntmps200;go_wp2;go_ret;exact⟨rfl,rfl⟩
 obtain⟨o,c,rfl⟩:=M.len;rcases p.fY with⟨j,rfl,rfl,L⟩|⟨K,rfl,rfl,B⟩|⟨G,z,I,J,rfl,rfl,rfl,C,F,E,D⟩
 ·have e:bY.same (k+1) (vl l) (vn j)=false:=rfl;rw[e];clear hx p r e;go_enter func200,ntmps200;go_wp2;go_ret;exact⟨rfl,rfl⟩
 ·have e:bY.same (k+1) (vl l) (vw K.1.1)=false:=rfl;rw[e];clear hx p r e;go_enter func200,ntmps200;go_wp2;go_ret;exact⟨rfl,rfl⟩
 have e:bY.same (k+1) (vl l) (vl z)=(l.length==z.length&&ml k l z):=rfl;rw[e];have B:=xe k (r k rfl) l z _ I Q J G w M C ⟨P,N⟩ ⟨F,D⟩ E;obtain⟨T,K,rfl⟩:=C.len;generalize (l.length==z.length&&ml k l z)=q at B ⊢;have O:=bZ B;clear hx p r e B N D;go_enter func200,ntmps200;go_wp2_with(go_at_call 243;refine dL O.Z ?_);go_ret;exact⟨rfl,rfl⟩
def rZ:∀n,za n
 |0=>uM 0 (λm b=>R5)
 |n+1=>uM (n+1) (λm b=>by
  obtain rfl:n=m:=R5;exact rZ n)
def uN{v u:V}{x y:Xb}(w)(hx:cZ w 3 v x)(j:cZ w 3 u y):Calls prog 308 #[.agg #[x,y]] w (PV w (.ok (bY.bit (bY.same 3 v u)))):=by
 have b:∀o,Xc w (w.alloc o):=λo=>(VM _ _).alloc (af _) _;have m:=λo=>rZ 3 v u x y 3 (w.alloc o) (hx.keeps (cT.below (b o))) (j.keeps (cT.below (b o)));obtain⟨t1,n,rfl⟩:=hx.one;obtain⟨t2,p,rfl⟩:=j.one;have l:=bZ m;clear m hx j;generalize bY.same 3 v u=q at l ⊢;cases q
 all_goals
  go_enter func308,ntmps308;go_wp2_with fail;refine(l.Z _).mono ?_;rintro e r⟨rfl,rfl⟩;go_wp2_with(go_at_call 317;refine dL (rY _ _) ?_);go_ret;exact PV.num (b _) rfl S4 S4
end
section
open Tryz
def Ol:∃c:Array Xb,(∀w:Xa,(storeCells ⟨w.1.size,0,none⟩ ((((((((((zeroCells371.toList).set 43 (.func (.func 303) #[] #[])).set 45 (.func (.func 304) #[] #[])).set 42 (.func (.func 305) #[] #[])).set 47 (.func (.func 306) #[] #[])).set 60 (.func (.func 307) #[] #[])).set 61 (.func (.func 308) #[] #[])).set 109 (.func (.func 309) #[] #[])).set 120 (.func (.func 310) #[] #[])).set 64 (.func (.func 311) #[] #[]))).run prog (w.alloc (.cells zeroCells371 371))=.ok () (w.alloc (.cells c 371)))/\c[43]?=some (.func (.func 303) #[] #[])/\c[45]?=some (.func (.func 304) #[] #[])/\c[42]?=some (.func (.func 305) #[] #[])/\c[47]?=some (.func (.func 306) #[] #[])/\c[60]?=some (.func (.func 307) #[] #[])/\c[61]?=some (.func (.func 308) #[] #[])/\c[109]?=some (.func (.func 309) #[] #[])/\c[120]?=some (.func (.func 310) #[] #[])/\c[64]?=some (.func (.func 311) #[] #[]):=by
 refine⟨(((((((((zeroCells371).setIfInBounds 43 (.func (.func 303) #[] #[])).setIfInBounds 45 (.func (.func 304) #[] #[])).setIfInBounds 42 (.func (.func 305) #[] #[])).setIfInBounds 47 (.func (.func 306) #[] #[])).setIfInBounds 60 (.func (.func 307) #[] #[])).setIfInBounds 61 (.func (.func 308) #[] #[])).setIfInBounds 109 (.func (.func 309) #[] #[])).setIfInBounds 120 (.func (.func 310) #[] #[])).setIfInBounds 64 (.func (.func 311) #[] #[]),λw=>?_,by kernel_rfl,by kernel_rfl,by kernel_rfl,by kernel_rfl,by kernel_rfl,by kernel_rfl,by kernel_rfl,by kernel_rfl,by kernel_rfl⟩;have h:=run_storeCells_new (P:=prog) w 371 zeroCells371 ((((((((((zeroCells371).setIfInBounds 43 (.func (.func 303) #[] #[])).setIfInBounds 45 (.func (.func 304) #[] #[])).setIfInBounds 42 (.func (.func 305) #[] #[])).setIfInBounds 47 (.func (.func 306) #[] #[])).setIfInBounds 60 (.func (.func 307) #[] #[])).setIfInBounds 61 (.func (.func 308) #[] #[])).setIfInBounds 109 (.func (.func 309) #[] #[])).setIfInBounds 120 (.func (.func 310) #[] #[])).setIfInBounds 64 (.func (.func 311) #[] #[])) S8 S8 S8
 simp_all
def uO(op:Nat)(D:op=43\/op=45\/op=42\/op=47\/op=60\/op=61\/op=109\/op=120\/op=64){v u:bY.V}{x y:Xb}(w)(hx:cZ w 3 v x)(m:cZ w 3 u y):Calls prog 281 #[.int .u8 op,x,y] w (PV w (bY.make op v u)):=by
 obtain⟨c,E,n⟩:=Ol;have E:=E w;obtain⟨l,J,C,B⟩:∃l:Nat,((op=43/\l=303)\/(op=45/\l=304)\/(op=42/\l=305)\/(op=47/\l=306)\/(op=60/\l=307)\/(op=61/\l=308)\/(op=109/\l=309)\/(op=120/\l=310)\/(op=64/\l=311))/\c[op]?=some (.func (.func l) #[] #[])/\∀j,cT w j->Calls prog l #[.agg #[x,y]] j (PV j (bY.make op v u)):=by
  rcases D with rfl|rfl|rfl|rfl|rfl|rfl|rfl|rfl|rfl
  ·exact⟨303,by decide,n.1,λj b=>IC j (hx.keeps b) (m.keeps b)⟩
  ·exact⟨304,by decide,n.2.1,λj b=>FQ j (hx.keeps b) (m.keeps b)⟩
  ·exact⟨305,by decide,n.2.2.1,λj b=>FR j (hx.keeps b) (m.keeps b)⟩
  ·exact⟨306,by decide,n.2.2.2.1,λj b=>Io j (hx.keeps b) (m.keeps b)⟩
  ·exact⟨307,by decide,n.2.2.2.2.1,λj b=>Ir j (hx.keeps b) (m.keeps b)⟩
  ·exact⟨308,by decide,n.2.2.2.2.2.1,λj b=>uN j (hx.keeps b) (m.keeps b)⟩
  ·exact⟨309,by decide,n.2.2.2.2.2.2.1,λj b=>FT j (hx.keeps b) (m.keeps b)⟩
  ·exact⟨310,by decide,n.2.2.2.2.2.2.2.1,λj b=>Im j (hx.keeps b) (m.keeps b)⟩
  exact⟨311,by decide,n.2.2.2.2.2.2.2.2,λj b=>Ok j (hx.keeps b) (m.keeps b)⟩
 have hcell:(w.alloc (.cells c 371)).cell? ⟨w.1.size,op,none⟩=some (.func (.func l) #[] #[]):=by
  rw[cell_of_row _ _ op c 371 (0,0) (heap_alloc_last w _)];exact C
 have p:Xc w (w.alloc (.cells c 371)):=(VM _ _).alloc (af _) _;obtain⟨t1,M,rfl⟩:=hx.one;obtain⟨t2,N,rfl⟩:=m.one;have r:=bZ B;generalize bY.make op v u=L at r ⊢;clear B C D;rcases J with⟨rfl,rfl⟩|⟨rfl,rfl⟩|⟨rfl,rfl⟩|⟨rfl,rfl⟩|⟨rfl,rfl⟩|⟨rfl,rfl⟩|⟨rfl,rfl⟩|⟨rfl,rfl⟩|⟨rfl,rfl⟩
 all_goals
  go_enter func281,ntmps281;go_wp2_with fail;refine(r.Z _ (cT.below p)).mono ?_;rintro e P⟨G,K,I⟩;have z:=p.trans (G.mono p.size);cases L with
  |error c =>
   obtain rfl:=I c rfl;exact⟨rfl,PV.err z⟩
  |ok v =>
   obtain⟨y,rfl,hval⟩:=K v rfl;obtain⟨t3,O,rfl⟩:=hval.one;have F:=bZ hval;go_wp2;go_ret;exact PV.ok z F.Z
end
section
open bY
open Tryz
variable{v:Xb}{xs:List Xb}
def Et:(prog.info? 9).map (λi=>(i.zero,i.size,i.bytes))=some (some (.string ⟨#[]⟩),1,16):=S8
def qV{a b:ba}(h:a.1.1=b.1.1):a=b:=by
 cases a;cases b;simp at h;simp[h]
theorem lx{w w':Xa}{base n size:Nat}{e:TypeId}(h:w.ownsRow base e size v n xs)(p:Xc w w'):w'.ownsRow base e size v n xs:=by
 refine⟨h.1,?_⟩;rcases h.2 with r|⟨g,j,l,h1,h2,b,m⟩
 ·grind
 exact .inr ⟨g,j,l,h1,h2,(p.block g (cj b)).trans b,m⟩
theorem Om{w:Xa}{base n size g c:Nat}{e:TypeId}(h:w.ownsRow base e size (.slice (some ⟨g,0,none⟩) n c) n xs):g<w.1.size:=by
 rcases h.2 with⟨b,_⟩|⟨m,j,l,h1,h2,p,r⟩
 ·cases b
 grind
def lG:Nat->Nat
 |0=>32
 |n+1=>12*(lG n+1)+32
theorem iK{B:Nat}:∀l,(∀x∈l,x.length<=B)->(cS l).length<=l.length*(B+1)
 |[],_=>by simp[cS]
 |[a],h=>by have:=h a S5;simp[cS];omega
 |a::b::r,h=>by
  have h1:=h a S5;have h2:=iK (b::r) (λx hx=>h x TN);simp only[cS,aj,aM]at h2 ⊢
  grind
def s9:∀l,Lib.join l [44]=cS l
 |[]=>rfl
 |[a]=>Lib.join_one a [44]
 |a::b::r=>by
  rw[Lib.join_cons,cS,<-s9 (b::r),Lib.join_cons];simp[Lib.joinTail]
def r_(n i):bY.wr n (vn i)=Lib.itoa i:=Tp
def pR(n b):bY.wr n (vw b)=39::(b++[39]):=Tp
def Eu(n l):bY.wr (n+1) (vl l)=123::(cS (l.map (bY.wr n))++[125]):=rfl
def cZ.uP{w:Xa}:∀{n:Nat}{v:V}{x:Xb},cZ w n v x->(bY.wr n v).length<=lG n:=by
 intro n
 induction n with
 |zero =>
  intro v x h;rcases h with⟨i,rfl,_,e,h1⟩|⟨b,rfl,_,h⟩
  ·rw[r_];have:=Lib.itoa_length_le i e h1;simp[lG];omega
  rw[pR];simp[lG];omega
 |succ n r =>
  intro v x h;rcases h with(⟨i,rfl,_,e,h1⟩|⟨b,rfl,_,h⟩)|⟨l,s,z,rfl,_,_,y,j,p⟩
  ·rw[r_];have:=Lib.itoa_length_le i e h1;simp[lG];omega
  ·rw[pR];simp[lG];omega
  rw[Eu];have m:=iK (B:=lG n) _ (λx hx=>by
   obtain⟨u,hu,rfl⟩:=aE.1 hx;obtain⟨i,hi,rfl⟩:=R7 hu;exact r (p i _ _ (aq hi) (aq R5)))
  have h2:l.length*(lG n+1)<=12*(lG n+1):=Rt _ j;simp only[aH]at m;simp only[lG,aM,aj,Ra];omega
def qW(b w)(l:b.size<=1000):Calls prog 336 #[.string b] w λe j=>e=.returned (.string ⟨(39::(b.1.1++[39])).toArray⟩)/\j=w:=by
 go_enter func336,ntmps336;go_wp2;go_ret;exact⟨congrArg (λs=>Ending.returned (.string s)) (qV S5),rfl⟩
def zb(a w) : (method 499 219 a "Written").run prog w = .ok (171, a) w := by kernel_rfl
def zc(a w) : (method 499 215 a "Written").run prog w = .ok (336, a) w := by kernel_rfl
def zd(a w) : (method 499 248 a "Written").run prog w = .ok (339, a) w := by kernel_rfl
attribute [local go_sem] zb zc zd
def CW(n:Nat):Prop :=∀(l:List V) (s:Xb) (b:List Xb) (w:Xa),G w->gm w s b->jg w n l b->l.length<=12 ->Calls prog 339 #[s] w λe j=>e=.returned (.string ⟨(bY.wr (n+1) (vl l)).toArray⟩)/\Xc w j
def p_(n)(hn:n<=3)(ih:∀m,n=m+1->CW m):CW n:=by
 intro l s B w g Y I ai;obtain⟨o,c,rfl⟩:=Y.len;have hl:=I.1;obtain⟨i0,ap,a6,a7,a8⟩:=VW Et;have ab:=bZ ih;have N:=bZ I;rw[Eu];generalize a3:cS _=bd;have M:=bZ a3;go_enter func339,ntmps339;go_wp2_with(at_make;refine wpList_make_full _ rfl _ _ _ rfl _ 9 i0 _ 1 underlying40 ap a6 a7 _ _ _ _ _ rfl rfl rfl rfl (by rw[a8];omega) Th (af _) ?_;intro w1 a2 ao);have ak:=(VM _ _).grown ao (af _) (λk V=>by cases V)
 go_loopw [11] (λi wr=>∃(k:Nat) (xs:List Xb),k<=B.length/\i=.int .i64 k/\Xc w wr/\wr.ownsRow w.1.size 9 1 (.slice (some ⟨w.1.size,0,none⟩) B.length B.length) B.length xs/\Hid (∀j,j<k->xs[j]?=(l[j]?).map λu=>Value.string ⟨(bY.wr n u).toArray⟩)) (λi _=>B.length-(intOf i).toNat)
 case atStart=>exact⟨0,_,ar _,rfl,ak,a2,λj r=>by omega⟩
 case round =>
  obtain⟨k,xs,V,rfl,D,E,O⟩:=hrel;have P:=g.below D g.size;by_cases aC:k<B.length
  ·obtain⟨y,hy⟩:∃u,B[k]?=some u:=⟨_,aq aC⟩;obtain⟨u,hu⟩:∃u,l[k]?=some u:=⟨_,aq R5⟩;have a4:=Y.keeps (cT.below D);obtain⟨b,rfl,Q⟩:=a4.cell hy;have hval:=(N.Z.2 k u y hu hy).keeps (cT.below D);obtain⟨z,hz⟩:∃z,xs[k]?=some z:=⟨_,aq (by have:=E.1;omega)⟩;have after:∀p,Below _ _ p->p.cell? ⟨w.1.size,k,none⟩=some z/\p.frozen? ⟨w.1.size,k,none⟩=false:=λp C=>by
    have X:=lx E C;exact⟨(X.cellAt k R5).trans hz,X.frozenAt k⟩
   have ad:∀(p:Xa) (v:Xb),Below _ _ p->v=.string ⟨(bY.wr n u).toArray⟩->∃(k':Nat) (aa:List Xb),k'<=B.length/\Value.int .i64 ((k:Int)+1)=.int .i64 (k':Int)/\Xc w (p.setCell ⟨w.1.size,k,none⟩ v)/\(p.setCell ⟨w.1.size,k,none⟩ v).ownsRow w.1.size 9 1 (.slice (some ⟨w.1.size,0,none⟩) B.length B.length) B.length aa/\Hid (∀j,j<k'->aa[j]?=(l[j]?).map λu=>Value.string ⟨(bY.wr n u).toArray⟩):=λp v C I=>by
    refine⟨k+1,xs.set k v,by omega,by go_num,(D.trans (C.mono D.size)).setCell (p:=⟨w.1.size,k,none⟩) (af _) _,((lx E C).stored k v).1,λj r=>?_⟩;by_cases U:j=k
    ·subst U;rw[Q8 (by have:=E.1;omega),hu,I];rfl
    rw[RG (λh=>U h.symm)];exact O.Z j R5
   have J:=bZ after;have K:=bZ ad;rcases hval.fY with⟨j,rfl,rfl,r⟩|⟨d,rfl,rfl,hb⟩|⟨m2,l2,s2,a9,a0,rfl,rfl,Z,ax,h2,a5⟩
   ·clear hval;go_wp2_with fail;refine b_ (iH j _ P r.1 r.2) λp C=>?_;obtain⟨R,T⟩:=J.Z p C;have F:=bZ (K.Z p _ C (by rw[r_]));go_wp2;exact⟨F.Z,by simp[intOf];omega⟩
   ·clear hval;go_wp2_with fail;refine(qW d _ R5).mono ?_;rintro e p⟨rfl,rfl⟩;obtain⟨R,T⟩:=J.Z _ (VM _ _);have F:=bZ (K.Z _ _ (VM _ _) (by rw[pR]));go_wp2;exact⟨F.Z,by simp[intOf];omega⟩
   subst a0;have hI:=ab.Z m2 rfl l2 s2 a9 _ P Z ⟨ax,a5⟩ h2;obtain⟨o2,c2,rfl⟩:=Z.len;have HI:=bZ hI;go_wp2_with fail;refine b_ HI.Z λp C=>?_;obtain⟨R,T⟩:=J.Z p C;have F:=bZ (K.Z p _ C rfl);go_wp2;exact⟨F.Z,by simp[intOf];omega⟩
  have hX:∀(j:Nat) (x:ba),(l.map λu=>(⟨(bY.wr n u).toArray⟩:ba))[j]?=some x->xs[j]?=some (.string x):=λj x r=>by
   rw[Q6]at r;cases G:l[j]? with
   |none=>rw[G]at r;cases r
   |some u =>
    rw[G]at r;obtain⟨L,_⟩:=aA.1 G;rw[O.Z j R5,G];cases r;rfl
  have ay:((l.map λu=>(⟨(bY.wr n u).toArray⟩:ba)).map (·.1.1))=l.map (bY.wr n):=by
   rw[Rb];congr 1
  have L:(Lib.join ((l.map λu=>(⟨(bY.wr n u).toArray⟩:ba)).map (·.1.1)) [44])=cS (l.map (bY.wr n)):=by
   rw[ay,s9]
  have am:(cS (l.map (bY.wr n))).length<=1000000:=by
   have Q:=iK (B:=lG n) (l.map (bY.wr n)) (λx hx=>by
    obtain⟨u,hu,rfl⟩:=aE.1 hx;obtain⟨i,hi,rfl⟩:=R7 hu;exact(N.Z.2 i _ _ (aq hi) (aq R5)).uP)
   have h2:l.length*(lG n+1)<=12*(lG n+1):=Rt _ ai;have h3:lG n<=70000:=by
    obtain rfl|rfl|rfl|rfl:n=0\/n=1\/n=2\/n=3:=R5
    all_goals decide
   simp only[aH]at Q;omega
  have S:=strings_Join w.1.size 0 B.length (l.map λu=>(⟨(bY.wr n u).toArray⟩:ba)) ⟨#[44]⟩ _ (λj x r=>by
    have bc:j<l.length:=by
     obtain⟨h,_⟩:=aA.1 r;simpa using h
    rw[aG,E.cellAt j R5];exact hX j x r) (Om E) Tc Tc (by rw[show(⟨#[44]⟩:ba).1.1=[44]from rfl,L];omega)
  rw[show(⟨#[44]⟩:ba).1.1=[44]from rfl,L,aH,hl,M.Z]at S;rw[M.Z]at am;have HC:=bZ S;have av:k=B.length:=R5;subst av;go_wp2_with fail;refine b_ HC.Z λp C=>?_;go_wp2;go_ret;exact⟨congrArg (λs=>Ending.returned (.string s)) (qV S5),D.trans (C.mono D.size)⟩
def la:∀n,n<=3->CW n
 |0,h=>p_ 0 h (λm b=>by omega)
 |n+1,h=>p_ (n+1) h (λm b=>by
  obtain rfl:n=m:=R5;exact la n R5)
end
section
open bY
open Tryz
variable{r:Except Nat V}{x:Xb}
attribute [local go_sem] zb zc zd
def ij(w:Xa)(r:Except Nat V)(x:Xb):Prop :=(∃v y,r=.ok v/\x=.agg #[.int .i64 0,y]/\cZ w 3 v y)\/(∃c:Nat,r=.error c/\x=.agg #[.int .i64 (c:Int),.nilIface]/\0<c/\c<=12)
def ij.keeps{w w':Xa}(h:ij w r x)(e:cT w w'):ij w' r x:=by
 rcases h with⟨v,y,h1,h2,b⟩|h
 ·exact .inl ⟨v,y,h1,h2,b.keeps e⟩
 exact .inr h
theorem ij.form{w:Xa}(h:ij w r x):∃c y,x=.agg #[.int .i64 c,y]/\(y=.nilIface\/∃t a,y=.iface t a):=by
 rcases h with⟨v,y,h1,rfl,b⟩|⟨c,_,rfl,_⟩
 ·exact⟨_,_,rfl,.inr b.one⟩
 grind
def qx(w)(h:ij w r x):Calls prog 276 #[x] w (PV w r):=by
 have e:∀o,Xc w (w.alloc o):=λo=>(VM _ _).alloc (af _) _;rcases h with⟨v,y,rfl,rfl,b⟩|⟨c,rfl,rfl,l,h1⟩
 ·obtain⟨t,a,rfl⟩:=b.one;have j:=bZ b;clear b;go_enter func276,ntmps276;go_wp2;go_ret;exact PV.ok (e _) (j.Z.keeps (cT.below (e _)))
 have m:((c:Int) != 0)=true:=TC;go_enter func276,ntmps276;go_wp2;exact⟨rfl,PV.err (e _)⟩
def lH(b w)(j:b.size<=1000):Calls prog 336 #[.string b] w λe l=>e=.returned (.string ⟨(39::(b.1.1++[39])).toArray⟩)/\Xc w l :=(qW b w j).mono λ_ _ h=>⟨h.1,h.2▸VM _ _⟩
def dC:Except Nat V->Xb
 |.ok v=>.agg #[.int .i64 0,.string ⟨(wr 3 v).toArray⟩]
 |.error c=>.agg #[.int .i64 (c:Int),.string ⟨#[]⟩]
def lJ(w)(g:G w)(h:ij w r x):Calls prog 50 #[x] w λe u=>e=.returned (dC r)/\Xc w u:=by
 have n:∀o,Xc w (w.alloc o):=λo=>(VM _ _).alloc (af _) _;rcases h with⟨v,y,rfl,rfl,D⟩|⟨c,rfl,rfl,S,h1⟩
 ·rcases D.fY with⟨j,rfl,rfl,I⟩|⟨d,rfl,rfl,T⟩|⟨O,N,P,Q,U,rfl,rfl,z,M,h2,J⟩
  ·have L:∀o B,G ((w.alloc o).alloc B):=λo B=>g.below ((n o).alloc S5 B) g.size;go_enter func50,ntmps50;go_wp2_with fail;refine b_ (iH j _ (L _ _) I.1 I.2) λm b=>?_;obtain⟨p,F⟩:=oq b;have K:w.1.size+1<m.1.size:=T2;have l:Xc w m:=((n _).alloc S5 _).trans (b.mono Tc);go_wp2;exact VN (v:=dC _) (by simp[results,results50,go_sem,p,dC,r_]) rfl ⟨rfl,(l.setCell (p:=⟨w.1.size+1,0,none⟩) (aI _ _) _).setCell (p:=⟨w.1.size+1,1,none⟩) (aI _ _) _⟩
  ·go_enter func50,ntmps50;go_wp2_with fail;refine b_ (lH d _ R5) λm b=>?_;obtain⟨p,F⟩:=oq b;have K:w.1.size+1<m.1.size:=T2;have l:Xc w m:=((n _).alloc S5 _).trans (b.mono Tc);go_wp2;exact VN (v:=dC _) (by simp[results,results50,go_sem,p,dC,pR]) rfl ⟨rfl,(l.setCell (p:=⟨w.1.size+1,0,none⟩) (aI _ _) _).setCell (p:=⟨w.1.size+1,1,none⟩) (aI _ _) _⟩
  obtain rfl:O=2:=R5;have E:=λ(u:Xa) (l:Xc w u)=>la 2 R5 N P Q u (g.below l g.size) (z.keeps (cT.below l)) (jg.keeps ⟨M,J⟩ (cT.below l)) h2;obtain⟨X,R,rfl⟩:=z.len;have C:=bZ E;clear E D J z;go_enter func50,ntmps50;go_wp2_with fail;refine b_ (C.Z _ ((n _).alloc S5 _)) λm b=>?_;clear C;obtain⟨p,F⟩:=oq b;have K:w.1.size+1<m.1.size:=T2;have l:Xc w m:=((n _).alloc S5 _).trans (b.mono Tc);go_wp2;exact VN (v:=dC _) (by simp[results,results50,go_sem,p,dC]) rfl ⟨rfl,(l.setCell (p:=⟨w.1.size+1,0,none⟩) (aI _ _) _).setCell (p:=⟨w.1.size+1,1,none⟩) (aI _ _) _⟩
 have V:((c:Int) != 0)=true:=TC;go_enter func50,ntmps50;go_wp2;exact VN (v:=dC _) (by simp[results,results50,go_sem,dC]) rfl ⟨rfl,(n _).alloc S5 _⟩
def NX:Except Nat V->Except Nat V->Bool
 |.ok v,.ok u=>bY.same 3 v u
 |.error c,.error d=>c==d
 |_,_=>false
def CX{q:Except Nat V}{y:Xb}(w)(hx:ij w r x)(C:ij w q y):Calls prog 159 #[x,y] w λe j=>e=.returned (.bool (NX r q))/\Xc w j:=by
 have F:∀o,Xc w (w.alloc o):=λo=>(VM _ _).alloc (af _) _;have l:∀o n,Xc w ((w.alloc o).alloc n):=λo n=>(F o).alloc S5 n;rcases hx with⟨v,O,rfl,rfl,h1⟩|⟨c,rfl,rfl,M,N⟩
 ·obtain⟨t1,L,rfl⟩:=h1.one;rcases C with⟨u,K,rfl,rfl,h2⟩|⟨d,rfl,rfl,G,I⟩
  ·obtain⟨t2,D,rfl⟩:=h2.one;have B:=λ(j:Xa) (z:Xc w j)=>rZ 3 v u _ _ 3 j (h1.keeps (cT.below z)) (h2.keeps (cT.below z));have p:=bZ B;show Calls _ _ _ _ (λe j=>e=.returned (.bool (bY.same 3 v u))/\_);generalize bY.same 3 v u=b at p ⊢;clear B h1 h2;go_enter func159,ntmps159;go_wp2_with fail;refine dL (p.Z _ (l _ _)) ?_;go_wp2;go_ret;exact⟨rfl,l _ _⟩
  have J:((d:Int) != 0)=true:=TC;have m:((0:Int)==(d:Int))=false:=Tj;show Calls _ _ _ _ (λe j=>e=.returned (.bool false)/\_);go_enter func159,ntmps159;go_wp2;go_ret;exact⟨rfl,l _ _⟩
 have J:((c:Int) != 0)=true:=TC;rcases C with⟨u,K,rfl,rfl,h2⟩|⟨d,rfl,rfl,G,I⟩
 ·obtain⟨t2,D,rfl⟩:=h2.one;have m:((c:Int)==(0:Int))=false:=Tj;show Calls _ _ _ _ (λe j=>e=.returned (.bool false)/\_);go_enter func159,ntmps159;go_wp2;go_ret;exact⟨rfl,l _ _⟩
 have m:((c:Int)==(d:Int))=(c==d):=by
  by_cases h:c=d
  ·subst h;simp
  have E:¬(c:Int)=(d:Int):=R5;rw[az.2 h,az.2 E]
 show Calls _ _ _ _ (λe j=>e=.returned (.bool (c==d))/\_);rw[<-m];clear m;go_enter func159,ntmps159;go_wp2;go_ret;exact⟨rfl,l _ _⟩
end
section
open bY
open Tryz
variable{r:Except Nat V}{x:Xb}
attribute [local go_sem] zb zc zd
def zi(c:Nat)(w)(E:c<=12):Calls prog 140 #[.int .i64 c] w λe u=>e=.returned (str (ld c))/\u=w:=by
 have h:∀c:Fin 13,c.val≠7->c.val≠8->c.val≠9->c.val≠10->c.val≠11->ld c.val=[]:=S4;by_cases l:c=7
 ·subst l;go_enter func140,ntmps140;go_wp2;go_ret;exact⟨rfl,rfl⟩
 by_cases m:c=8
 ·subst m;go_enter func140,ntmps140;go_wp2;go_ret;exact⟨rfl,rfl⟩
 by_cases n:c=9
 ·subst n;go_enter func140,ntmps140;go_wp2;go_ret;exact⟨rfl,rfl⟩
 by_cases b:c=10
 ·subst b;go_enter func140,ntmps140;go_wp2;go_ret;exact⟨rfl,rfl⟩
 by_cases j:c=11
 ·subst j;go_enter func140,ntmps140;go_wp2;go_ret;exact⟨rfl,rfl⟩
 have p:=h ⟨c,by omega⟩ l m n b j;simp only at p;rw[p];have B:((c:Int)==7)=false:=Tj;have C:((c:Int)==8)=false:=Tj;have D:((c:Int)==9)=false:=Tj;have y:((c:Int)==10)=false:=Tj;have z:((c:Int)==11)=false:=Tj;clear h p l m n b j;go_enter func140,ntmps140;go_wp2;go_ret;exact⟨rfl,rfl⟩
def mS(w)(g:G w)(h:ij w r x):Calls prog 96 #[x] w λe p=>e=.returned (str (gO r))/\Xc w p:=by
 have l:∀o,Xc w (w.alloc o):=λo=>(VM _ _).alloc (af _) _;rcases h with⟨v,y,rfl,rfl,B⟩|⟨c,rfl,rfl,O,h1⟩
 ·rcases B.fY with⟨j,rfl,rfl,D⟩|⟨d,rfl,rfl,P⟩|⟨K,J,L,M,Q,rfl,rfl,u,I,h2,E⟩
  ·have F:∀o,G (w.alloc o):=λo=>g.below (l o) g.size;go_enter func96,ntmps96;go_wp2_with fail;refine b_ (iH j _ (F _) D.1 D.2) λn m=>?_;have b:Xc w n:=(l _).trans (m.mono S5);go_wp2;go_ret;exact⟨by rw[gO,r_];rfl,b⟩
  ·go_enter func96,ntmps96;go_wp2_with fail;refine b_ (lH d _ R5) λn m=>?_;have b:Xc w n:=(l _).trans (m.mono S5);go_wp2;go_ret;exact⟨by rw[gO,pR];rfl,b⟩
  obtain rfl:K=2:=R5;have C:=λ(p:Xa) (b:Xc w p)=>la 2 R5 J L M p (g.below b g.size) (u.keeps (cT.below b)) (jg.keeps ⟨I,E⟩ (cT.below b)) h2;obtain⟨S,N,rfl⟩:=u.len;have z:=bZ C;clear C B E u;go_enter func96,ntmps96;go_wp2_with fail;refine b_ (z.Z _ (l _)) λn m=>?_;clear z;have b:Xc w n:=(l _).trans (m.mono S5);go_wp2;go_ret;exact⟨rfl,b⟩
 have R:((c:Int) != 0)=true:=TC;go_enter func96,ntmps96;go_wp2_with fail;refine dL (zi c _ h1) ?_;go_wp2;go_ret;exact⟨rfl,l _⟩
def IX{w:Xa}{v:V}(h:cZ w 3 v x):(wr 3 v).length<=100000:=by
 have:=h.uP;have e:lG 3<=100000:=S4;omega
def lL{w:Xa}(h:ij w r x):(gO r).length<=100000:=by
 rcases h with⟨v,y,rfl,rfl,b⟩|⟨c,rfl,rfl,e,h1⟩
 ·exact IX b
 have:∀c:Fin 13,(ld c.val).length<=100000:=S4;exact this ⟨c,by omega⟩
end
section
open Tryz
variable{b:Nat}
def PW(Φ:Except Nat bY.V->Xa->Prop)(e:Ending)(w':Xa):Prop :=∃r,Φ r w'/\((∃v y,r=.ok v/\e=.returned y/\cZ w' 3 v y)\/(∃c:Nat,r=.error c/\e=gY c/\0<c/\c<=12))
def dq{w w':Xa}(h:w.grownBy w' (some b))(o v):w.grownBy (w'.setCell ⟨b,o,none⟩ v) (some b) :=⟨h.os,h.tape,h.output,by simp[World.setCell];exact h.size,λk l j=>by
  rw[<-h.block k l j];have m:b≠k:=λe=>j TJ;simp[World.setCell,Rq,m]⟩
def kM{w w':Xa}(h:w.grownBy w' (some b))(n:∀j t l,w.1[b]?=some (.cells j t l)->¬Ho t):cT w w':=λk j t l m p =>
 (h.block k (cj m) (λe=>by cases e;exact n j t l m p)).trans m
theorem AV(j w):CallsD prog 244 #[.pointer (some j)] .returning w λe n p=>e=.returned (.tuple #[])/\n=.returning/\p=w:=by
 refine callsD_of_wpS func244 rfl λm r hu=>?_;apply wpS_seq;apply wpS_region;simp[wpOpsS,go_sem,recoverD,hu,ntmps244,Exit.thenS];refine wpS_of_wp ?_;have l:(#[Value.pointer (some j)]++((Array.replicate 13 undef).setIfInBounds 4 Value.nilIface).setIfInBounds 0 Value.nilIface)=#[Value.pointer (some j),Value.nilIface,undef,undef,undef,Value.nilIface,undef,undef,undef,undef,undef,undef,undef,undef]:=rfl;rw[l];clear l;go_wp2_with fail;cases m
 simp_all [bodyPostS,results,results244]
def zj(b c:Nat)(w y z)(n:w.cell? ⟨b,0,none⟩=some (.int .i64 y))(p:w.cell? ⟨b,1,none⟩=some z)(E:w.frozen? ⟨b,0,none⟩=false)(F:w.frozen? ⟨b,1,none⟩=false):CallsD prog 244 #[.pointer (some ⟨b,0,none⟩)] (.panicking [{v:=.iface 324 (.int .i64 c),recovered:=false}]) w λe u l =>
   e=.returned (.tuple #[])/\u=.panicking [{v:=.iface 324 (.int .i64 c),recovered:=true}]/\l.cell? ⟨b,0,none⟩=some (.int .i64 c)/\l.cell? ⟨b,1,none⟩=some .nilIface/\w.grownBy l (some b):=by
 have D:∀(a:Xb) (w:Xa),(Instr.typeAssert (.iface 324 a) 20 324 true).run prog w=.ok (.tuple #[a,.bool true]) w:=λ_ _=>by kernel_rfl
 refine callsD_of_wpS func244 rfl λC B hu=>?_;apply wpS_seq;apply wpS_region;simp[wpOpsS,go_sem,recoverD,hu,ntmps244,Exit.thenS];refine wpS_of_wp ?_;generalize r:Value.iface 324 (.int .i64 (c:Int))=j;have m:(#[Value.pointer (some ⟨b,0,none⟩)]++((Array.replicate 13 undef).setIfInBounds 4 j).setIfInBounds 0 j)=#[Value.pointer (some ⟨b,0,none⟩),j,undef,undef,undef,j,undef,undef,undef,undef,undef,undef,undef,undef]:=rfl;rw[m];clear m;subst r;go_wp2_with fail;refine⟨rfl,_,rfl,.tuple #[],by simp[results,results244],rfl,rfl,?_,?_,?_⟩
 ·simp[go_sem,n]
 ·simp[go_sem,p]
 exact dq (dq (VQ _ _) _ _) _ _
def td(w)(b c:Nat)(l R)(t1:l[2]?.getD undef=.pointer (some ⟨b,0,none⟩))(m n)(p:w.cell? ⟨b,0,none⟩=some (.int .i64 m))(r:w.cell? ⟨b,1,none⟩=some n)(z:w.frozen? ⟨b,0,none⟩=false)(B:w.frozen? ⟨b,1,none⟩=false)(u:∀j,w.grownBy j (some b)->R (.returned (.agg #[.int .i64 c,.nilIface])) j):Leaves prog f201 l R [{target:=Target.fn (Fn.func 244) #[.pointer (some ⟨b,0,none⟩)],args:=#[]}] (.panicking [{v:=.iface 324 (.int .i64 c),recovered:=false}]) w:=by
 refine leaves_cons (f:=244) (args:=#[.pointer (some ⟨b,0,none⟩)]) S5 Ty ?_;refine(zj b c w m n p r z B).mono ?_;rintro e C j⟨rfl,rfl,d0,d1,y⟩;refine⟨.agg #[.int .i64 (c:Int),.nilIface],?_,u j y⟩;simp[results,results201,go_sem,t1,d0,d1]
def xT(w b y j R)(t1:j[2]?.getD undef=.pointer (some ⟨b,0,none⟩))(l:w.cell? ⟨b,0,none⟩=some (.int .i64 0))(m:w.cell? ⟨b,1,none⟩=some y)(n:R (.returned (.agg #[.int .i64 0,y])) w):Leaves prog f201 j R [{target:=Target.fn (Fn.func 244) #[.pointer (some ⟨b,0,none⟩)],args:=#[]}] .returning w:=by
 refine leaves_cons (f:=244) (args:=#[.pointer (some ⟨b,0,none⟩)]) S5 Ty ?_;refine(AV _ w).mono ?_;rintro e p r⟨rfl,rfl,rfl⟩;refine⟨.agg #[.int .i64 0,y],?_,n⟩;simp[results,results201,go_sem,t1,l,m]
def u_(F:Nat)(hF:F=202\/F=277)(C w Φ)(B:Calls prog F C (w.alloc (.cells #[.int .i64 0,.nilIface] 113)) λe n=>n.1[w.1.size]?=some (.cells #[.int .i64 0,.nilIface] 113 (0,0))/\PW Φ e n):Calls prog 201 #[.func (.func F) #[] C] w λe n=>∃r x j,e=.returned x/\Φ r j/\j.grownBy n (some w.1.size)/\ij n r x:=by
 have H:=bZ B;clear B;rcases hF with rfl|rfl
 all_goals
  go_enter_defers func201,ntmps201
  go_wp2_with fail;refine H.Z.mono ?_;rintro e j⟨l,r,p,⟨v,y,rfl,rfl,hval⟩|⟨c,rfl,rfl,D,E⟩⟩
 all_goals
  have L:w.1.size<j.1.size:=cj l;have d0:j.cell? ⟨w.1.size,0,none⟩=some (.int .i64 0):=cr l rfl;have d1:j.cell? ⟨w.1.size,1,none⟩=some .nilIface:=cr l rfl;have G:j.frozen? ⟨w.1.size,0,none⟩=false:=fq l;have I:j.frozen? ⟨w.1.size,1,none⟩=false:=fq l;clear H
 ·obtain⟨t,a,rfl⟩:=hval.one;have z:=bZ hval;have u:=bZ l;clear hval l;go_wp2_with fail;have m:=dq (dq (VQ j (some w.1.size)) 0 (.int .i64 0)) 1 (.iface t a);refine xT _ w.1.size (.iface t a) _ _ rfl (by simp[go_sem,d0]) (by simp[go_sem,d1]) ⟨.ok v,_,j,rfl,p,m,.inl ⟨v,_,rfl,rfl,z.Z.keeps (kM m λJ t K h=>?_)⟩⟩;rw[u.Z]at h;cases h;rintro(h|h|h)<;>cases h
 ·exact td j w.1.size c _ _ rfl 0 .nilIface d0 d1 G I λn m=>⟨.error c,_,j,rfl,p,m,.inr ⟨c,rfl,rfl,D,E⟩⟩
 ·obtain⟨t,a,rfl⟩:=hval.one;have z:=bZ hval;have u:=bZ l;clear hval l;go_wp2_with fail;have m:=dq (dq (VQ j (some w.1.size)) 0 (.int .i64 0)) 1 (.iface t a);refine xT _ w.1.size (.iface t a) _ _ rfl (by simp[go_sem,d0]) (by simp[go_sem,d1]) ⟨.ok v,_,j,rfl,p,m,.inl ⟨v,_,rfl,rfl,z.Z.keeps (kM m λJ t K h=>?_)⟩⟩;rw[u.Z]at h;cases h;rintro(h|h|h)<;>cases h
 exact td j w.1.size c _ _ rfl 0 .nilIface d0 d1 G I λn m=>⟨.error c,_,j,rfl,p,m,.inr ⟨c,rfl,rfl,D,E⟩⟩
end
section
open Tryz
def dW(w:Xa)(e:Nat)(b y tc j:Xb)(f:Nat)(wc wi:Xb):Prop :=w.1[e]?=some (.cells #[b,y,tc,j,.int .i64 (f:Int),wc,wi] 291 (0,0))
def q8(b l f D tc V wc wi key w)(Φ:Except Nat bY.V->Xa->Prop)(u:dW w b D (.func (.yield l) #[] #[]) tc V f wc wi)(S:YieldAt Fence.wide 0 prog l #[.string key] w λe m=>e=.returned (.bool true)/\∃r c i,ij m r (.agg #[c,i])/\dW m b D (.func (.yield l) #[] #[]) c i f wc wi/\Φ r m):Calls prog 246 #[.pointer (some ⟨b,0,none⟩),.string key] w (PW λr m=>∃z,Φ r z/\Xc z m):=by
 refine(callsIn_wide (n:=0)).1 ?_;have O:w.cell? ⟨b,1,none⟩=some (.func (.yield l) #[] #[]):=by rw[dW]at u;simp[World.cell?,u]
 obtain⟨Y,aa,assign,body,U,F⟩:=S;refine callsIn_of_wp func246 rfl trivial ?_;simp only[ntmps246,S7,aM,Ra,Nat.reduceAdd,Nat.reduceSub,Array.replicate_succ,Array.replicate_zero,List.push_toArray,List.append_toArray,Rz,RC]
 gi_wp2_with fail
 refine⟨rfl,F.mono ?_⟩;rintro e n⟨rfl,r,c,i,p,j,L⟩;have d2:n.cell? ⟨b,2,none⟩=some c:=by rw[dW]at j;simp[World.cell?,j]
 have d3:n.cell? ⟨b,3,none⟩=some i:=by rw[dW]at j;simp[World.cell?,j]
 have G:=qx n p;have K:∀c,r=.error c->0<c/\c<=12:=λN P=>by
  subst P;rcases p with⟨v,y,h,_⟩|⟨X,h,_,h1,h2⟩
  ·cases h
  cases h;exact⟨h1,h2⟩
 have R:(∃C,c=.int .i64 C)/\(i=.nilIface\/∃t a,i=.iface t a):=by
  obtain⟨N,y',Q,T⟩:=p.form;cases Q;exact⟨⟨_,rfl⟩,T⟩
 obtain⟨⟨C,rfl⟩,hi⟩:=R;have B:=bZ G;clear G p u F U j O;rcases hi with rfl|⟨t,a,rfl⟩
 all_goals
  gi_wp2_with fail
  refine⟨trivial,rfl,(callsIn_wide.2 B.Z).mono ?_⟩;rintro e z⟨E,J,I⟩;cases r with
  |error e =>
   obtain rfl:=I e rfl;exact⟨rfl,.error e,⟨n,L,E⟩,.inr ⟨e,rfl,rfl,(K e rfl).1,(K e rfl).2⟩⟩
  |ok v =>
   obtain⟨y,rfl,hval⟩:=J v rfl;obtain⟨Z,a',rfl⟩:=hval.one;have M:=bZ hval;clear hval J I B
   gi_wp2_with fail
   go_ret;exact⟨.ok v,⟨n,L,E⟩,.inl ⟨v,_,rfl,rfl,M.Z⟩⟩
def I1(t:TypeId):Prop:=Ho t\/t=113\/t=242
structure Fm(base:Nat)(w w':Xa):Prop where
 eD:Below base w w'
 si:∀(k:Nat) (cs:Array Xb) (t:TypeId) (fz:Nat×Nat),w.1[k]?=some (.cells cs t fz)->I1 t->w'.1[k]?=some (.cells cs t fz)
def Fm.refl(base w):Fm base w w:=⟨VM _ _,λ_ _ _ _ h _=>h⟩
def Fm.trans{base:Nat}{a b c:Xa}(h:Fm base a b)(l:Fm base b c):Fm base a c:=⟨h.eD.trans l.eD,λk e t j n m=>l.si k e t j (h.si k e t j n m) m⟩
def Fm.below{base:Nat}{w w':Xa}(h:Xc w w')(e:base<=w.1.size):Fm base w w' :=⟨h.mono e,λk _ _ _ b _=>(h.block k (cj b)).trans b⟩
def Fm.keeps{base:Nat}{w w':Xa}(h:Fm base w w'):cT w w':=λk b t e j l=>h.si k b t e j (.inl l)
theorem Fm.size{base:Nat}{w w':Xa}(h:Fm base w w'):w.1.size<=w'.1.size:=h.eD.size
def Fm.g{base:Nat}{w w':Xa}(h:Fm base w w')(g:G w)(b:8<=base):G w':=g.below h.eD b
def Fm.grown{base b:Nat}{w w':Xa}(h:w.grownBy w' (some b))(n:base<=b)(p:base<=w.1.size)(r:∀l t m,w.1[b]?=some (.cells l t m)->¬I1 t):Fm base w w' :=⟨(VM base w).grown h p (λk j=>by cases j;exact n),λk l t m j hi=>(h.block k (cj j) (λe=>by cases e;exact r l t m j hi)).trans j⟩
structure eO(w w':Xa):Prop where
 val:∀n v x,cZ w n v x->cZ w' n v x
 node:∀(k:Nat) (cs:Array Xb) (t:TypeId) (fz:Nat×Nat),w.1[k]?=some (.cells cs t fz)->t=263\/t=121->w'.1[k]?=some (.cells cs t fz)
def cT.stay{w w':Xa}(h:cT w w'):eO w w':=⟨λ_ _ _ hx=>hx.keeps h,λk b t e j l=>h k b t e j (.inr l)⟩
structure Env where
 σ:Type
 N:a_->σ->Except Nat bY.V×σ
 mE:σ->Nat
 J:(Nat->Prop)->σ->Xa->Prop
 rb:Nat
 l:Nat
 base:Nat
 di:Xb
 wc:Xb
 wi:Xb
def Env.Y(E:Env):Xb:=.func (.yield E.l) #[] #[]
structure gD(E:Env):Prop where
 AW:∀F s w w',E.J F s w->w.1.size<=w'.1.size->(∀k,F k->w'.1[k]?=w.1[k]?)->eO w w'->E.J F s w'
 Hp:∀F s w k,E.J F s w->F k->k<w.1.size/\k≠E.rb
 Ou:∀key s,E.mE (E.N key s).2<=E.mE s+1
 AX:8<=E.base
 gE:E.base<=E.rb
 yields:∀(key:ba) F s w f tc ti,E.J F s w->dW w E.rb E.di E.Y tc ti f E.wc E.wi->G w->key.size<=200->E.mE s+f<400 ->YieldAt Fence.wide 0 prog E.l #[.string key] w λe w'=>e=.returned (.bool true)/\∃c i F',ij w' (E.N key.1.1 s).1 (.agg #[c,i])/\dW w' E.rb E.di E.Y c i f E.wc E.wi/\E.J F' (E.N key.1.1 s).2 w'/\(∀k,F' k->F k\/w.1.size<=k)/\Fm E.base w w'
structure St(E:Env)(F:Nat->Prop)(st:Nat×E.σ)(w:Xa):Prop where
 run:∃tc ti,dW w E.rb E.di E.Y tc ti st.1 E.wc E.wi
 inv:E.J F st.2 w
 g:G w
 le:E.mE st.2+st.1<=400
def St.lt{E:Env}{F:Nat->Prop}{b:Nat×E.σ}{w:Xa}(h:St E F b w):E.rb<w.1.size:=by
 obtain⟨e,j,h⟩:=h.run;exact cj h
def St.below{E:Env}(ok:gD E){F:Nat->Prop}{e:Nat×E.σ}{w w':Xa}(h:St E F e w)(b:Xc w w'):St E F e w':=by
 obtain⟨m,n,l⟩:=h.run;exact⟨⟨m,n,(b.block _ h.lt).trans l⟩,ok.AW _ _ _ _ h.inv b.size (λk j=>b.block k (ok.Hp _ _ _ _ h.inv j).1) (cT.below b).stay,h.g.below b h.g.size,h.le⟩
def St.grown{E:Env}(ok:gD E){F:Nat->Prop}{m:Nat×E.σ}{w w':Xa}(h:St E F m w){b:Nat}(j:w.grownBy w' (some b))(p:E.rb≠b)(hF:¬F b)(n:8<=b)(u:eO w w'):St E F m w':=by
 obtain⟨y,z,r⟩:=h.run;refine⟨⟨y,z,(j.block _ h.lt (λe=>p TD)).trans r⟩,ok.AW _ _ _ _ h.inv j.size (λk l=>j.block k (ok.Hp _ _ _ _ h.inv l).1 (λe=>by cases e;exact hF l)) u,?_,h.le⟩;exact h.g.below (B:=8) ((VM 8 w).grown j h.g.size (λk l=>by cases l;exact n)) (af _)
def Ψ(E:Env)(F:Nat->Prop)(w:Xa)(q:Except Nat bY.V×(Nat×E.σ))(r:Except Nat bY.V)(w':Xa):Prop :=r=q.1/\∃b,St E b q.2 w'/\(∀k,b k->F k\/w.1.size<=k)/\Fm E.base w w'
def C4(E F s w)(h:St E F (0,s) w):Calls prog 245 #[.pointer (some ⟨E.rb,0,none⟩)] w λe l=>e=gY 11/\l=w:=by
 obtain⟨m,n,b⟩:=h.run;have j:w.cell? ⟨E.rb,4,none⟩=some (.int .i64 0):=by rw[dW]at b;simp[World.cell?,b]
 generalize E.rb=rb at j;go_enter func245,ntmps245;go_wp2;exact⟨rfl,rfl,rfl⟩
def va(E)(ok:gD E)(F f s w)(h:St E F (f,s) w)(G:0<f):Calls prog 245 #[.pointer (some ⟨E.rb,0,none⟩)] w λe b=>e=.returned (.tuple #[])/\St E F (f-1,s) b/\Fm E.base w b/\b.1.size=w.1.size:=by
 have I:E.mE s+f<=400:=h.le;obtain⟨y,z,j⟩:=h.run;have r:w.cell? ⟨E.rb,4,none⟩=some (.int .i64 (f:Int)):=by rw[dW]at j;simp[World.cell?,j]
 have B:w.frozen? ⟨E.rb,4,none⟩=false:=by rw[dW]at j;simp[World.frozen?,j]
 have u:∀b,b=w.setCell ⟨E.rb,4,none⟩ (.int .i64 ((f:Int)-1))->St E F (f-1,s) b/\Fm E.base w b/\b.1.size=w.1.size:=by
  rintro b rfl;have l:=dq (VQ w (some E.rb)) 4 (.int .i64 ((f:Int)-1));have p:=Fm.grown l ok.gE (aF (SN ok.gE h.lt)) (λC t D h=>by
    rw[dW]at j;rw[j]at h;cases h;rintro((h|h|h)|h|h)<;>cases h)
  refine⟨⟨⟨y,z,?_⟩,?_,?_,by show E.mE s+(f-1)<=400;omega⟩,?_,by simp[World.setCell]⟩
  ·rw[dW]at j ⊢;simp[World.setCell,Rq,j];omega
  ·exact ok.AW _ _ _ _ h.inv l.size (λk m=>l.block k (ok.Hp _ _ _ _ h.inv m).1 (λe=>(ok.Hp _ _ _ _ h.inv m).2 TD)) p.keeps.stay
  ·exact h.g.below (B:=8) ((VM 8 w).grown l h.g.size (λk m=>by cases m;exact ah ok.AX ok.gE)) (af _)
  exact p
 have n:=bZ u;generalize E.rb=rb at r B n;go_enter func245,ntmps245;go_wp2
 go_end0
 exact⟨rfl,n.Z _ rfl⟩
end
