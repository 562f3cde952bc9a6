/- Out of V5. -/
import Derived.Test.YtpekpdimdelncaaGreatDoorP03
import Derived.Deep.LoopGhost
import Derived.Lib.AppendZeros
import Derived.Laws.AppendOwnNone
import Derived.Test.YtpekpdimdelncaaGreatDoorP04
set_option linter.unusedVariables false
set_option maxRecDepth 100000
set_option maxHeartbeats 1000000
set_option linter.defProp false
namespace Go.Proofs.YtpekpdimdelncaaGreatDoor
open Go.RowKit Go.ChangeMaps Go.MapKept
section
open bY
open Tryz
variable{v u:V}{x y:Xb}
attribute [local go_sem] ov ow oz oC oD oE oG oH oJ
theorem cZ.nD{w:Xa}{n:Nat}(h:cZ w n v x):(∃i,v=vn i/\x=.iface 219 (.int .i64 i)/\-9223372036854775808<=i/\i<=9223372036854775807) \/((∀i,v≠vn i)/\∃t a,x=.iface t a/\(t=215\/t=248)):=by
 rcases h.fY with h|⟨b,rfl,rfl,e⟩|⟨r,p,z,B,l,rfl,rfl,m,j,_,_⟩
 ·grind
 ·exact .inr ⟨λi hi=>(by cases hi),_,_,rfl,.inl rfl⟩
 exact .inr ⟨λi hi=>(by cases hi),_,_,rfl,.inr rfl⟩
def Iq(i j):bY.less (vn i) (vn j)=.ok (vn (if i<j then 1 else 0)):=by
 simp[bY.less,vn,bY.bit]
def FU(a b):bY.less (vw a) (vw b)=.ok (vn (if Ig a b then 1 else 0)):=rfl
def lu(h:(∃i,v=vn i)/\(∀j,u≠vn j)\/(∃b,v=vw b)/\(∀b,u≠vw b)\/∃l,v=vl l):bY.less v u=.error 9:=by
 rcases u with⟨j|b|m⟩
 all_goals rcases h with⟨⟨i,rfl⟩,h⟩|⟨⟨a,rfl⟩,h⟩|⟨l,rfl⟩
 all_goals first|rfl|exact absurd rfl (h _)
def Ir(w)(hx:cZ w 3 v x)(n:cZ w 3 u y):Calls prog 307 #[.agg #[x,y]] w (PV w (bY.less v u)):=by
 have p:∀o,Xc w (w.alloc o):=λo=>(VM _ _).alloc (af _) _;rcases hx.fY with⟨i,rfl,rfl,hi⟩|⟨b,rfl,rfl,K⟩|⟨m,l,s,J,F,rfl,rfl,z,E,C,I⟩
 ·rcases n.nD with⟨j,rfl,rfl,D⟩|⟨r,t,a,rfl,G⟩
  ·clear hx n;rw[Iq];go_enter func307,ntmps307;go_wp2_with(first|(go_at_call 280;refine(eK _ _).mono ?_;rintro e B ⟨rfl,rfl⟩)|(go_at_call 317;refine(rY _ _).mono ?_;rintro e B ⟨rfl,rfl⟩))
   all_goals go_ret
   all_goals exact PV.num (p _) rfl R5 R5
  rw[lu (.inl ⟨⟨_,rfl⟩,r⟩)];clear hx n r;go_enter func307,ntmps307;go_wp2_with fail;refine(gC _ _ _ G).mono ?_;rintro e B⟨rfl,rfl⟩;exact⟨rfl,PV.err (p _)⟩
 ·rcases n.fY with⟨j,rfl,rfl,D⟩|⟨c,rfl,rfl,L⟩|⟨m,l,s,J,F,rfl,rfl,z,E,C,I⟩
  ·rw[lu (.inr (.inl ⟨⟨_,rfl⟩,λb h=>Tl⟩))];clear hx n;go_enter func307,ntmps307;go_wp2;exact⟨rfl,PV.err (p _)⟩
  ·rw[FU,Ig,<-VP,<-VP];clear hx n;go_enter func307,ntmps307;go_wp2_with(go_at_call 317;refine dL (rY _ _) ?_)
   all_goals go_ret
   all_goals exact PV.num (p _) rfl R5 R5
  rw[lu (.inr (.inl ⟨⟨_,rfl⟩,λb h=>Tl⟩))];clear hx n;go_enter func307,ntmps307;go_wp2;exact⟨rfl,PV.err (p _)⟩
 rw[lu (.inr (.inr ⟨_,rfl⟩))];obtain⟨t,a,rfl⟩:=n.one;obtain⟨o,c,rfl⟩:=z.len;clear hx n;go_enter func307,ntmps307;go_wp2;exact⟨rfl,PV.err (p _)⟩
def yZ{w:Xa}{b o:Nat}(h:w.cell? ⟨b,o,none⟩=some x):b<w.1.size:=by
 rcases Ro b w.1.size with e|e
 ·exact e
 simp[World.cell?,R9 e]at h
def tY(h:(∃i,v=vn i)\/(∀j,u≠vn j)):gz v u=.error 9:=by
 rcases u with⟨j|b|m⟩
 ·rcases h with⟨i,rfl⟩|h
  ·rfl
  exact absurd rfl (h _)
 ·rfl
 rfl
def Ok(w)(hx:cZ w 3 v x)(r:cZ w 3 u y):Calls prog 311 #[.agg #[x,y]] w (PV w (gz v u)):=by
 have B:∀o,Xc w (w.alloc o):=λo=>(VM _ _).alloc (af _) _;rcases r.nD with⟨j,rfl,rfl,S⟩|⟨L,t,a,rfl,N⟩
 ·rcases hx.fY with⟨i,rfl,rfl,hi⟩|⟨b,rfl,rfl,Q⟩|⟨m,l,s,D,T,rfl,rfl,p,K,P,F⟩
  ·rw[tY (.inl ⟨_,rfl⟩)];clear hx r;go_enter func311,ntmps311;go_wp2_with(go_at_call 280;refine(eK _ _).mono ?_;rintro e z ⟨rfl,rfl⟩);exact⟨rfl,PV.err (B _)⟩
  ·clear hx r;cases n:bY.place j b.size with
   |ok k =>
    have p:gz (vw b.1.1) (vn j)=.ok (vw ((b.1.1.drop k).take 1)):=by
     simp only[gz,vw,vn,qU,n]
    rw[p];obtain⟨rfl,J⟩:=AM n;clear p;go_enter func311,ntmps311;go_wp2_with(first|(go_at_call 280;refine(eK _ _).mono ?_;rintro e z ⟨rfl,rfl⟩)|(go_at_call 318;refine(xJ _ _ _ _ n).mono ?_;rintro e z ⟨rfl,rfl⟩));go_ret;exact PV.word (B _) (by rw[VV,RQ]) (by have:=mL b k (k+1);omega)
   |error c =>
    obtain⟨h1,rfl⟩:=pP n;have p:gz (vw b.1.1) (vn j)=.error 7:=by
     simp only[gz,vw,vn,qU,n]
    rw[p];clear p;go_enter func311,ntmps311;go_wp2_with(go_at_call 280;refine(eK _ _).mono ?_;rintro e z ⟨rfl,rfl⟩);refine(xK _ _ _ h1).mono ?_;rintro e z⟨rfl,rfl⟩;exact⟨rfl,PV.err (B _)⟩
  obtain⟨o,c,rfl⟩:=p.len;cases n:bY.place j D.length with
  |ok k =>
   have C:gz (vl l) (vn j)=.ok (l[k]?.getD (vn 0)):=by
    simp only[gz,vl,vn,K,n]
   rw[C];obtain⟨rfl,J⟩:=AM n;obtain⟨y,r⟩:∃y,D[k]?=some y:=⟨_,aq J⟩;obtain⟨u,hu⟩:∃u,l[k]?=some u:=⟨_,aq R5⟩;obtain⟨b,rfl,I⟩:=p.cell r;have hval:=F k u y hu r;obtain⟨t2,G,rfl⟩:=hval.one;rw[hu];have M:=bZ (cZ.le hval (show m<=3 by omega));have E:=B (Obj.cells #[Value.iface 248 (Value.slice (some {block:=b,off:=0,spot:=none}) D.length c),Value.iface 219 (Value.int IntKind.i64 (k:Int))] 370);have R:(w.alloc (Obj.cells #[Value.iface 248 (Value.slice (some {block:=b,off:=0,spot:=none}) D.length c),Value.iface 219 (Value.int IntKind.i64 (k:Int))] 370)).cell? ⟨b,k,none⟩=some (.iface t2 G):=(E.cell (p:=⟨b,k,none⟩) (yZ I)).trans I;clear C F hx p hval hu r;go_enter func311,ntmps311;go_wp2_with(first|(go_at_call 280;refine(eK _ _).mono ?_;rintro e z ⟨rfl,rfl⟩)|(go_at_call 318;refine(xJ _ _ _ _ n).mono ?_;rintro e z ⟨rfl,rfl⟩));go_ret;exact PV.ok E (M.Z.keeps (cT.below E))
  |error O =>
   obtain⟨h1,rfl⟩:=pP n;have C:gz (vl l) (vn j)=.error 7:=by
    simp only[gz,vl,vn,K,n]
   rw[C];clear C F hx r p;go_enter func311,ntmps311;go_wp2_with(go_at_call 280;refine(eK _ _).mono ?_;rintro e z ⟨rfl,rfl⟩);refine(xK _ _ _ h1).mono ?_;rintro e z⟨rfl,rfl⟩;exact⟨rfl,PV.err (B _)⟩
 rw[tY (.inr L)];obtain⟨t2,G,rfl⟩:=hx.one;clear hx r L;go_enter func311,ntmps311;go_wp2_with fail;refine(gC _ _ _ N).mono ?_;rintro e z⟨rfl,rfl⟩;exact⟨rfl,PV.err (B _)⟩
end
section
open Tryz
attribute [local go_sem] ov ow oz oC oD oE oG oH oJ
def FV(i w):Calls prog 338 #[.int .i64 i] w λe b=>e=.returned (.int .i64 0)/\b=w:=by
 go_enter func338,ntmps338;go_wp2;go_ret;exact⟨rfl,rfl⟩
def FW(b w):Calls prog 337 #[.string b] w λe j=>e=.returned (.int .i64 0)/\j=w:=by
 go_enter func337,ntmps337;go_wp2;go_ret;exact⟨rfl,rfl⟩
def ju(n:Nat)(l:List bY.V)(a:Nat):Nat:=l.foldl (λa u=>max a (bY.p8 n u)) a
def LU(n i):bY.p8 n (bY.vn i)=0:=Tp
def Iu(n b):bY.p8 n (bY.vw b)=0:=Tp
def Iv(n l):bY.p8 (n+1) (bY.vl l)=ju n l 0+1:=rfl
def pQ{n B:Nat}(h:∀u,bY.p8 n u<=B):∀l a,a<=B->ju n l a<=B
 |[],_,b=>b
 |u::l,a,b=>pQ h l (max a (bY.p8 n u)) (by have:=h u;omega)
def y_:∀n v,bY.p8 n v<=n
 |0,⟨.inl _⟩=>af _
 |0,⟨.inr (.inl _)⟩=>af _
 |0,⟨.inr (.inr _)⟩=>af _
 |n+1,⟨.inl _⟩=>ar _
 |n+1,⟨.inr (.inl _)⟩=>ar _
 |n+1,⟨.inr (.inr l)⟩=>by
  show ju n l 0+1<=n+1;have:=pQ (λu=>y_ n u) l 0 (ar _);omega
def Iw(a w) : (method 499 219 a "larder/values.nest").run prog w = .ok (338, a) w := by kernel_rfl
def Ix(a w) : (method 499 215 a "larder/values.nest").run prog w = .ok (337, a) w := by kernel_rfl
def Iy(a w) : (method 499 248 a "larder/values.nest").run prog w = .ok (302, a) w := by kernel_rfl
attribute [local go_sem] Iw Ix Iy
def uK(n:Nat):Prop :=∀(l:List bY.V) (s:Xb) (b:List Xb) (w:Xa),gm w s b->l.length=b.length->l.length<=1000->(∀(i:Nat) u y,l[i]?=some u->b[i]?=some y->cZ w n u y) ->Calls prog 302 #[s] w λe j=>e=.returned (.int .i64 ((ju n l 0+1:Nat):Int))/\j=w
def uL(n)(X:n<=100)(I:∀m,n=m+1->uK m):uK n:=by
 intro l s M w D hl ab G;obtain⟨o,c,rfl⟩:=D.len;generalize K:ju n l 0=F;have C:=bZ K;have ad:F<=100:=by
  rw[<-K];exact pQ (λu=>ah (y_ n u) X) l 0 (ar _)
 clear K;go_enter func302,ntmps302;go_wp2_with fail
 go_loop [3,8] (λa i=>∃(k p:Nat),k<=l.length/\i=.int .i64 k/\a=.int .i64 p/\p<=100/\Hid (ju n (l.drop k) p=F)) (λ_ i=>M.length-(intOf i).toNat)
 case atStart=>exact⟨0,0,ar _,rfl,rfl,by omega,C⟩
 case round =>
  obtain⟨k,p,hk,rfl,rfl,ha,B⟩:=hrel;by_cases U:k<M.length
  ·obtain⟨y,E⟩:∃y,M[k]?=some y:=⟨_,aq U⟩;obtain⟨u,hu⟩:∃u,l[k]?=some u:=⟨_,aq R5⟩;obtain⟨b,rfl,hc⟩:=D.cell E;have r:=B.Z;have hd:l.drop k=u::l.drop (k+1):=by
    rw[aU R5];rw[aq R5]at hu;cases hu;rfl
   rw[hd]at r;have z:Hid (ju n (l.drop (k+1)) (max p (bY.p8 n u))=F):=r;have N:=y_ n u;rcases(G k u y hu E).fY with⟨j,rfl,rfl,hj⟩|⟨d,rfl,rfl,hb⟩|⟨Q,P,Y,aa,V,rfl,rfl,L,T,h2,O⟩
   ·rw[LU]at z;clear r B C hd G hu E D I;go_wp2_with(go_at_call 338;refine(FV _ _).mono ?_;rintro e Z ⟨rfl,rfl⟩);exact⟨⟨k+1,max p 0,by omega,by go_num,by simp,by omega,z⟩,by simp[intOf];omega⟩
   ·rw[Iu]at z;clear r B C hd G hu E D I;go_wp2_with(go_at_call 337;refine(FW _ _).mono ?_;rintro e Z ⟨rfl,rfl⟩);exact⟨⟨k+1,max p 0,by omega,by go_num,by simp,by omega,z⟩,by simp[intOf];omega⟩
   subst V;have J:=I Q rfl P Y aa w L T R5 O;rw[Iv]at z N;obtain⟨o2,c2,rfl⟩:=L.len;generalize ju Q P 0+1=q at z J N;have R:=bZ J;clear r B C hd G hu E D I J O L;go_wp2_with(go_at_call 302;refine dL R.Z ?_);exact⟨⟨k+1,max p q,by omega,by go_num,by congr 1;omega,by omega,z⟩,by simp[intOf];omega⟩
  have r:=B.Z;rw[aT R5]at r;have S:F=p:=r.symm;subst S;clear r B C;go_wp2;go_ret;exact⟨rfl,rfl⟩
def xL:∀n,n<=100->uK n
 |0,h=>uL 0 h (λm b=>by omega)
 |n+1,h=>uL (n+1) h (λm b=>by
  obtain rfl:n=m:=R5;exact xL n R5)
def qw(n k):∀l a,ju n l a<=k↔a<=k/\∀u∈l,bY.p8 n u<=k
 |[],a=>by simp[ju]
 |u::l,a=>by
  show ju n l (max a (bY.p8 n u))<=k↔_;rw[qw n k l];simp only[aK,forall_eq_or_imp,<-and_assoc];have:max a (bY.p8 n u)<=k↔a<=k/\bY.p8 n u<=k:=R5;rw[this]
def tZ:∀n v,bY.mJ n v=true->∀k,(bY.mJ k v=true↔bY.p8 n v<=k)
 |n,⟨.inl i⟩,_,k=>by
  have h1:bY.mJ k ⟨.inl i⟩=true:=by cases k<;>rfl
  have h2:bY.p8 n ⟨.inl i⟩=0:=Tp;simp[h1,h2]
 |n,⟨.inr (.inl i)⟩,_,k=>by
  have h1:bY.mJ k ⟨.inr (.inl i)⟩=true:=by cases k<;>rfl
  have h2:bY.p8 n ⟨.inr (.inl i)⟩=0:=Tp;simp[h1,h2]
 |0,⟨.inr (.inr l)⟩,h,_=>by cases h
 |n+1,⟨.inr (.inr l)⟩,h,k=>by
  have b:∀u∈l,bY.mJ n u=true:=by
   have e:l.all (bY.mJ n)=true:=h;simpa using e
  show _↔ju n l 0+1<=k;cases k with
  |zero=>exact⟨λh=>Tl,λh=>R5⟩
  |succ k =>
   show l.all (bY.mJ k)=true↔_;rw[Nat.succ_le_succ_iff,qw];simp only[Rk,ar,true_and];constructor
   ·intro h u hu;exact(tZ n u (b u hu) k).1 (h u hu)
   intro h u hu;exact(tZ n u (b u hu) k).2 (h u hu)
def cZ.mJ{w:Xa}:∀{n:Nat}{v:bY.V}{x:Xb},cZ w n v x->bY.mJ n v=true:=by
 intro n
 induction n with
 |zero =>
  intro v x h;rcases h with⟨i,rfl,_⟩|⟨b,rfl,_⟩
  ·rfl
  rfl
 |succ n j =>
  intro v x h;rcases h with(⟨i,rfl,_⟩|⟨b,rfl,_⟩)|⟨l,s,p,rfl,_,_,m,_,e⟩
  ·rfl
  ·rfl
  show l.all (bY.mJ n)=true;rw[Rk];intro u hu;obtain⟨i,hi,rfl⟩:=R7 hu;exact j (e i _ _ (aq hi) (aq R5))
def cZ.down{w:Xa}:∀{n k:Nat}{v:bY.V}{x:Xb},cZ w n v x->bY.mJ k v=true->cZ w k v x:=by
 intro n
 induction n with
 |zero=>intro k v x h _;exact .leaf h
 |succ n C =>
  intro k v x h b;rcases h with h|⟨l,s,D,rfl,h2,j,r,m,z⟩
  ·exact .leaf h
  cases k with
  |zero=>cases b
  |succ k =>
   have p:∀u∈l,bY.mJ k u=true:=by
    have e:l.all (bY.mJ k)=true:=b;simpa using e
   exact .inr ⟨l,s,D,rfl,h2,j,r,m,λi u y hu B=>C (z i u y hu B) (p u (aJ hu))⟩
end
section
open Tryz
variable{v:Xb}{l:List Xb}
def t_:(prog.info? 111).map (λi=>(i.zero,i.size,i.bytes))=some (some .nilIface,1,16):=S8
def Pz(t)(j:prog.underlying t=some (.slice 111))(w a n c e b):(binOp .eql t (.slice a n c) (.slice none e b)).run prog w=.ok (.bool a.isNone) w :=Lib.run_eql_slice_nil w _ _ a n c e b j
theorem gm.Iz{w:Xa}{base n:Nat}(h:w.ownsRow base 111 1 v n l):gm w v l:=by
 obtain⟨b,h⟩:=h;rw[Rh]at b;rcases h with⟨rfl,rfl⟩|⟨g,e,j,rfl,_,h2,r,u,m,p⟩
 ·exact .inl ⟨rfl,RN b⟩
 rw[Rh]at m p;refine .inr ⟨g,e,j,(0,0),by rw[b],by omega,h2,by omega,λi hi=>?_⟩
 grind
def FX(s l w)(J:gm w s l)(Q:l.length<=100000)(h1:∀u∈l,u.oneCell'=true):Calls prog 301 #[s] w λe B=>∃v,e=.returned v/\gm B v l/\Xc w B:=by
 have S:=Pz 247 underlying247;rcases J with⟨rfl,rfl⟩|⟨b,n,C,D,rfl,h2,p,r,y⟩
 ·go_enter func301,ntmps301;go_wp2;go_ret;exact⟨_,rfl,.inl ⟨rfl,rfl⟩,VM _ _⟩
 have z:∀j u,l[j]?=some u->w.cell? ⟨b,0+j,none⟩=some u:=λj u m=>by
  obtain⟨P,e,h⟩:=gm.cell (.inr ⟨b,n,C,D,rfl,h2,p,r,y⟩) m;cases e;rw[aG];exact h
 obtain⟨N,F,K,L,M⟩:=VW t_;have A:Aside (∀j u,l[j]?=some u->w.cell? ⟨b,0+j,none⟩=some u):=z;clear z p r y;go_enter func301,ntmps301;go_wp2_with(at_builtin;refine wpList_append_own _ rfl _ _ 247 rfl w.1.size 111 N _ 1 16 underlying247 F K L M rfl S4 _ _ _ rfl (World.ownsRow_made w #[] 0 (af _) (ar _) S5) ⟨b,0,none⟩ l.length n l rfl ?qc1 ?qc2 ?qc3 ?qc4 ?qc5 ?qc6 ?_)
 case qc1=>rw[Rh]
 case qc2 =>
  intro j u m;rw[Addr.add_lit];exact Lib.cell?_alloc_some _ (A.out j u m)
 case qc3=>exact h1
 case qc4=>unfold maxLen;omega
 case qc5=>omega
 case qc6=>simp
 intro O T I E R;go_wp2;go_ret;exact⟨O,rfl,gm.Iz (by simpa using I),((VM _ w).alloc (af _) _).grown E S5 (by intro k G;simp[Value.ownBlock]at G;omega)⟩
end
section
open bY
open Tryz
variable{n c:Nat}{l:List V}{b:List Xb}{o:Option Addr}
attribute [local go_sem] ov ow oz oC oD oE oG oH oJ
def jg(w:Xa)(n:Nat)(l:List V)(b:List Xb):Prop :=l.length=b.length/\∀(i:Nat) u y,l[i]?=some u->b[i]?=some y->cZ w n u y
def jg.keeps{w w':Xa}(h:jg w n l b)(e:cT w w'):jg w' n l b :=⟨h.1,λi u y hu j=>(h.2 i u y hu j).keeps e⟩
def jg.one{w:Xa}(h:jg w n l b):∀y∈b,y.oneCell'=true:=by
 intro y e;obtain⟨i,hi,rfl⟩:=R7 e;obtain⟨t,a,h⟩:=(h.2 i _ _ (aq (by rw[h.1];exact hi)) (aq hi)).one;rw[h];rfl
def PL(w:Xa)(r:Except Nat V)(e:Ending)(w':Xa):Prop :=Xc w w'/\(∀v,r=.ok v->∃o n c,e=.returned (.slice o n c)/\cZ w' 3 v (.iface 248 (.slice o n c)))/\(∀c,r=.error c->e=gY c)
def PL.ok{w w':Xa}{v:V}(e:Xc w w')(h:cZ w' 3 v (.iface 248 (.slice o n c))):PL w (.ok v) (.returned (.slice o n c)) w' :=⟨e,λu hu=>(by cases hu;exact⟨o,n,c,rfl,h⟩),λc j=>(by cases j)⟩
def PL.err{w w':Xa}(e:Xc w w'):PL w (.error c) (gY c) w' :=⟨e,λu hu=>(by cases hu),λc j=>(by cases j;rfl)⟩
def nE(l s b w)(J:gm w s b)(p:jg w 3 l b)(U:l.length<=1000):Calls prog 279 #[s] w (PL w (en l)):=by
 have M:=FX s b w J (by rw[<-p.1];omega) p.one;obtain⟨o,c,rfl⟩:=J.len;have r:=bZ M;have I:=λ(L:Xa) (v:Xb) (R:cT w L) (Y:gm L v b)=>xL 3 R5 l v b L Y p.1 U (p.keeps R).2;have z:=bZ I;have S:=p.1;have G:(ju 3 l 0<=2)↔l.all (bY.mJ 2)=true:=by
  rw[qw];simp only[ar,true_and,Rk];have B:∀u∈l,bY.mJ 3 u=true:=λu hu=>by
   obtain⟨i,hi,rfl⟩:=R7 hu;exact(p.2 i _ _ (aq hi) (aq R5)).mJ
  exact⟨λh u hu=>(tZ 3 u (B u hu) 2).2 (h u hu),λh u hu=>(tZ 3 u (B u hu) 2).1 (h u hu)⟩
 have E:=bZ p;have T:ju 3 l 0<=3:=pQ (λu=>y_ 3 u) l 0 (ar _);generalize V:ju 3 l 0=q at I z G T;clear M I p J V;by_cases Q:12<l.length
 ·have D:en l=.error 10:=by rw[en,ag (.inl Q)]
  rw[D];go_enter func279,ntmps279;go_wp2_with(go_at_call 301;refine r.Z.mono ?_;rintro e O ⟨v,rfl,j,m⟩;(obtain⟨K,F,rfl⟩:=j.len));exact⟨rfl,PL.err m⟩
 have aa:((b.length:Int))<=12:=R5;by_cases C:l.all (bY.mJ 2)=true
 ·have D:en l=.ok (vl l):=by rw[en,ae (by rw[C];simp;omega)]
  rw[D];have X:=G.2 C;go_enter func279,ntmps279;go_wp2_with(go_at_call 301;refine r.Z.mono ?_;rintro e O ⟨v,rfl,j,m⟩;(obtain⟨K,F,rfl⟩:=j.len));refine(z.Z _ _ (cT.below m) j).mono ?_;rintro e w2⟨rfl,rfl⟩;have N:=E.Z.keeps (cT.below m);have B:∀u∈l,bY.mJ 2 u=true:=by simpa using C
  have hval:cZ w2 3 (vl l) (.iface 248 (.slice K b.length F)):=.inr ⟨l,_,b,rfl,rfl,j,S,by omega,λi u y hu Z=>(N.2 i u y hu Z).down (B u (aJ hu))⟩;have P:=bZ hval;clear r z E N B hval j;go_wp2;go_ret;exact PL.ok m P.Z
 have D:en l=.error 10:=by rw[en,ag (.inr (by simpa using C))]
 rw[D];have X:3<=q:=by
  rcases Ro q 3 with h|h
  ·exact absurd (G.1 R5) C
  exact h
 go_enter func279,ntmps279;go_wp2_with(go_at_call 301;refine r.Z.mono ?_;rintro e O ⟨v,rfl,j,m⟩;(obtain⟨K,F,rfl⟩:=j.len));refine dL (z.Z _ _ (cT.below m) j) ?_;clear r z E j;go_wp2;exact⟨rfl,PL.err m⟩
end
section
open Tryz
variable{l:Array Oper}{Q:Exit->Act->Xa->Prop}{v:Xb}{xs:List Xb}
attribute [local go_sem] ov ow oz oC oD oE oG oH oJ
theorem IA(n:Nat)(w)(r:0<n)(D:n<=1000):Calls prog 319 #[.slice none 0 0,.int .i64 n] w λe m=>∃v,e=.returned v/\m.ownsRow w.1.size 111 1 v 0 []/\Xc w m:=by
 obtain⟨C,y,z,E,B⟩:=VW t_;have b:=Lib.run_append_nil_zeros (P:=prog) w 248 3 248 111 C .nilIface .i64 .i64 underlying248 underlying3 y z n r R5 R5 (by rw[B];omega);have u:=grownCap_ge w n 0 111;have j:=V5 w n 0 111 Th;generalize grownCap w n 0 111=p at b u j;go_enter func319,ntmps319;go_wp2_with(at_builtin;refine Lib.wpList_append_run _ rfl _ _ 248 3 rfl _ _ rfl rfl _ _ b ?_);go_ret;refine⟨_,rfl,⟨rfl,.inr ⟨w.1.size,p,_,rfl,af _,heap_alloc_new w _,ar _,j,?_,by simp⟩⟩,((VM _ w).alloc (af _) _).drew⟩;simp[size_zeroCells];omega
def FY(w):Calls prog 319 #[.slice none 0 0,.int .i64 0] w λe b=>e=.returned (.slice none 0 0)/\b=w:=by
 go_enter func319,ntmps319;go_wp2;go_ret;exact⟨rfl,rfl⟩
theorem IB(n:Nat)(w)(m:n<=1000):Calls prog 319 #[.slice none 0 0,.int .i64 n] w λe b=>∃v,e=.returned v/\b.ownsRow w.1.size 111 1 v 0 []/\Xc w b:=by
 rcases Nat.eq_zero_or_pos n with rfl|j
 ·refine dL (FY w) ?_;exact⟨_,rfl,⟨rfl,.inl ⟨rfl,rfl⟩⟩,VM _ _⟩
 grind [IA]
def mj{w:Xa}{rest:List Oper}{o:Oper}{a:Act}(C:o.guard=none)(s x t)(F:prog.underlying t=some (.slice 111))(r:o.op=.call {callee:=.builtin .append,args:=#[s,x],argTypes:=#[t,t]})(base v n xs)(E:a.eval s=v)(z:w.ownsRow base 111 1 v n xs)(I m)(hx:a.eval x=I)(T:gm w I m)(h1:∀u∈m,u.oneCell'=true)(Z:n+m.length<=100000)(O:base<=w.1.size)(h:∀y p,p.ownsRow base 111 1 y (n+m.length) (xs++m)->w.grownBy p v.ownBlock->wpList prog l Q rest (a.put o.dst y) p):wpList prog l Q (o::rest) a w:=by
 obtain⟨G,D,U,V,X⟩:=VW t_;rcases T with⟨rfl,rfl⟩|⟨b,B,J,K,rfl,h2,L,M,N⟩
 ·exact wpList_append_own_none C s x t r base 111 G 1 F D v n xs E z hx (h v w Uc (VQ _ _))
 refine wpList_append_own _ C s x t r base 111 G _ 1 16 F D U V X rfl S4 v n xs E z ⟨b,0,none⟩ _ B m hx (by rw[Rh]) (λj u S=>?_) h1 Th R5 O (λy p r R _=>h y p r R);obtain⟨Y,e,P⟩:=gm.cell (.inr ⟨b,B,J,K,rfl,h2,L,M,N⟩) S;cases e;rw[Addr.add_lit,aG];exact P
def AO{w w':Xa}{base n:Nat}(p:w.ownsRow base 111 1 v n xs)(h:w.grownBy w' v.ownBlock){w0:Xa}(e:Below base w0 w)(j:base<=w.1.size):Below base w0 w':=by
 refine e.grown h j (λk b=>?_);obtain⟨_,⟨rfl,_⟩|⟨g,r,u,rfl,m,_⟩⟩:=p
 ·cases b
 cases b;exact m
def CV(G I n r b fz w)(B:w.1[b]?=some (.cells #[G,I] 248 fz))(h1:gm w G n)(h2:gm w I r)(Y:n.length<=100)(Z:r.length<=100)(O:∀u∈n,u.oneCell'=true)(P:∀u∈r,u.oneCell'=true):Calls prog 315 #[.slice (some ⟨b,0,none⟩) 2 2] w λe m=>∃v,e=.returned v/\gm m v (n++r)/\Xc w m:=by
 obtain⟨U,J,rfl⟩:=h1.len;obtain⟨V,K,rfl⟩:=h2.len;have F:=cj B;have E:∀m,Below _ w m->m.cell? ⟨b,0,none⟩=some (.slice U n.length J)/\m.cell? ⟨b,1,none⟩=some (.slice V r.length K):=λm j =>
  ⟨(j.cell (p:=⟨b,0,none⟩) F).trans (by simp[World.cell?,B]),(j.cell (p:=⟨b,1,none⟩) F).trans (by simp[World.cell?,B])⟩
 obtain⟨L,M⟩:=E w (VM _ _);have y:=bZ E;go_enter func315,ntmps315;go_wp2_with fail
 go_loop [3,11] (λa i=>(i=.int .i64 0/\a=.int .i64 0)\/(i=.int .i64 1/\a=.int .i64 (n.length:Int))\/(i=.int .i64 2/\a=.int .i64 ((n.length+r.length:Nat):Int))) (λ_ i=>2-(intOf i).toNat)
 case atStart=>exact .inl ⟨rfl,rfl⟩
 case round =>
  rcases hrel with⟨rfl,rfl⟩|⟨rfl,rfl⟩|⟨rfl,rfl⟩
  ·clear y;go_wp2;exact⟨.inr (.inl ⟨rfl,by simp⟩),by simp[intOf]⟩
  ·clear y;go_wp2;exact⟨.inr (.inr ⟨rfl,by simp⟩),by simp[intOf]⟩
  go_wp2_with(go_at_call 319;refine(IB _ _ R5).mono ?_;rintro e w1 ⟨v1,rfl,R,N⟩)
  go_loopw [6,27] (λv i wr=>Below _ w wr/\((i=.int .i64 0/\wr.ownsRow _ 111 1 v 0 [])\/(i=.int .i64 1/\wr.ownsRow _ 111 1 v _ n)\/(i=.int .i64 2/\wr.ownsRow _ 111 1 v _ _))) (λ_ i _=>2-(intOf i).toNat)
  case atStart=>exact⟨N,.inl ⟨rfl,R⟩⟩
  case round =>
   obtain⟨j,hrel⟩:=hrel;obtain⟨L,M⟩:=y.Z _ j;have z:=j.size;rcases hrel with⟨rfl,p⟩|⟨rfl,p⟩|⟨rfl,p⟩
   ·have S:=h1.keeps (cT.below j);go_wp2_with(at_builtin;refine mj rfl _ _ 248 underlying248 rfl _ _ _ _ rfl p _ n rfl S O R5 z ?_;intro X m D C);exact⟨⟨AO p C j z,.inr (.inl ⟨rfl,by simpa using D⟩)⟩,by simp[intOf]⟩
   ·have T:=h2.keeps (cT.below j);go_wp2_with(at_builtin;refine mj rfl _ _ 248 underlying248 rfl _ _ _ _ rfl p _ r rfl T P R5 z ?_;intro X m D C);exact⟨⟨AO p C j z,.inr (.inr ⟨rfl,D⟩)⟩,by simp[intOf]⟩
   clear y;go_wp2;go_ret;exact⟨_,rfl,gm.Iz p,j⟩
end
section
open bY
open Tryz
variable{n:Nat}{l:List V}{p:List Xb}
attribute [local go_sem] ov ow oz oC oD oE oG oH oJ
def kd{v u:V}(h:(∃i,v=vn i)/\(∀j,u≠vn j)\/(∃b,v=vw b)/\(∀b,u≠vw b)\/(∃l,v=vl l)/\(∀l,u≠vl l)):plus v u=.error 9:=by
 rcases u with⟨j|b|m⟩
 all_goals rcases h with⟨⟨i,rfl⟩,h⟩|⟨⟨a,rfl⟩,h⟩|⟨⟨l,rfl⟩,h⟩
 all_goals first|rfl|exact absurd rfl (h _)
def jg.up{w:Xa}(h:jg w n l p):jg w (n+1) l p :=⟨h.1,λi u y hu b=>(h.2 i u y hu b).up⟩
def jg.append{w:Xa}{m:List V}{zs:List Xb}(h:jg w n l p)(e:jg w n m zs):jg w n (l++m) (p++zs):=by
 refine⟨by simp[h.1,e.1],λi u y hu b=>?_⟩;rcases Ro i l.length with hi|hi
 ·rw[aP hi]at hu;rw[aP (by rw[<-h.1];exact hi)]at b;exact h.2 i u y hu b
 rw[aX hi]at hu;rw[aX (by rw[<-h.1];exact hi),<-h.1]at b;exact e.2 _ u y hu b
def IC{v u:V}{x y:Xb}(w)(hx:cZ w 3 v x)(r:cZ w 3 u y):Calls prog 303 #[.agg #[x,y]] w (PV w (plus v u)):=by
 have B:∀o,Xc w (w.alloc o):=λo=>(VM _ _).alloc (af _) _;rcases hx.fY with⟨i,rfl,rfl,hi⟩|⟨b,rfl,rfl,hb⟩|⟨m,l,s,p,hm,rfl,rfl,G,O,am,D⟩
 ·rcases r.nD with⟨j,rfl,rfl,hj⟩|⟨hn,t,a,rfl,ht⟩
  ·clear hx r;show Calls _ _ _ _ (PV w (.ok (vn (bY.wrap (i+j)))));go_enter func303,ntmps303;go_wp2_with(go_at_call 280;refine(eK _ _).mono ?_;rintro e z ⟨rfl,rfl⟩);go_ret;exact PV.num (B _) (by rw[qT]) (ku _).1 (ku _).2
  rw[kd (.inl ⟨⟨_,rfl⟩,hn⟩)];clear hx r hn;go_enter func303,ntmps303;go_wp2_with fail;refine(gC _ _ _ ht).mono ?_;rintro e z⟨rfl,rfl⟩;exact⟨rfl,PV.err (B _)⟩
 ·rcases r.fY with⟨j,rfl,rfl,hj⟩|⟨c,rfl,rfl,Y⟩|⟨m,l,s,p,hm,rfl,rfl,G,O,am,D⟩
  ·rw[kd (.inr (.inl ⟨⟨_,rfl⟩,λb h=>Tl⟩))];clear hx r;go_enter func303,ntmps303;go_wp2;exact⟨rfl,PV.err (B _)⟩
  ·clear hx r;by_cases K:30<b.size+c.size
   ·have C:plus (vw b.1.1) (vw c.1.1)=.error 10:=by
     simp only[plus,vw,qU];rw[ag K]
    rw[C];go_enter func303,ntmps303;go_wp2_with fail;refine(LQ _ _ _ hb Y K).mono ?_;rintro e z⟨rfl,rfl⟩;exact⟨rfl,PV.err (B _)⟩
   have C:plus (vw b.1.1) (vw c.1.1)=.ok (vw (b.1.1++c.1.1)):=by
    simp only[plus,vw,qU];rw[ae K]
   rw[C];go_enter func303,ntmps303;go_wp2_with(go_at_call 314;refine(LO _ _ _ R5).mono ?_;rintro e z ⟨rfl,rfl⟩);go_ret;exact PV.word (B _) S5 Tc
  rw[kd (.inr (.inl ⟨⟨_,rfl⟩,λb h=>Tl⟩))];clear hx r;go_enter func303,ntmps303;go_wp2;exact⟨rfl,PV.err (B _)⟩
 obtain⟨o,c,rfl⟩:=G.len;rcases r.fY with⟨j,rfl,rfl,hj⟩|⟨c,rfl,rfl,Y⟩|⟨m2,I,s2,E,aC,rfl,rfl,P,aa,ay,R⟩
 ·rw[kd (.inr (.inr ⟨⟨_,rfl⟩,λb h=>Tl⟩))];clear hx r D;go_enter func303,ntmps303;go_wp2_with fail;refine(lr _ _ _ (.inr rfl)).mono ?_;rintro e z⟨rfl,rfl⟩;exact⟨rfl,PV.err (B _)⟩
 ·rw[kd (.inr (.inr ⟨⟨_,rfl⟩,λb h=>Tl⟩))];clear hx r D;go_enter func303,ntmps303;go_wp2_with fail;refine(lr _ _ _ (.inl rfl)).mono ?_;rintro e z⟨rfl,rfl⟩;exact⟨rfl,PV.err (B _)⟩
 obtain⟨o2,T,rfl⟩:=P.len;obtain rfl:m=2:=R5;obtain rfl:m2=2:=R5;show Calls _ _ _ _ (PV w (en (l++I)));generalize C:en (l++I)=ax;have ak:=bZ C;clear C;go_enter func303,ntmps303;go_wp2_with(go_at_call 278;refine(pO _ _ _ _).mono ?_;rintro e z ⟨rfl,rfl⟩);generalize ai:(w.alloc (Obj.cells #[Value.iface 248 (Value.slice o p.length c),Value.iface 248 (Value.slice o2 E.length T)] 370))=J;have ap:Xc w J:=by rw[<-ai];exact B _
 have av:J.1.size=w.1.size+1:=by rw[<-ai];simp
 have L:Xc w (J.alloc (Obj.cells #[Value.slice o p.length c,Value.slice o2 E.length T] 248)):=ap.alloc R5 _;have N:=cT.below L;refine(CV _ _ p E (w.1.size+1) (0,0) _ (by rw[<-av];exact heap_alloc_new J _) (G.keeps N) (P.keeps N) R5 R5 (jg.one ⟨O,D⟩) (jg.one ⟨aa,R⟩)).mono ?_;rintro e z⟨v3,rfl,Q,X⟩;have F:Xc w z:=L.trans (X.mono Tc);have ad:jg z 3 (l++I) (p++E):=jg.append (jg.up (jg.keeps ⟨O,D⟩ (cT.below F))) (jg.up (jg.keeps ⟨aa,R⟩ (cT.below F)));have M:=nE (l++I) v3 (p++E) z Q ad Tc;obtain⟨o3,c3,rfl⟩:=Q.len;rw[aj,ak.Z]at M;have S:=bZ M;clear M ad Q X N L D R hx r G P;go_wp2_with fail;refine S.Z.mono ?_;rintro e w3⟨ao,ab,Z⟩;have U:Xc w w3:=F.trans (ao.mono F.size);cases ax with
 |error c => 
  obtain rfl:=Z c rfl;exact⟨rfl,PV.err U⟩
 |ok v =>
  obtain⟨o4,n4,c4,rfl,hval⟩:=ab v rfl;have HV:=bZ hval;clear hval ab Z S;go_wp2;go_ret;exact PV.ok U HV.Z
end
section
open bY
def wrap_u32(n:Nat)(h:n<4294967296):IntKind.u32.wrap n=n:=by
 have:IntKind.u32.wrap (n:Int)=(n:Int)%4294967296:=by
  simp[IntKind.wrap,IntKind.bits,IntKind.signed]
 rw[this];omega
def IK(a b:Nat)(j:a<4294967296)(l:b<4294967296):bits .xor .u32 a (b)=((Nat.xor a b:Nat):Int):=by
 have h:bits .xor .u32 (a:Int) (b:Int)=IntKind.u32.wrap (((BitVec.ofInt 32 (a:Int)) ^^^ (BitVec.ofInt 32 (b:Int))).toNat:Int):=rfl;rw[h,BitVec.toNat_xor];have e:∀n:Nat,n<4294967296->(BitVec.ofInt 32 (n:Int)).toNat=n:=λn m=>by
  rw[BitVec.toNat_ofInt];have:((n:Int)%((2^32:Nat):Int))=n:=by
   show(n:Int)%4294967296=n;omega
  rw[this];rfl
 rw[e a j,e b l];refine wrap_u32 _ ?_;exact Nat.xor_lt_two_pow (n:=32) j l
def FZ(n c):sh n c<4294967296:=by
 unfold sh;exact Sv (Nat.xor n c.toNat*16777619) R5
def CZ{α β:Type}(f)(a:α)(l)(c:β):List.foldl f a (l++[c])=f (List.foldl f a l) c:=by
 rw[List.foldl_append];rfl
def uW(l:a_)(c:UInt8):jX (l++[c])=sh (jX l) c:=CZ sh 2166136261 l c
def uX(l:a_):jX l<4294967296:=by
 rcases List.eq_nil_or_concat l with rfl|⟨b,a,rfl⟩
 ·simp only[jX,List.foldl_nil];omega
 rw[List.concat_eq_append,uW];exact FZ _ _
def C0(s:ba)(k)(h:k<s.size):s.1.1.take (k+1)=s.1.1.take k++[s[k]]:=by
 rw[Tv Ts];rfl
def xR(s:ba)(k)(h:k<s.size):bits .xor .u32 ((jX (s.1.1.take k):Nat):Int) ((s[k].toNat)%4294967296)*16777619%4294967296=((jX (s.1.1.take (k+1)):Nat):Int):=by
 have b:s[k].toNat<256:=s[k].toNat_lt;rw[C0 s k h,uW,show((s[k].toNat:Int)%4294967296)=(s[k].toNat:Int) by omega,IK _ _ (uX _) R5,sh];generalize Nat.xor (jX (List.take k s.1.1)) s[k].toNat=x;omega
def IP(s w)(p:s.size<=281474976710656):Calls Tryz.prog 138 #[.string s] w λe j=>e=.returned (.int .u32 (jX s.1.1))/\j=w:=by
 go_enter Tryz.func138,Tryz.ntmps138;go_wp2
 go_loop [3,7] (λn i=>∃k:Nat,k<=s.size/\i=.int .i64 k/\n=.int .u32 (jX (s.1.1.take k):Int)) (λ_ i=>s.size-(intOf i).toNat)
 case atStart=>exact⟨0,ar _,rfl,rfl⟩
 case round =>
  obtain⟨k,m,rfl,rfl⟩:=hrel;by_cases b:k<s.size
  ·go_wp2;refine⟨⟨k+1,by omega,by go_num,by rw[xR s k b]⟩,?_⟩;simp[intOf];omega
  go_wp2;go_ret;have e:s.1.1.take k=s.1.1:=Ri Tc;exact⟨congrArg (λl=>Ending.returned (.int .u32 (jX l:Int))) e,rfl⟩
end
section
open Tryz
open Go.Maps (Keyed string_keyed)
def str(l:a_):Value:=.string ⟨l.toArray⟩
theorem str_inj{a b:a_}(h:str a=str b):a=b:=by
 grind [str]
def dG(s):str s.1.1=.string s:=by
 unfold str;simp
def law:Keyed prog 9:=string_keyed underlying9
theorem jJ(l)(h:l.length<=maxLen):keyOf prog 9 (str l)=some (.string l):=by
 have:=WideMaps.keyOf_string_mk (P:=prog) (k:=9) underlying9 (s:=⟨l.toArray⟩) (by show l.toArray.size<=_;simpa using h)
 grind [str]
def fQ(w:World)(b:Nat)(l:List (a_×Value)):Prop :=∃j clock,w.1[b]?=some (.map j clock)/\j.size<=maxLen/\Stamped j clock/\j.toList.map (λx=>(x.key,x.val))=l.map (λp=>(str p.1,p.2))/\∀p∈l,p.1.length<=maxLen
theorem fQ.lt{w:World}{b:Nat}{l:List (a_×Value)}(h:fQ w b l):b<w.1.size:=by
 obtain⟨j,clock,m,_⟩:=h
 grind
def fQ.same{w w':World}{b:Nat}{l:List (a_×Value)}(h:fQ w b l)(m:w'.1[b]?=w.1[b]?):fQ w' b l:=by
 obtain⟨j,clock,h1,h2⟩:=h;exact⟨j,clock,m.trans h1,h2⟩
theorem fQ.isMap{w:World}{b:Nat}{l:List (a_×Value)}(h:fQ w b l):∃j clock,w.1[b]?=some (.map j clock):=by
 obtain⟨j,clock,h1,_⟩:=h
 grind
def xS(w:World):fQ (w.alloc (.map #[] 0)) w.1.size [] :=⟨#[],0,(MapKept.heap_alloc w _).1,by simp,stamped_empty 0,rfl,λp b=>by simp at b⟩
def qY{α β:Type}(f:α->β):∀{l:List α},(l.map f).Nodup->l.Nodup
 |[],_=>by simp
 |a::l,h=>by
  simp only[Rr,R1]at h ⊢;exact⟨λb=>h.1 (aE.2 ⟨a,b,rfl⟩),qY f h.2⟩
theorem fQ.nodup{w:World}{b:Nat}{l:List (a_×Value)}(h:fQ w b l):(l.map (·.1)).Nodup:=by
 obtain⟨j,clock,h1,h2,m,n,r⟩:=h;have u:=m.2.2;have p:j.toList.map (·.key)=(l.map (·.1)).map str:=by
  have:=congrArg (List.map Prod.fst) n;simpa[Rb,R2]using this
 grind
theorem entries{b:Array MapEntry}{l:List (a_×Value)}(m:b.toList.map (λx=>(x.key,x.val))=l.map (λp=>(str p.1,p.2)))(j:Nat):(b.toList[j]?).map (λx=>(x.key,x.val))=(l[j]?).map (λp=>(str p.1,p.2)):=by
 have:=congrArg (λz=>z[j]?) m
 grind
def lf{α:Type}:∀{l:List (a_×α)}{j:Nat}{k:a_}{a:α},(l.map (·.1)).Nodup->l[j]?=some (k,a)->bY.cv l k=some a
 |[],j,k,a,_,h=>by simp at h
 |p::l,0,k,a,_,h=>by
  simp at h;rw[h,bY.ee,ag rfl]
 |p::l,j+1,k,a,b,h=>by
  simp at h;simp only[Rr,R1]at b;rw[bY.ee,ae (λe=>b.1 ?_)]
  ·exact lf b.2 h
  rw[e];exact aE.2 ⟨(k,a),aJ h,rfl⟩
theorem qZ{w:World}{b:Nat}{l:List (a_×Value)}{k:a_}{m:Array MapEntry}{clock:Nat}(B:k.length<=maxLen)(C:Stamped m clock)(u:m.toList.map (λx=>(x.key,x.val))=l.map (λp=>(str p.1,p.2)))(D:∀p∈l,p.1.length<=maxLen):((Instr.findKey 9 (str k) m.toList).run prog w=.ok none w/\bY.cv l k=none/\∀x∈m.toList,x.key≠str k) \/∃j v n,(Instr.findKey 9 (str k) m.toList).run prog w=.ok (some (j,v)) w/\bY.cv l k=some v/\l[j]?=some (k,v)/\m.toList[j]?=some n/\n.key=str k/\n.val=v:=by
 have I:(l.map (·.1)).Nodup:=by
  have B:=C.2.2;have J:m.toList.map (·.key)=(l.map (·.1)).map str:=by
   have:=congrArg (List.map Prod.fst) u;simpa[Rb,R2]using this
  grind
 have G:∀x∈m.toList,∃p∈l,x.key=str p.1/\x.val=p.2:=by
  intro x hx;obtain⟨j,F⟩:=Sa hx;have:=entries u j
  grind
 rcases law.find w (jJ k B) _ (λx hx=>by
  obtain⟨p,r,h1,_⟩:=G x hx;exact⟨_,by rw[h1];exact jJ p.1 (D p r)⟩) with⟨h1,h2⟩|⟨j,n,h1,h2,z⟩
 ·refine .inl ⟨h1,bY.jz.2 (λp r e=>?_),h2⟩;obtain⟨j,F⟩:=Sa r;have:=entries u j
  grind
 have:=entries u j;rw[h2]at this;cases y:l[j]? with
 |none=>rw[y]at this;simp at this
 |some p =>
  rw[y]at this;simp at this;have r:p=(k,n.val):=by
   have:p.1=k:=str_inj (this.1.symm.trans z);exact Prod.ext this (by rename_i E;exact E.2.symm)
  exact .inr ⟨j,n.val,n,h1,lf I (y.trans (by rw[r])),y.trans (by rw[r]),h2,z,rfl⟩
section
variable {t e:TypeId}
theorem fQ.cv{w:World}{b:Nat}{l:List (a_×Value)}{k:a_}(h:fQ w b l)(r:prog.underlying t=some (.map 9 e))(p:k.length<=maxLen){z:Value}(C:(zeroValue e).run prog w=.ok z w):(Instr.lookup t (.map (some b)) (str k) true).run prog w=.ok (match bY.cv l k with|some v=>.tuple #[v,.bool true]|none=>.tuple #[z,.bool false]) w:=by
 obtain⟨E,clock,h1,h2,u,y,B⟩:=h;rcases qZ (w:=w) (b:=b) p u y B with⟨m,n,_⟩|⟨j,v,D,m,n,_⟩
 ·rw[n];simp[Instr.lookup,run_underlying r,MapKept.run_getObj_map h1,law.check w _ (jJ k p),m,C,Result.andThen]
 rw[n];simp[Instr.lookup,run_underlying r,MapKept.run_getObj_map h1,law.check w _ (jJ k p),m,Result.andThen]
def fQ.Ey{w:World}{b:Nat}{l:List (a_×Value)}{k:a_}(h:fQ w b l)(r:prog.underlying t=some (.map 9 e))(p:k.length<=maxLen){z:Value}(C:(zeroValue e).run prog w=.ok z w):(Instr.lookup t (.map (some b)) (str k) false).run prog w=.ok ((bY.cv l k).getD z) w:=by
 obtain⟨E,clock,h1,h2,u,y,B⟩:=h;rcases qZ (w:=w) (b:=b) p u y B with⟨m,n,_⟩|⟨j,v,D,m,n,_⟩
 ·rw[n];simp[Instr.lookup,run_underlying r,MapKept.run_getObj_map h1,law.check w _ (jJ k p),m,C,Result.andThen]
 rw[n];simp[Instr.lookup,run_underlying r,MapKept.run_getObj_map h1,law.check w _ (jJ k p),m,Result.andThen]
def kK{w:World}{b:Nat}(o):w.grownBy (setBlock w b o) (some b) :=⟨rfl,rfl,rfl,by simp[setBlock],λk _ j=>by
  have:k≠b:=λe=>j TJ;simp[setBlock,this.symm]⟩
def mR{w:World}{b:Nat}{o j:Obj}(h:w.1[b]?=some j):(setBlock w b o).1[b]?=some o:=by
 have:=(Rl.1 h).1;simp[setBlock,this]
theorem zg{α:Type}{l:List (a_×α)}{k:a_}{v:α}(h:bY.cv l k=none):bY.put l k v=l++[(k,v)]:=by
 grind [bY.put]
def C1{α:Type}:∀{l:List (a_×α)}{j:Nat}{k:a_}{u v:α},(l.map (·.1)).Nodup->l[j]?=some (k,u)->bY.put l k v=l.set j (k,v):=by
 intro l j k u v m b;have n:=lf m b;unfold bY.put;rw[n,ag (show(some u).isSome=true from rfl)];clear n
 induction l generalizing j with
 |nil=>simp at b
 |cons p l z =>
  simp only[Rr,R1]at m;cases j with
  |zero =>
   simp at b;subst b;simp only[Rr,Xd,beq_self_eq_true,aO,List.cons.injEq,true_and];rw[RH (g:=id) (λq y=>?_),List.map_id];rw[ae]
   ·rfl
   intro e;exact m.1 (aE.2 ⟨q,y,by simpa using e⟩)
  |succ j =>
   simp at b;have r:¬p.1=k:=λe=>m.1 (aE.2 ⟨(k,u),aJ b,e.symm⟩);simp only[Rr,Xe];rw[ae Ua,z m.2 b]
theorem kL{α:Type}{l:List (a_×α)}{k:a_}{v:α}{p:a_×α}(h:p∈bY.put l k v):p∈l\/p=(k,v):=by
 grind [bY.put]
theorem fQ.put{w:World}{b:Nat}{l:List (a_×Value)}{k:a_}(h:fQ w b l)(J:prog.underlying t=some (.map 9 e))(r:k.length<=maxLen)(S:l.length<maxLen)(v):∃z,(Instr.mapUpdate t (.map (some b)) (str k) v).run prog w=.ok () z/\fQ z b (bY.put l k v)/\w.grownBy z (some b)/\z.1.size=w.1.size:=by
 have P:=h.nodup;obtain⟨m,clock,h1,h2,D,y,M⟩:=h;have hlen:m.size=l.length:=by have:=congrArg List.length y;simpa using this
 have G:∀p∈bY.put l k v,p.1.length<=maxLen:=λp I=>by
  rcases kL I with I|rfl
  ·grind
  exact r
 rcases qZ (w:=w) (b:=b) r D y M with⟨B,F,C⟩|⟨j,u,E,B,F,C,K,L,Q⟩
 ·refine⟨setBlock w b _,?_,⟨m.push ⟨str k,v,clock⟩,clock+1,mR h1,by simp;omega,stamped_push D C,?_,G⟩,kK _,by simp[setBlock]⟩
  ·simp[Instr.mapUpdate,run_underlying J,MapKept.run_getObj_map h1,law.check w false (jJ k r),B,MapKept.run_setObj_map _ h1,Result.andThen,setBlock]
  rw[zg F,Array.toList_push,aZ,aZ,y];rfl
 have N:m[j]?=some E:=by grind
 have O:(m.modify j (λn=>{n with key:=str k,val:=v})).toList=m.toList.set j {E with key:=str k,val:=v}:=by rw[Array.toList_modify,modify_eq_set _ _ _ _ K]
 refine⟨setBlock w b (.map (m.modify j (λn=>{n with key:=str k,val:=v})) clock),?_,⟨m.modify j (λn=>{n with key:=str k,val:=v}),clock,mR h1,by simpa using h2,stamped_modify D _ _ (λ_ _=>rfl) (λn _ R=>?_),?_,G⟩,kK _,by simp[setBlock]⟩
 ·simp[Instr.mapUpdate,run_underlying J,MapKept.run_getObj_map h1,law.check w false (jJ k r),B,N,L,law.stays w (jJ k r),MapKept.run_setObj_map _ h1,Result.andThen,setBlock]
 ·grind
 rw[C1 P C,O,R3,R3,y]
def C2{α:Type}:∀{l:List (a_×α)}{j:Nat}{k:a_}{u:α},(l.map (·.1)).Nodup->l[j]?=some (k,u)->bY.del l k=l.eraseIdx j:=by
 intro l j k u m b;unfold bY.del
 induction l generalizing j with
 |nil=>simp at b
 |cons p l y =>
  simp only[Rr,R1]at m;cases j with
  |zero =>
   simp at b;subst b;rw[R_,ae S5,List.eraseIdx_cons_zero,S6];intro q r;have:¬q.1=k:=λe=>m.1 (aE.2 ⟨q,r,e⟩);simp[this]
  |succ j =>
   simp at b;have n:¬p.1=k:=λe=>m.1 (aE.2 ⟨(k,u),aJ b,e.symm⟩);rw[R_,ag T6,List.eraseIdx_cons_succ,y m.2 b]
theorem AU{α:Type}{l:List (a_×α)}{k:a_}(h:bY.cv l k=none):bY.del l k=l:=by
 unfold bY.del;rw[S6];intro q b
 grind [bY.jz.1]
theorem fQ.del{w:World}{b:Nat}{l:List (a_×Value)}{k:a_}{ty:TypeId}(h:fQ w b l)(F:prog.underlying t=some (.map 9 e))(D:k.length<=maxLen):∃n,(Builtin.delete_ #[t,9] ty #[.map (some b),str k]).run prog w=.ok (.tuple #[]) n/\fQ n b (bY.del l k)/\w.grownBy n (some b)/\n.1.size=w.1.size:=by
 have I:=h.nodup;obtain⟨m,clock,h1,h2,z,B,C⟩:=h;rcases qZ (w:=w) (b:=b) D z B C with⟨r,y,E⟩|⟨j,u,L,r,y,E,G,M,N⟩
 ·refine⟨setBlock w b _,?_,⟨m,clock,mR h1,h2,z,by rw[AU y];exact B,by rw[AU y];exact C⟩,kK _,by simp[setBlock]⟩;simp[Builtin.delete_,run_underlying F,MapKept.run_getObj_map h1,law.check w _ (jJ k D),r,MapKept.run_setObj_map _ h1,Result.andThen,setBlock]
 have O:=(aA.1 G).1;have P:j<m.size:=R5;have K:(m.eraseIdxIfInBounds j).toList=m.toList.eraseIdx j:=by
  simp_all
 refine⟨setBlock w b _,?_,⟨m.eraseIdxIfInBounds j,clock,mR h1,ah (MapFrom.size_erase m j) h2,stamped_erase z j,?_,?_⟩,kK _,by simp[setBlock]⟩
 ·simp[Builtin.delete_,run_underlying F,MapKept.run_getObj_map h1,law.check w _ (jJ k D),r,MapKept.run_setObj_map _ h1,Result.andThen,setBlock]
 ·rw[K,C2 I E,map_eraseIdx,map_eraseIdx,B]
 intro p J;exact C p ((SM).subset J)
def fQ.clear{w:World}{b:Nat}{l:List (a_×Value)}{ty:TypeId}(h:fQ w b l)(n:prog.underlying t=some (.map 9 e)):∃j,(Builtin.clear_ #[t] ty #[.map (some b)]).run prog w=.ok (.tuple #[]) j/\fQ j b []/\w.grownBy j (some b)/\j.1.size=w.1.size:=by
 obtain⟨r,clock,h1,h2,u,y,z⟩:=h;refine⟨setBlock w b _,?_,⟨#[],clock,mR h1,by simp,stamped_empty clock,rfl,λp m=>by simp at m⟩,kK _,by simp[setBlock]⟩;simp[Builtin.clear_,run_underlying n,MapKept.run_getObj_map h1,MapKept.run_setObj_map _ h1,Result.andThen,setBlock]
def fQ.len{w:World}{b:Nat}{l:List (a_×Value)}{ty:TypeId}(h:fQ w b l)(n:prog.underlying t=some (.map 9 e)):(Builtin.len_ #[t] ty #[.map (some b)]).run prog w=.ok (.int .i64 l.length) w:=by
 obtain⟨j,clock,h1,h2,p,m,r⟩:=h;have hlen:j.size=l.length:=by have:=congrArg List.length m;simpa using this
 simp[Builtin.len_,run_underlying n,MapKept.run_getObj_map h1,Result.andThen,hlen,goInt]
end
end
section
open bY
open Tryz
variable{u k:Nat}
def jY(w:Xa):Prop:=w.cell? ⟨7,15,none⟩=some (.int .u8 4)
def b1:bits .and .i64 16 15=0:=S4
def b2:IntKind.u64.wrap (bits .and .u64 16 (IntKind.u64.wrap (-16))*285870213051353865) / 288230376151711744=15:=S4
attribute [local go_sem] b1 b2
def LX(w):Calls prog 267 #[.int .i64 16] w λe b=>e=.returned (.bool true)/\b=w:=by
 go_enter func267,ntmps267;go_wp2;go_ret;exact⟨rfl,rfl⟩
def PA(w)(h:jY w):Calls prog 299 #[.int .u64 16] w λe b=>e=.returned (.int .i64 4)/\b=w:=by
 unfold jY at h;go_enter func299,ntmps299;go_wp2;go_ret;exact⟨rfl,rfl⟩
def Oq(w)(h:jY w):Calls prog 268 #[.int .u64 16] w λe b=>e=.returned (.int .i64 4)/\b=w:=by
 go_enter func268,ntmps268;go_wp2_with(go_at_call 299;refine dL (PA _ h) ?_);go_ret;exact⟨rfl,rfl⟩
def PB(u:Nat)(hu:u<18446744073709551616):bits .and .u64 u 15=((u%16:Nat):Int):=by
 have h:bits .and .u64 _ 15=IntKind.u64.wrap (((BitVec.ofInt 64 (u:Int)) &&& (BitVec.ofInt 64 15)).toNat:Int):=rfl;rw[h,BitVec.toNat_and];have e:(BitVec.ofInt 64 (u:Int)).toNat=u:=by
  rw[BitVec.toNat_ofInt];have:((u:Int)%((2^64:Nat):Int))=u:=by
   show(u:Int)%18446744073709551616=u;omega
  rw[this];rfl
 rw[e];have b:(BitVec.ofInt 64 15).toNat=2^4-1:=rfl;rw[b,Nat.and_two_pow_sub_one_eq_mod];have:IntKind.u64.wrap (((u%2^4:Nat)):Int)=((u%16:Nat):Int)%18446744073709551616:=by
  simp[IntKind.wrap,IntKind.bits,IntKind.signed]
 rw[this];omega
def gQ(u:Nat):Nat->a_
 |0=>[]
 |k+1=>kh (u / 16^k%16)::gQ u k
def jj(u):∀k,(gQ u k).length=k
 |0=>rfl
 |k+1=>by rw[gQ,aM,jj u k]
def PD:zeroCells341.size=65:=S8
def zh:ba:=⟨#[48,49,50,51,52,53,54,55,56,57,97,98,99,100,101,102,103,104,105,106,107,108,109,110,111,112,113,114,115,116,117,118,119,120,121,122]⟩
def IQ:∀d:Fin 16,(zh[d.val]'(by have:=d.isLt;show d.val<36;omega))=kh d.val:=S4
def Ez{d:Nat}(h:d<16)(h':d<zh.size):zh[d]'h'=kh d:=IQ ⟨d,h⟩
def uY(w wr:Xa)(u k:Nat):Prop :=∃b,wr.1[w.1.size]?=some (.cells b 341 (0,0))/\b.size=65/\Xc w wr/\∀j,j<k->b[65-k+j]?=((gQ u k)[j]?).map λc=>.int .u8 (c.toNat:Int)
def uY.start(w u):uY w (w.alloc (.cells zeroCells341 341)) u 0 :=⟨_,heap_alloc_new w _,PD,(VM _ w).alloc (af _) _,λj b=>by omega⟩
def uY.step{w wr:Xa}(h:uY w wr u k)(n:k<65):uY w (wr.setCell ⟨w.1.size,65-(k+1),none⟩ (.int .u8 ((kh (u / 16^k%16)).toNat:Int))) u (k+1):=by
 obtain⟨b,h1,h2,e,l⟩:=h;refine⟨b.setIfInBounds (65-(k+1)) (.int .u8 ((kh (u / 16^k%16)).toNat:Int)),?_,by simpa using h2,e.setCell (af _) _,λj m=>?_⟩
 ·simp[World.setCell,Rq,h1]
 rw[Array.getElem?_setIfInBounds];cases j with
 |zero =>
  rw[ag R5,ag R5,gQ];rfl
 |succ j =>
  rw[ae R5,gQ];have:=l j R5;rw[show 65-(k+1)+(j+1)=65-k+j by omega,this];simp
def uY.cell{w wr:Xa}{j:Nat}(h:uY w wr u k)(n:k<=65)(b:j<(gQ u k).length):wr.cell? ⟨w.1.size,65-k+j,none⟩=some (.int .u8 ((gQ u k)[j].toNat:Int)):=by
 obtain⟨l,h1,h2,m,e⟩:=h;rw[jj]at b;have:=e j b;rw[aq (by rw[jj];exact b)]at this;simp[World.cell?,h1,this]
def uY.can{w wr:Xa}{i:Nat}(h:uY w wr u k)(hi:i<65):(∃v,wr.cell? ⟨w.1.size,i,none⟩=some v)/\wr.frozen? ⟨w.1.size,i,none⟩=false:=by
 obtain⟨b,h1,h2,e,j⟩:=h;refine⟨⟨b[i]' R5,?_⟩,?_⟩
 ·simp[World.cell?,h1,RV (show i<b.size by omega)]
 simp[World.frozen?,h1]
theorem addr_add(B o j):(⟨B,o,none⟩:Addr).add j=⟨B,o+j,none⟩:=by
 cases j with
 |zero=>simp[Addr.add]
 |succ j=>simp[Addr.add]
def PF:prog.underlying 341=some (.array (prog.arrayLen 341) (prog.elem 341)):=S8
def IU:prog.arrayLen 341=65:=S8
def LY(w):(sizeOf (prog.elem 341)).run prog w=.ok 1 w:=S8
def IV(B k:Nat)(e:k<=7)(W):(Instr.sliceAt 341 (.pointer (some ⟨B,0,none⟩)) (some (.int .i64 (65-k-1))) none none).run prog W=.ok (.slice (some ⟨B,65-k-1,none⟩) (k+1) (k+1)) W:=by
 rw[run_sliceAt_array_l W 341 ⟨B,0,none⟩ PF .i64 _ R5 (by rw[IU];omega),LY,IU];have h1:(65-(k:Int)-1).toNat=65-k-1:=R5;have h2:¬65=65-k-1:=R5;have b:65-(65-k-1)=k+1:=R5;simp[Result.andThen,slicedAt,h1,h2,b,Addr.add];omega
def xh(u:Nat)(w)(hu:u<4294967296)(h:jY w)(L:8<=w.1.size):Calls prog 223 #[.slice none 0 0,.int .u64 u,.int .i64 16,.bool false,.bool false] w λe r=>(∃k,k<=7/\u<16^(k+1)/\e=.returned (.tuple #[.slice none 0 0,.string ⟨(gQ u (k+1)).toArray⟩]))/\Xc w r:=by
 have C:jY (w.alloc (.cells zeroCells341 341)):=by
  unfold jY at h ⊢;rw[<-h];exact VS (VR w _ _ (by show 7<_;omega))
 have hS:=uY.start w u;go_enter func223,ntmps223;go_wp2_with(first|(go_at_call 267;refine(LX _).mono ?_;rintro e r ⟨rfl,rfl⟩)|(go_at_call 268;refine dL (Oq _ C) ?_))
 go_loopw [1,13] (λx i wr=>∃k:Nat,k<=7/\i=.int .i64 (65-(k:Int))/\x=.int .u64 ((u / 16^k:Nat):Int)/\uY w wr u k) (λx _ _=>(intOf x).toNat)
 case atStart=>exact⟨0,by omega,by go_num,by simp,hS⟩
 case round =>
  obtain⟨k,b,rfl,rfl,hd⟩:=hrel;have hx:u / 16^k<4294967296:=SN (Nat.div_le_self _ _) hu;have M:=PB (u / 16^k) R5;have G:u / 16^(k+1)=u / 16^k / 16:=by rw[SP,Nat.div_div_eq_div_mul]
  have I:=hd.step R5;obtain⟨⟨S,N⟩,O⟩:=hd.can (i:=65-k-1) R5;have E:u / 16^k<16->u<16^(k+1):=λh=>by
   rw[SP,Nat.mul_comm];exact(Nat.div_lt_iff_lt_mul (Nat.pow_pos R5)).1 h
  have F:u / 16^k%16<16:=Sv _ R5;have n:=bZ I;have y:=bZ G;have HL:=bZ E;by_cases P:16<=u / 16^k
  ·have Q:k<=6:=by
    rcases Ro k 7 with h|h
    ·omega
    obtain rfl:k=7:=R5;have:u / 16^7<16:=by
     show u / 268435456<16;omega
    omega
   generalize J:u / 16^k=x at *;go_wp2;refine⟨⟨k+1,by omega,by go_num,?_,?_⟩,?_⟩
   ·rw[y.Z];rfl
   ·have:=n.Z;rw[<-Ez F (by show x%16<36;omega)]at this;exact this
   simp[intOf];omega
  generalize J:u / 16^k=x at *;have K:x%16=x:=Nat.mod_eq_of_lt R5;have l:=n.Z;rw[K,<-Ez R5 (show x<zh.size by show x<36;omega)]at l;have p:=run_convert_bytes_back (P:=prog) (wr.setCell ⟨w.1.size,65-k-1,none⟩ (.int .u8 ((zh[x]'(show x<zh.size by show x<36;omega)).toNat:Int))) 106 9 5 ⟨w.1.size,65-k-1,none⟩ (k+1) _ underlying106 underlying5 underlying9 (λj D=>by have:=l.cell R5 D;rw[show 65-(k+1)+j=65-k-1+j by omega]at this;rw[addr_add];exact this);rw[jj]at p;have R:=IV w.1.size k b;have m:=bZ (show(∃k,k<=7/\u<16^(k+1)/\Ending.returned _=.returned (.tuple #[.slice none 0 0,.string ⟨(gQ u (k+1)).toArray⟩]))/\Below _ w (wr.setCell ⟨w.1.size,65-k-1,none⟩ (.int .u8 ((zh[x]'(show x<zh.size by show x<36;omega)).toNat:Int))) from⟨⟨k,b,HL.Z R5,rfl⟩,by obtain⟨_,_,_,B,_⟩:=l;exact B⟩);unfold zh at p m;have z:=bZ (HL.Z R5);go_wp2;go_ret2;exact⟨⟨k,b,z.Z,rfl⟩,m.Z.2⟩
def xj(u:Nat)(w)(hu:u<4294967296)(h:jY w)(j:8<=w.1.size):Calls prog 187 #[.int .u64 u,.int .i64 16] w λe b=>(∃k,k<=7/\u<16^(k+1)/\e=.returned (.string ⟨(gQ u (k+1)).toArray⟩))/\Xc w b:=by
 go_enter func187,ntmps187;go_wp2_with(go_at_call 223;refine(xh u _ hu h j).mono ?_;rintro e b ⟨⟨k,m,n,rfl⟩,l⟩);go_ret;exact⟨⟨k,m,n,rfl⟩,l⟩
def xl(u:Nat)(w)(hu:u<4294967296)(h:jY w)(j:8<=w.1.size):Calls prog 137 #[.int .u64 u,.int .i64 16] w λe b=>(∃k,k<=7/\u<16^(k+1)/\e=.returned (.string ⟨(gQ u (k+1)).toArray⟩))/\Xc w b:=by
 go_enter func137,ntmps137;go_wp2_with(go_at_call 187;refine(xj u _ hu h j).mono ?_;rintro e b ⟨⟨k,m,n,rfl⟩,l⟩);go_ret;exact⟨⟨k,m,n,rfl⟩,l⟩
def LZ:kh 0=48:=S4
def uZ(u k)(h:u<16^k):∀n,gQ u (n+k)=List.replicate n 48++gQ u k
 |0=>by simp
 |n+1=>by
  have h1:u / 16^(n+k)=0:=Nat.div_eq_of_lt (aw h (Nat.pow_le_pow_right R5 R5));rw[show n+1+k=(n+k)+1 by omega,gQ,uZ u k h n,h1,List.replicate_succ,LZ];rfl
def IW(u):gQ u 8=xg u:=by
 simp[gQ,xg,List.range,List.range.loop]
def F4(t u k)(b:k<=7)(h:u<16^(k+1)):t++([32,48,48,48,48,48,48,48,48]:a_).take (9-(k+1))++gQ u (k+1)++[10]=t++32::(xg u++[10]):=by
 have h1:([32,48,48,48,48,48,48,48,48]:a_).take (9-(k+1))=32::List.replicate (7-k) 48:=by
  have:∀k:Fin 8,([32,48,48,48,48,48,48,48,48]:a_).take (9-(k.val+1))=32::List.replicate (7-k.val) 48:=S4;exact this ⟨k,by omega⟩
 have h2:=uZ u _ h (7-k);rw[show 7-k+(k+1)=8 by omega,IW]at h2;rw[h1,h2];simp
def L8(s w)(C:s.size<=140737488355328)(h:jY w)(j:8<=w.1.size):Calls prog 94 #[.string s] w λe B=>e=.returned (str (bY.line s.1.1))/\Xc w B:=by
 have r:=uX s.1.1;go_enter func94,ntmps94;go_wp2_with fail;refine dL (IP s _ R5) ?_;go_wp2_with fail;refine(xl _ _ r h j).mono ?_;rintro e E⟨⟨k,m,n,rfl⟩,l⟩;have y:=F4 s.1.1 _ k m n;have p:=jj (jX s.1.1) (k+1);obtain⟨x,hx⟩:∃x:ba,(⟨(gQ (jX s.1.1) (k+1)).toArray⟩:ba)=x:=⟨_,rfl⟩;have D:x.size=k+1:=by rw[<-hx];show(gQ _ _).toArray.size=_;simpa using p
 have z:x.1.1=gQ (jX s.1.1) (k+1):=TH;rw[hx];have b:=bZ (show str (bY.line s.1.1)=.string (s++(⟨#[32,48,48,48,48,48,48,48,48]⟩:ba).extract 0 (8-k)++x++⟨#[10]⟩)from by
  unfold str bY.line;rw[<-y,show 9-(k+1)=8-k by omega]
  congr 1
  apply ByteArray.ext;apply Array.ext';simp[z])
 go_wp2;go_ret;rw[b.Z];exact⟨rfl,l⟩
end
