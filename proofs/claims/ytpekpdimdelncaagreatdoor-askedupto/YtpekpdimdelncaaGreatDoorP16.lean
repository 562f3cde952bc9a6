/- Out of X11. -/
import Derived.Test.YtpekpdimdelncaaGreatDoorP13
set_option linter.unusedSimpArgs false
set_option linter.unusedVariables false
set_option maxRecDepth 100000
set_option maxHeartbeats 3000000
set_option linter.defProp false
namespace Go.Proofs.YtpekpdimdelncaaGreatDoor
open Go.RowKit
section
open bY
open Tryz
variable{v:Xa}{ys xs:List Xa}{ops:Array Oper}{a:Option Addr}{Q:Exit->Act->QV->Prop}{lo:Nat}{ts:List bY.T}{s:ba}{e:Ending}{x:Nat×Nat}
def kL(w:QV)(l:Nat)(v:Xa)(ys:List Xa):Prop :=(v=.slice none 0 0/\ys=[]) \/∃(g b:Nat) (j:Array Xa),v=.slice (some ⟨g,0,none⟩) ys.length b/\l<=g/\w.1[g]?=some (.cells j 121 (0,0))/\ys.length<=b/\b<=maxLen/\j.size=b/\j.toList=ys++List.replicate (b-ys.length) (.pointer none)
def kL.own{w:QV}{b:Nat}(h:kL w b v ys):w.ownsRow b 121 1 v ys.length ys:=by
 rcases h with⟨rfl,rfl⟩|⟨g,j,l,h1,h2,m,n,p,u,r⟩
 ·exact⟨rfl,.inl ⟨rfl,rfl⟩⟩
 exact⟨by simp,.inr ⟨g,j,l,h1,h2,m,n,p,by omega,by rw[r,Qd,QT]⟩⟩
def kL.same{w w':QV}{b:Nat}(h:kL w b v ys)(p:cK w w'):kL w' b v ys:=by
 rcases h with h|⟨g,j,l,h1,h2,m,n⟩
 ·exact .inl h
 exact .inr ⟨g,j,l,h1,h2,p _ _ _ _ m (.inr (.inr rfl)),n⟩
def kL.lt{w:QV}{b g:Nat}(h:kL w b v ys)(j:v.ownBlock=some g):g<w.1.size/\b<=g:=by
 rcases h with⟨rfl,_⟩|⟨g',m,n,rfl,h2,l,_⟩
 ·cases j
 cases j;exact⟨cj l,h2⟩
def zg{w:QV}(t ty)(F:prog.underlying t=some (.slice 121))(r v ys)(h:kL w r v ys)(m c y)(hy:w.cell? (m.add 0)=some y)(h1:y.oneCell'=true)(hn:ys.length<=1000)(U:r<=w.1.size):∃v' w',(Builtin.append_ #[t,t] ty #[v,.slice (some m) 1 c]).run prog w=.ok v' w'/\kL w' r v' (ys++[y])/\w.grownBy w' v.ownBlock/\(v'.ownBlock=v.ownBlock\/v'.ownBlock=some w.1.size):=by
 obtain⟨G,C,N,n,O⟩:=UJ nodeInfo;have E:∀j u,[y][j]?=some u->w.cell? (m.add j)=some u:=λj u hj=>by
  cases j with
  |zero=>cases hj;exact hy
  |succ j=>simp at hj
 have Z:∀u∈[y],u.oneCell'=true:=λu hu=>by rw[P1]at hu;subst hu;exact h1
 have ak:∀k,(Builtin.zeroCells (Value.pointer none).cells k).toList=List.replicate k (.pointer none):=λk=>by
  apply Rf;intro j;by_cases hj:j<k
  ·simp[Builtin.zeroCells,Value.cells,hj,Nat.mod_one]
  simp[Builtin.zeroCells,Value.cells,hj]
 have S:∀old,kL (w.drew.alloc (.cells (ys.toArray++[y].toArray++Builtin.zeroCells (Value.pointer none).cells (grownCap w (ys.length+1) old 121-(ys.length+1))) 121)) r (.slice (some ⟨w.1.size,0,none⟩) (ys.length+1) (grownCap w (ys.length+1) old 121)) (ys++[y]):=λold=>by
  have K:=grownCap_ge w (ys.length+1) old 121;have L:=UU w (ys.length+1) old 121 R6;generalize grownCap w _ old 121=T at K L;refine .inr ⟨w.1.size,T,_,by simp,U,heap_alloc_new w.drew _,by simpa using K,L,?_,?_⟩
  ·simp[size_zeroCells,Value.cells];omega
  simp[ak]
 have R:∀o row,w.grownBy (w.drew.alloc o) row:=λo row=>⟨rfl,rfl,rfl,by simp,λk D _=>heap_alloc_old w.drew _ D⟩;rcases h with⟨rfl,rfl⟩|⟨g,b,p,rfl,I,B,Y,J,hcs,z⟩
 ·have l:=run_append_nil (P:=prog) w t ty 121 G _ F C N m 1 c [y] (by rw[n];rfl) E RM RM (by rw[O];omega);have M:=S 0;simp only[P6,aI,Qv]at M ⊢;refine⟨_,_,l,?_,R _ _,.inr rfl⟩;simpa using M
 by_cases aa:ys.length+1<=b
 ·have l:=UN (P:=prog) w t ty 121 G F C g _ b p B m 1 c [y] (by rw[n];rfl) E Z aa (by rw[n];simp;omega);rw[n,Qd]at l;have ai:p.toList.take ys.length=ys:=by rw[z,QT]
  have V:p.toList.drop (ys.length+[y].length)=List.replicate (b-(ys.length+1)) (.pointer none):=by
   rw[z,List.drop_append];simp[aQ];omega
  rw[ai,V]at l;have ab:=setRow_heap w g p (ys++[y]++List.replicate (b-(ys.length+1)) (Value.pointer none)).toArray 121 (0,0) B;have X:w.grownBy (w.setRow g (ys++[y]++List.replicate (b-(ys.length+1)) (Value.pointer none)).toArray) _:=⟨rfl,rfl,rfl,by simp,λk _ D=>setRow_other w g k _ (λe=>D SA)⟩;refine⟨_,_,l,.inr ⟨g,b,_,by simp,I,ab,by simp;omega,J,by simp;omega,by simp⟩,X,.inl rfl⟩
 have holds:∀j u,ys[j]?=some u->w.cell? _=some u:=(kL.own (.inr ⟨g,b,p,rfl,I,B,Y,J,hcs,z⟩)).cells (g:=g) rfl;have l:=run_append_grow (P:=prog) w t ty 121 G _ F C N ⟨g,0,none⟩ _ b ys (by rw[n,Qd]) holds m 1 c [y] (by rw[n];rfl) E RM RM (growslice_fits RM (by rw[O];omega));exact⟨_,_,l,S b,R _ _,.inr rfl⟩
def zh{w:QV}{rest:List Oper}{o:Oper}{a:Act}(r:o.guard=none)(s x t)(C:prog.underlying t=some (.slice 121))(z:o.op=.call { callee:=.builtin .append,args:=#[s,x],argTypes:=#[t,t] })(b v ys)(hs:a.eval s=v)(h:kL w b v ys)(j c y)(hx:a.eval x=.slice (some j) 1 c)(hy:w.cell? (j.add 0)=some y)(h1:y.oneCell'=true)(u:ys.length<=1000)(p:b<=w.1.size)(n:∀v' w',kL w' b v' (ys++[y])->w.grownBy w' v.ownBlock->(v'.ownBlock=v.ownBlock\/v'.ownBlock=some w.1.size)->wpList prog ops Q rest (a.put o.dst v') w'):wpList prog ops Q (o :: rest) a w:=by
 obtain⟨v',w',B,h2,l,m⟩:=zg t o.type C b v ys h j c y hy h1 u p;exact Lib.wpList_append_run w r s x t t z v _ hs hx v' w' B (n v' w' h2 l m)
def FH(w:QV)(B q)(b:B<=w.1.size):kL (w.alloc (.cells #[.pointer (some q)] 121)) B (.slice (some ⟨w.1.size,0,none⟩) 1 1) [.pointer (some q)] :=.inr ⟨w.1.size,1,#[.pointer (some q)],rfl,b,heap_alloc_new w _,af _,by unfold maxLen;omega,rfl,rfl⟩
def TL(lo:Nat)(row:Option Nat)(w:QV)(ts:List bY.T)(xs:List Xa):Prop :=ts.length=xs.length/\∀(j:Nat) u x,ts[j]?=some u->xs[j]?=some x->∃q,x=.pointer (some q)/\TF lo row w u q
def TL.move{row row':Option Nat}{w w':QV}(h:TL lo row w ts xs)(b:KO lo row w w')(l:∀k,row'=some k->row=some k\/w.1.size<=k):TL lo row' w' ts xs :=⟨h.1,λj u x hu hx=>by obtain⟨q,h1,h2⟩:=h.2 j u x hu hx;exact⟨q,h1,h2.move b l⟩⟩
def TL.one{row:Option Nat}{w:QV}{t:bY.T}{q:Addr}(h:TF lo row w t q):TL lo row w [t] [.pointer (some q)] :=⟨rfl,λj u x hu hx=>by
  match j with
  |0=>cases hu;cases hx;exact⟨q,rfl,h⟩
  |j+1=>simp at hu⟩
def TL.append{row:Option Nat}{w:QV}{us:List bY.T}(h:TL lo row w ts xs)(h':TL lo row w us ys):TL lo row w (ts++us) (xs++ys):=by
 refine⟨by simp[h.1,h'.1],λj u x hu hx=>?_⟩;by_cases hj:j<ts.length
 ·rw[aU hj]at hu;rw[aU (by have:=h.1;omega)]at hx;exact h.2 j u x hu hx
 rw[aY RM]at hu;rw[aY (by have:=h.1;omega),<-h.1]at hx;exact h'.2 _ u x hu hx
def TL.slice{w:QV}(h:TL lo v.ownBlock w ts xs)(r:kL w lo v xs):pX lo none w ts v:=by
 rcases r with⟨rfl,rfl⟩|⟨g,y,z,rfl,h2,b,l,B,C,m⟩
 ·have:=h.1;have e:=QG.1 (by simpa using this);subst e;exact pX.nil _ _ _
 refine pX.mk (fz:=(0,0)) b h2 (λe=>by cases e) h.1 l RM (λi hi=>?_) (λj u x hu hx=>?_)
 ·rw[<-Rd,m,aU hi]
 obtain⟨q,n,p⟩:=h.2 j u x hu hx;exact⟨q,n,p.drop⟩
def dt(s:ba)(b l m:Nat)(w:QV)(r:bY.RT)(e:Ending)(w':QV):Prop :=w.grownBy w' (some b)/\(∀j ts,r=.ok (j,ts)->(∃a n c,e=.returned (.slice a n c)/\pX w.1.size none w' ts (.slice a n c))/\gS w' s b j l m)/\(∀x,r=.error x->e=refusal x.1 x.2)
def dt.ok{b l m j:Nat}{w w':QV}(h:dt s b l m w (.ok (j,ts)) e w'):w.grownBy w' (some b)/\(∃a n c,e=.returned (.slice a n c)/\pX w.1.size none w' ts (.slice a n c))/\gS w' s b j l m :=⟨h.1,h.2.1 j ts rfl⟩
def dt.err{b j l:Nat}{w w':QV}(h:dt s b j l w (.error x) e w'):w.grownBy w' (some b)/\e=refusal x.1 x.2 :=⟨h.1,h.2.2 x rfl⟩
def dt.jo{b l m j:Nat}{w w':QV}{n c:Nat}(h:w.grownBy w' (some b))(r:gS w' s b j l m)(u:pX w.1.size none w' ts (.slice a n c)):dt s b l m w (.ok (j,ts)) (.returned (.slice a n c)) w' :=⟨h,λk us p=>(by cases p;exact⟨⟨a,n,c,rfl,u⟩,r⟩),λx hx=>Sr⟩
def dt.eU{b j m:Nat}{w w':QV}(h:w.grownBy w' (some b)):dt s b j m w (.error x) (refusal x.1 x.2) w' :=⟨h,λk ts l=>(by cases l),λy hy=>S3⟩
def pX.lay{w:QV}(n)(j:xs.length=n)(h:TL lo none w ts xs)(b:lo<=w.1.size):pX lo none (w.alloc (.cells xs.toArray 121)) ts (.slice (some ⟨w.1.size,0,none⟩) n n):=by
 subst j;have h':=h.move (row':=none) (KO.keeps (jn w (.cells xs.toArray 121))) (λk e=>by cases e);exact pX.mk (fz:=(0,0)) (heap_alloc_new w _) b (λe=>by cases e) h.1 (af _) R2 (λi hi=>by simp) h'.2
def C0(s u n p r i)(hs:s.size<=200)(C:8<=u)(hi:i<=s.size)(hd:p<=20)(T:r<=p)(av:8*(s.size-i)+4<=n)(H:∀m,m<=n->sY s u m 0 89)(w)(g:G w)(h:gS w s u i p r):Calls prog 295 #[.pointer (some ⟨u,0,none⟩)] w (dt s u p r w (if tx s.1.1 i=[125]then .ok (fC s.1.1 i,[])else cZ (PT s.1.1 n 0 p r i []) λj ts=>PT s.1.1 n 6 p r j ts)):=by
 by_cases hb:tx s.1.1 i=[125]
 ·rw[ag hb];have ao:(tx s.1.1 i==[125])=true:=by rw[hb];rfl
  go_enter func295,ntmps295;go_wp2_with(go_at_call 313;refine(f_ s u i p r _ _ h).mono ?_;rintro e w' ⟨rfl,rfl⟩);refine(ju s u i p r _ g h RM hi).mono ?_;rintro e w1⟨rfl,h1,f1⟩;unfold l_;go_wp2_with fail;go_ret;exact dt.jo f1 h1 (pX.nil _ _ _)
 rw[ae hb];have ao:(tx s.1.1 i==[125])=false:=by rw[aw];exact hb
 have h1:=H n (af _) p r i hi hd T av;have I:=jv s.1.1 n 0 p r i;rcases hx:PT _ n 0 p r i []with x|⟨j,ts⟩
 ·rw[hx]at h1;show Calls _ _ _ _ _;have K:=bZ h1;go_enter func295,ntmps295;go_wp2_with(go_at_call 313;refine(f_ s u i p r _ _ h).mono ?_;rintro e w' ⟨rfl,rfl⟩);refine(K.Z _ g h).mono ?_;rintro e w1 B;obtain⟨f1,rfl⟩:=dd.err B;exact⟨rfl,dt.eU f1⟩
 rw[hx]at h1;have hj:=I j (pH hx) Sc;have ax:j<=s.size:=Sh;have bf:i+1<=j:=by simpa using hj.1
 have K:=bZ h1;have HH:=bZ H;have ap:8*(s.size-j)+1<=n:=RM;show Calls _ _ _ _ (dt s u p r w (PT s.1.1 n 6 p r j ts));generalize S:PT _ n 6 p r j ts=fin;have HF:=bZ S;have bg:=h.lt;clear hx H h1 I hj S;go_enter func295,ntmps295;go_wp2_with(go_at_call 313;refine(f_ s u i p r _ _ h).mono ?_;rintro e w' ⟨rfl,rfl⟩);refine(K.Z _ g h).mono ?_;rintro e w1 B;obtain⟨f1,⟨q1,t1,rfl,rfl,a4⟩,h1⟩:=dd.ok B;have ai:=bZ a4;go_wp2_with fail;have hB:=f1.size
 go_loopw [3] (λv wr=>∃(xs:List Xa) (ts:List bY.T) (k m:Nat),Hid (kL wr w.1.size v xs)/\Hid (TL w.1.size v.ownBlock wr ts xs)/\gS wr s u k p r/\w.grownBy wr (some u)/\k<=s.size/\8*(s.size-k)+1<=m/\m<=n/\xs.length<=k/\Hid (PT s.1.1 m 6 p r k ts=fin)) (λ_ wr=>s.size-GD wr u)
 case atStart=>exact⟨_,_,j,n,bZ (FH w1 w.1.size q1 hB),bZ (TL.one (ai.Z.move (KO.keeps (jn _ _)) (λk e=>by cases e;exact .inr (af _)))),h1.alloc _,Fr.alloc f1 _,ax,ap,af _,by simp;omega,HF⟩
 case round =>
  obtain⟨xs,us,k,m,PV,P,z,y,F,hm,bh,bd,HM⟩:=hrel;obtain⟨m,rfl⟩:∃m',m=m'+1:=⟨m-1,by omega⟩;have ab:=bZ (pq z);have hM:=HM.Z;have hT:PT s.1.1 (m+1) 6 p r k us=if tx s.1.1 k=[44]then cZ (PT s.1.1 m 0 p r (fC s.1.1 k) []) λj vs=>PT s.1.1 m 6 p r j (us++vs)else eQ s.1.1 [125] k us:=rfl;rw[hT]at hM;by_cases D:tx s.1.1 k=[44]
  ·rw[ag D]at hM;have a0:(tx s.1.1 k==[44])=true:=by rw[D];rfl
   have bj:=fO (ma (l:=s.1.1) (i:=k) (by rw[D];simp));have V:fC s.1.1 k<=s.size:=by have:=fb s.1.1 k (by simpa using F);simpa using this
   have h2:=HH.Z m RM p r (fC s.1.1 k) V hd T R8;have I:=jv s.1.1 m 0 p r (fC s.1.1 k);rcases hx:PT s.1.1 m 0 p r (fC s.1.1 k) []with x|⟨k2,vs⟩
   ·rw[hx]at h2 hM;have ak:=hM.symm;subst ak;have L:=bZ h2;go_wp2_with(go_at_call 313;refine(f_ s u k p r _ _ z).mono ?_;rintro e w' ⟨rfl,rfl⟩);refine(ju s u k p r _ (g.fr y C) z RM F).mono ?_;rintro e w2⟨rfl,N,f2⟩;unfold l_;go_wp2_with fail;refine(L.Z _ ((g.fr y C).fr f2 C) N).mono ?_;rintro e w3 B;obtain⟨f3,rfl⟩:=dd.err B;exact⟨rfl,dt.eU (Fr.trans (Fr.trans y f2) f3)⟩
   have hj:=I k2 (pH hx) (by simpa using V);have ay:k2<=s.size:=Sh;rw[hx]at h2 hM;have L:=bZ h2;have am:=hM;have ad:=bZ am;go_wp2_with(go_at_call 313;refine(f_ s u k p r _ _ z).mono ?_;rintro e w' ⟨rfl,rfl⟩);refine(ju s u k p r _ (g.fr y C) z RM F).mono ?_;rintro e w2⟨rfl,N,f2⟩;unfold l_;go_wp2_with fail;refine(L.Z _ ((g.fr y C).fr f2 C) N).mono ?_;rintro e w3 B;obtain⟨f3,⟨q3,t3,rfl,rfl,a5⟩,E⟩:=dd.ok B;have f23:=Fr.trans f2 f3;have bk:=ah y.size f23.size;have aa:=(z.kp f23).trans (jn w3 (.cells #[.pointer (some q3)] 121));have X:=bZ (PV.Z.same aa);have a6:=bZ ((P.Z.move (row':=u3.ownBlock) (KO.keeps aa) (λk e=>.inl e)).append (TL.one ((((a5.row (row:=u3.ownBlock) (λk e=>by have:=(PV.Z.lt e).1;have:=f2.size;omega)).mono (lo':=w.1.size) (by have:=y.size;have:=f2.size;omega))).keeps (jn _ _))));go_wp2_with(at_builtin;go_must (refine zh rfl _ _ 261 underlying261 rfl w.1.size _ _ rfl X.Z ⟨w3.1.size,0,none⟩ 1 (.pointer (some q3)) rfl (cell_one_new _ _ _ 0 _ rfl) rfl RM R5 ?_);intro v' w4 a2 M a3);have U:∀b,u3.ownBlock=some b->w.1.size<=b:=λb e=>(X.Z.lt e).2;have R:gS w4 s u k2 p r:=(E.alloc _).grown M (λe=>by have:=U u e.symm;omega);have a7:=a6.Z.move (λk _ aC cs t fz hb _=>(M.block k (cj hb) (λe=>aC e.symm)).trans hb) (λk e=>by
    rcases a3 with h|h
    ·exact .inl (h▸e)
    ·rw[h]at e;cases e;exact .inr (af _))
   refine⟨⟨_,_,k2,m,bZ a2,bZ a7,R,Fr.grown (Fr.alloc (Fr.trans y f23) _) M U,ay,by omega,by omega,by simp;omega,ad⟩,?_⟩;rw[pq R,ab.Z];omega
  rw[ae D]at hM;have a0:(tx s.1.1 k==[44])=false:=by rw[aw];exact D
  have HX:=bZ hM;go_wp2_with(go_at_call 313;refine(f_ s u k p r _ _ z).mono ?_;rintro e w' ⟨rfl,rfl⟩);refine(lk s u k p r ⟨#[125]⟩ _ (g.fr y C) z RM F).mono ?_;rintro e w2⟨f2,h2,E⟩;have Y:=lg s.1.1 [125] k us;have Z:∀k2 vs,eQ s.1.1 [125] k us=.ok (k2,vs)->vs=us:=λk2 vs h=>by
   unfold eQ at h;split at h<;>cases h;rfl
  rw[HX.Z]at Y Z;have hX:=Y.symm;rw[hX]at h2 E;rcases fin with x|⟨O,vs⟩
  ·have he:=E x rfl;subst he;exact⟨rfl,dt.eU (Fr.trans y f2)⟩
  obtain⟨rfl,h4⟩:=h2 O rfl;have a8:=Z O vs rfl;subst a8;have J:=TL.slice ((P.Z.move (row':=u3.ownBlock) (KO.keeps (z.kp f2)) (λk e=>.inl e))) (PV.Z.same (z.kp f2));have hu:∃a nn c,u3=.slice a nn c:=by
   rcases PV.Z with⟨hu,_⟩|⟨gg,a9,bc,hu,_⟩
   ·exact⟨_,_,_,hu⟩
   exact⟨_,_,_,hu⟩
  have HS:=bZ J;go_wp2_with fail;go_ret;obtain⟨a,nn,c,hu⟩:=hu;have J:=HS.Z;show dt s u p r w (.ok (O,_)) (.returned u3) w2;rw[hu]at J ⊢;exact dt.jo (Fr.trans y f2) h4 J
end
section
open bY
open Tryz
variable{l:a_}{s:ba}
def fq(l:a_)(n b e k i:Nat):bY.RT :=gq l k i (λj=>PT l n 0 b e j []) (λj=>PT l n 3 b e j []) (λj=>PT l n 0 b (e+1) j []) (λj ts=>PT l n 6 b e j ts)
def oj{n p e m i j:Nat}{b ts:List bY.T}(hl:l=s.1.1)(h:PT l n p e m i b=.ok (j,ts))(hi:i<=s.size):i<=j/\j<=s.size:=O2 hl (pH h) hi
def xK(l t i):(bY.cv l t i=.error (3,i)/\eQ l t i []=.error (3,i))\/∃j,bY.cv l t i=.ok j/\eQ l t i []=.ok (j,[]):=by
 unfold bY.cv eQ;split
 ·exact .inr ⟨_,rfl,rfl⟩
 exact .inl ⟨rfl,rfl⟩
def zi(s p n b m i)(hi:i<=s.size)(hd:b<=20)(E:m<=b)(F:8*(s.size-i)+4<=n)(z:sY s p n 3 212)(w)(g:G w)(h:gS w s p i b m):Calls prog 263 #[.pointer (some ⟨p,0,none⟩),.int .i64 5] w (dt s p b m w (fq s.1.1 n b m 5 i)):=by
 have B:fq s.1.1 n b m 5 i=PT s.1.1 n 3 b m i []:=rfl;have h1:=z b m i hi hd E R8;rw[B];generalize PT s.1.1 n 3 b m i []=r at h1;have y:=bZ h1;clear h1 B z;go_enter func263,ntmps263;go_wp2_with fail;refine(y.Z _ g h).mono ?_;rintro e w1 u;rcases r with x|⟨j,ts⟩
 ·obtain⟨f1,rfl⟩:=dd.err u;exact⟨rfl,dt.eU f1⟩
 obtain⟨f1,⟨I,t1,rfl,rfl,C⟩,h1⟩:=dd.ok u;have D:=bZ C;clear u y C;go_wp2_with fail;go_ret;exact dt.jo (Fr.alloc f1 _) (h1.alloc _) (pX.lay 1 rfl (TL.one D.Z) f1.size)
def zj(s u n b p i)(hs:s.size<=200)(J:8<=u)(hi:i<=s.size)(hd:b<=20)(I:p<=b)(F:8*(s.size-i)+4<=n)(H:∀m,m<=n->sY s u m 0 89)(w)(g:G w)(h:gS w s u i b p):Calls prog 263 #[.pointer (some ⟨u,0,none⟩),.int .i64 6] w (dt s u b p w (fq s.1.1 n b p 6 i)):=by
 have C:fq s.1.1 n b p 6 i=cZ (PT s.1.1 n 0 b p i []) (eQ s.1.1 [41]):=rfl;have h1:=H n (af _) b p i hi hd I F;have hu:=mF s u i b p ⟨#[41]⟩ w g h RM J _ h1 (λj ts hj=>(oj rfl hj hi).2);have z:Calls prog 294 #[.pointer (some ⟨u,0,none⟩),.string ⟨#[41]⟩] w (dd s u b p w.1.size w (cZ (PT s.1.1 n 0 b p i []) (eQ s.1.1 [41]))):=hu;rw[C];generalize cZ (PT s.1.1 n 0 b p i []) (eQ s.1.1 [41])=r at z;have B:=bZ z;clear h1 C H hu z;go_enter func263,ntmps263;go_wp2_with fail;refine B.Z.mono ?_;rintro e w1 y;rcases r with x|⟨j,ts⟩
 ·obtain⟨f1,rfl⟩:=dd.err y;exact⟨rfl,dt.eU f1⟩
 obtain⟨f1,⟨K,t1,rfl,rfl,D⟩,h1⟩:=dd.ok y;have E:=bZ D;clear y B D;go_wp2_with fail;go_ret;exact dt.jo (Fr.alloc f1 _) (h1.alloc _) (pX.lay 1 rfl (TL.one E.Z) f1.size)
def C1(s u n b p i)(hs:s.size<=200)(J:8<=u)(hi:i<=s.size)(hd:b<=20)(I:p<=b)(F:8*(s.size-i)+4<=n)(H:∀m,m<=n->sY s u m 0 89)(w)(g:G w)(h:gS w s u i b p):Calls prog 263 #[.pointer (some ⟨u,0,none⟩),.int .i64 7] w (dt s u b p w (fq s.1.1 n b p 7 i)):=by
 have C:fq s.1.1 n b p 7 i=cZ (PT s.1.1 n 0 b p i []) (eQ s.1.1 [93]):=rfl;have h1:=H n (af _) b p i hi hd I F;have hu:=mF s u i b p ⟨#[93]⟩ w g h RM J _ h1 (λj ts hj=>(oj rfl hj hi).2);have z:Calls prog 294 #[.pointer (some ⟨u,0,none⟩),.string ⟨#[93]⟩] w (dd s u b p w.1.size w (cZ (PT s.1.1 n 0 b p i []) (eQ s.1.1 [93]))):=hu;rw[C];generalize cZ (PT s.1.1 n 0 b p i []) (eQ s.1.1 [93])=r at z;have B:=bZ z;clear h1 C H hu z;go_enter func263,ntmps263;go_wp2_with fail;refine B.Z.mono ?_;rintro e w1 y;rcases r with x|⟨j,ts⟩
 ·obtain⟨f1,rfl⟩:=dd.err y;exact⟨rfl,dt.eU f1⟩
 obtain⟨f1,⟨K,t1,rfl,rfl,D⟩,h1⟩:=dd.ok y;have E:=bZ D;clear y B D;go_wp2_with fail;go_ret;exact dt.jo (Fr.alloc f1 _) (h1.alloc _) (pX.lay 1 rfl (TL.one E.Z) f1.size)
def AO(s u n b p i)(hs:s.size<=200)(I:8<=u)(hi:i<=s.size)(hd:b<=20)(F:p<=b)(E:8*(s.size-i)+4<=n)(H:∀m,m<=n->sY s u m 0 89)(w)(g:G w)(h:gS w s u i b p):Calls prog 263 #[.pointer (some ⟨u,0,none⟩),.int .i64 8] w (dt s u b p w (fq s.1.1 n b p 8 i)):=by
 have B:fq s.1.1 n b p 8 i=if tx s.1.1 i=[125]then .ok (fC s.1.1 i,[])else cZ (PT s.1.1 n 0 b p i []) λj ts=>PT s.1.1 n 6 b p j ts:=rfl;have hu:=C0 s u n b p i hs I hi hd F E H w g h;rw[B];generalize (if tx s.1.1 i=[125]then .ok (fC s.1.1 i,[])else cZ (PT s.1.1 n 0 b p i []) λj ts=>PT s.1.1 n 6 b p j ts:bY.RT)=r at hu;have z:=bZ hu;clear B H hu;go_enter func263,ntmps263;go_wp2_with fail;refine z.Z.mono ?_;rintro e w1 y;rcases r with x|⟨j,ts⟩
 ·obtain⟨f1,rfl⟩:=dt.err y;exact⟨rfl,dt.eU f1⟩
 obtain⟨f1,⟨a,J,c,rfl,C⟩,h1⟩:=dt.ok y;have D:=bZ C;clear y z C;go_wp2_with fail;go_ret;exact dt.jo f1 h1 D.Z
def C2(s)(u n b p i k:Nat)(E:k=10\/k=11\/k=12)(hs:s.size<=200)(N:8<=u)(hi:i<=s.size)(hd:b<=20)(R:p<=b)(L:8*(s.size-i)+4<=n)(H:∀m,m<=n->sY s u m 0 89)(w)(g:G w)(h:gS w s u i b p):Calls prog 263 #[.pointer (some ⟨u,0,none⟩),.int .i64 k] w (dt s u b p w (fq s.1.1 n b p k i)):=by
 have I:fq s.1.1 n b p k i=cZ (eQ s.1.1 [40] i []) λj _=>cZ (PT s.1.1 n 0 b p j []) (eQ s.1.1 [41]):=by
  rcases E with rfl|rfl|rfl<;>rfl
 have y:=lk s u i b p ⟨#[40]⟩ w g h RM hi;rw[I];rcases xK s.1.1 [40] i with⟨hx,D⟩|⟨j,hx,D⟩
 all_goals rw[D]
 ·generalize ((3,i):Nat×Nat)=x at hx;show Calls _ _ _ _ (dt s u b p w (.error x));have z:bY.cv s.1.1 (⟨#[40]⟩:ba).1.1 i=.error x:=hx;have B:=bZ y;have C:=bZ z;clear I H y hx z D L;rcases E with rfl|rfl|rfl
  all_goals
   go_enter func263,ntmps263;go_wp2_with fail;refine B.Z.mono ?_;rintro e w1⟨f1,_,Q⟩;have y:=Q x C.Z;subst y;exact⟨rfl,dt.eU f1⟩
 have hj:=fI hx R2 Sc;have T:=hj.1;have M:j<=s.size:=Sh;have h1:=H n (af _) b p j M hd R R8;have z:bY.cv s.1.1 (⟨#[40]⟩:ba).1.1 i=.ok j:=hx;have hu:=λw g h=>mF s u j b p ⟨#[41]⟩ w g h RM N _ h1 (λV Y S=>(oj rfl S M).2);have J:∀w,G w->gS w s u j b p->Calls prog 294 #[.pointer (some ⟨u,0,none⟩),.string ⟨#[41]⟩] w (dd s u b p w.1.size w (cZ (PT s.1.1 n 0 b p j []) (eQ s.1.1 [41]))):=hu;show Calls _ _ _ _ (dt s u b p w (cZ (PT s.1.1 n 0 b p j []) (eQ s.1.1 [41])));generalize cZ (PT s.1.1 n 0 b p j []) (eQ s.1.1 [41])=r at J;have B:=bZ y;have C:=bZ z;have K:=bZ J;clear I H y hx z D L h1 hu J hj T;rcases E with rfl|rfl|rfl
 all_goals
  go_enter func263,ntmps263;go_wp2_with fail;refine B.Z.mono ?_;rintro e w1⟨f1,h2,_⟩;obtain⟨rfl,U⟩:=h2 j C.Z;clear h2 B C;go_wp2_with fail;refine(K.Z _ (g.fr f1 N) U).mono ?_;rintro e w2 F;rcases r with x|⟨j,ts⟩
  ·obtain⟨f2,rfl⟩:=dd.err F;exact⟨rfl,dt.eU (Fr.trans f1 f2)⟩
  obtain⟨f2,⟨X,t1,rfl,rfl,O⟩,h1⟩:=dd.ok F;have P:=bZ O;clear F K O;go_wp2_with fail;go_ret;exact dt.jo (Fr.alloc (Fr.trans f1 f2) _) (h1.alloc _) (pX.lay 1 rfl (TL.one (P.Z.mono f1.size)) (Fr.trans f1 f2).size)
end
section
open bY
open Tryz
variable{s:ba}{r:bY.RT}{t:a_}{us:List bY.T}
def nw(s b i e l t)(hs:s.size<=200)(m:8<=b)(r)(H:AK s 89 b e l i r)(n:∀j ts,r=.ok (j,ts)->j<=s.size):∀w,G w->gS w s b i e l->Calls prog 294 #[.pointer (some ⟨b,0,none⟩),.string ⟨t.toArray⟩] w (dd s b e l w.1.size w (cZ r (eQ s.1.1 t))) :=λw g h=>by
  have:=mF s b i e l ⟨t.toArray⟩ w g h RM m r H n;simpa using this
def zk{i k:Nat}(l:t≠[])(e:∀j ts,r=.ok (j,ts)->i<=j/\j<=s.size)(h:cZ r (eQ s.1.1 t)=.ok (k,us)):i+1<=k/\k<=s.size:=by
 rcases r with x|⟨j,ts⟩
 ·cases h
 have a:=e j ts rfl;have h2:bY.cv s.1.1 t j=.ok k:=by
  rw[<-lg _ t j ts,show eQ _ t j ts=.ok _ from h];rfl
 have b:=fI h2 l (by simpa using a.2);have c:k<=s.size:=by simpa using b.2
 omega
def uZ(s)(p n b l i k:Nat)(ii)(y:((k=13\/k=14)/\l=ii)\/((k=15\/k=16)/\l+1=ii))(hs:s.size<=200)(z:8<=p)(hi:i<=s.size)(hd:b<=20)(Z:ii<=b)(ai:8*(s.size-i)+4<=n)(H:∀m,m<=n->sY s p m 0 89)(w)(g:G w)(h:gS w s p i b l):Calls prog 263 #[.pointer (some ⟨p,0,none⟩),.int .i64 k] w (dt s p b l w (fq s.1.1 n b l k i)):=by
 rcases y with⟨y,rfl⟩|⟨y,rfl⟩
 case' inl=>let ii:Nat:=l
 case' inr=>let ii:Nat:=l+1
 all_goals
  have hr:fq s.1.1 n b l k i=cZ (eQ s.1.1 [40] i []) λj _=>cZ (cZ (PT s.1.1 n 0 b l j []) (eQ s.1.1 [44])) λj ts=>cZ (cZ (PT s.1.1 n 0 b ii j []) (eQ s.1.1 [41])) λj us=>.ok (j,ts++us):=by
   rcases y with rfl|rfl<;>rfl
  have F:=lk s p i b l ⟨#[40]⟩ w g h RM hi;rw[hr];rcases xK _ [40] i with⟨hx,S⟩|⟨j,hx,S⟩
  all_goals rw[S]
  ·generalize ((3,i):Nat×Nat)=x at hx;show Calls _ _ _ _ _;have M:=hx;have D:=bZ F;have E:=bZ M;rcases y with rfl|rfl
   all_goals
    go_enter func263,ntmps263;go_wp2_with fail;refine D.Z.mono ?_;rintro e w1⟨f1,_,Y⟩;have F:=Y x E.Z;subst F;exact⟨rfl,dt.eU f1⟩
  have hj:=fI hx R2 Sc;have ak:=hj.1;have K:j<=s.size:=Sh;have h1:=H n (af _) b l j K hd RM R8;have M:=hx;have hu:=nw s p j b l [44] hs z _ h1 (λN O u=>(oj rfl u K).2);have R:=λk us=>zk (s:=s) (t:=[44]) (i:=j) (k:=k) (us:=us) (r:=PT _ n 0 b l j []) R2 (λN O u=>oj rfl u K);show Calls _ _ _ _ (dt s p b l w (cZ _ λj ts=>cZ _ λj us=>.ok _));generalize cZ _ _=r2 at hu R;have D:=bZ F;have E:=bZ M;have P:=bZ hu;rcases r2 with x|⟨B,T⟩
  ·show Calls _ _ _ _ (dt s p b l w (.error x));rcases y with rfl|rfl
   all_goals
    go_enter func263,ntmps263;go_wp2_with fail;refine D.Z.mono ?_;rintro e w1⟨f1,h2,_⟩;obtain⟨rfl,L⟩:=h2 j E.Z;go_wp2_with fail;refine(P.Z _ (g.fr f1 z) L).mono ?_;rintro e w2 C;obtain⟨f2,rfl⟩:=dd.err C;exact⟨rfl,dt.eU (Fr.trans f1 f2)⟩
  obtain⟨am,I⟩:=R B T rfl
  first|have J:=H n (af _) b l B I hd Z R8|have J:=H n (af _) b (l+1) B I hd RM R8
  first|have hv:=nw s p B b l [41] hs z _ J (λN O u=>(oj rfl u I).2)|have hv:=λw g h=>AM s p B b l w g h RM z RM _ J (λN O u=>(oj rfl u I).2)
  show Calls _ _ _ _ (dt s p b l w (cZ (cZ (PT s.1.1 n 0 b ii B []) (eQ s.1.1 [41])) λj us=>.ok (j,T++us)));generalize cZ (PT s.1.1 n 0 b ii B []) (eQ s.1.1 [41])=r3 at hv;have X:=bZ hv;rcases y with rfl|rfl
  all_goals
   go_enter func263,ntmps263;go_wp2_with fail;refine D.Z.mono ?_;rintro e w1⟨f1,h2,_⟩;obtain⟨rfl,L⟩:=h2 j E.Z;go_wp2_with fail;refine(P.Z _ (g.fr f1 z) L).mono ?_;rintro e w2 C;obtain⟨f2,⟨q2,t2,rfl,rfl,ab⟩,Q⟩:=dd.ok C;have U:=bZ ab;go_wp2_with fail;refine(X.Z _ ((g.fr f1 z).fr f2 z) Q).mono ?_;rintro e w3 C;rcases r3 with x|⟨j,ax⟩
   ·obtain⟨f3,rfl⟩:=dd.err C;exact⟨rfl,dt.eU (Fr.trans (Fr.trans f1 f2) f3)⟩
   obtain⟨f3,⟨q3,t3,rfl,rfl,ad⟩,aa⟩:=dd.ok C;have V:=bZ ad;go_wp2_with fail;go_ret;have ao:=f1.size;have ap:=f2.size;have av:=f3.size;exact dt.jo (Fr.alloc (Fr.trans (Fr.trans f1 f2) f3) _) (aa.alloc _) (pX.lay 2 rfl ((TL.one ((U.Z.keeps (Q.kp f3)).mono RM)).append (TL.one (V.Z.mono RM))) RM)
def FI(s u n b l i)(hs:s.size<=200)(z:8<=u)(hi:i<=s.size)(hd:b<=20)(E:l<=b)(Y:8*(s.size-i)+4<=n)(H:∀m,m<=n->sY s u m 0 89)(T:sY s u n 3 212)(w)(g:G w)(h:gS w s u i b l):Calls prog 263 #[.pointer (some ⟨u,0,none⟩),.int .i64 9] w (dt s u b l w (fq s.1.1 n b l 9 i)):=by
 have hr:fq _ n b l 9 i=cZ _ λj ts=>cZ _ λj us=>cZ (PT s.1.1 n 3 b l j []) λj vs=>.ok _:=rfl;rw[hr];have h1:=H n (af _) b l i hi hd E Y;have hu:=nw s u i b l [116,104,101,110] hs z _ h1 (λK L y=>(oj rfl y hi).2);have P:=λk us=>zk (s:=s) (t:=[116,104,101,110]) (i:=i) (k:=k) (us:=us) (r:=PT _ n 0 b l i []) R2 (λK L y=>oj rfl y hi);generalize cZ _ _=r1 at hu P;have D:=bZ hu;rcases r1 with x|⟨j,R⟩
 ·show Calls _ _ _ _ _;go_enter func263,ntmps263;go_wp2_with fail;refine(D.Z _ g h).mono ?_;rintro e w1 p;obtain⟨f1,rfl⟩:=dd.err p;exact⟨rfl,dt.eU f1⟩
 obtain⟨ai,F⟩:=P j R rfl;have h2:=H n (af _) b l j F hd E R8;have hv:=nw s u j b l [101,108,115,101] hs z _ h2 (λK L y=>(oj rfl y F).2);have Q:=λk us=>zk (s:=s) (t:=[101,108,115,101]) (i:=j) (k:=k) (us:=us) (r:=PT _ n 0 b l j []) R2 (λK L y=>oj rfl y F);show Calls _ _ _ _ (dt s u b l w (cZ _ λj us=>cZ _ λj vs=>.ok _));generalize cZ (PT s.1.1 n 0 b l j []) (eQ s.1.1 [101,108,115,101])=r2 at hv Q;have N:=bZ hv;rcases r2 with x|⟨C,S⟩
 ·show Calls _ _ _ _ (dt s u b l w (.error x));go_enter func263,ntmps263;go_wp2_with fail;refine(D.Z _ g h).mono ?_;rintro e w1 p;obtain⟨f1,⟨q1,t1,rfl,rfl,J⟩,B⟩:=dd.ok p;have M:=bZ J;go_wp2_with fail;refine(N.Z _ (g.fr f1 z) B).mono ?_;rintro e w2 p;obtain⟨f2,rfl⟩:=dd.err p;exact⟨rfl,dt.eU (Fr.trans f1 f2)⟩
 obtain⟨ak,Z⟩:=Q C S rfl;have O:=T b l C Z hd E R8;show Calls _ _ _ _ (dt s u b l w (cZ (PT s.1.1 n 3 b l C []) λj vs=>.ok (j,R++(S++vs))));generalize PT s.1.1 n 3 b l C []=r3 at O;have U:=bZ O;go_enter func263,ntmps263;go_wp2_with fail;refine(D.Z _ g h).mono ?_;rintro e w1 p;obtain⟨f1,⟨q1,t1,rfl,rfl,J⟩,B⟩:=dd.ok p;have M:=bZ J;go_wp2_with fail;refine(N.Z _ (g.fr f1 z) B).mono ?_;rintro e w2 p;obtain⟨f2,⟨q2,t2,rfl,rfl,ab⟩,I⟩:=dd.ok p;have V:=bZ ab;go_wp2_with fail;refine(U.Z _ ((g.fr f1 z).fr f2 z) I).mono ?_;rintro e w3 p;rcases r3 with x|⟨j,av⟩
 ·obtain⟨f3,rfl⟩:=dd.err p;exact⟨rfl,dt.eU (Fr.trans (Fr.trans f1 f2) f3)⟩
 obtain⟨f3,⟨q3,t3,rfl,rfl,ad⟩,aa⟩:=dd.ok p;have X:=bZ ad;go_wp2_with fail;go_ret;have am:=f1.size;have ao:=f2.size;have ap:=f3.size;exact dt.jo (Fr.alloc (Fr.trans (Fr.trans f1 f2) f3) _) (aa.alloc _) (pX.lay 3 rfl ((TL.one (((M.Z.keeps (B.kp f2)).keeps (I.kp f3)).mono (af _))).append ((TL.one ((V.Z.keeps (I.kp f3)).mono RM)).append (TL.one (X.Z.mono RM)))) RM)
def AP(s)(j n b e i k:Nat)(l:k=2\/k=3\/k=4)(w)(h:gS w s j i b e):Calls prog 263 #[.pointer (some ⟨j,0,none⟩),.int .i64 k] w (dt s j b e w (fq s.1.1 n b e k i)):=by
 have m:fq s.1.1 n b e k i=.ok (i,[]):=by
  rcases l with rfl|rfl|rfl<;>rfl
 rw[m];rcases l with rfl|rfl|rfl
 all_goals
  go_enter func263,ntmps263;go_wp2_with fail;go_ret;exact dt.jo (UD _ _) h (pX.nil _ _ _)
end
section
open bY
open Tryz
variable{l:a_}{ts:List bY.T}{sl:Xa}{s:ba}
attribute [local go_sem] hY
def AQ:∀n l k,eG n l=some k->k+1<=n
 |0,_,_,h=>by simp[eG]at h
 |n+1,[],_,h=>by simp[eG]at h
 |n+1,c :: r,k,h=>by
  unfold eG at h;split at h
  ·cases h;omega
  split at h
  ·cases b:eG n r with
   |none=>rw[b]at h;cases h
   |some m=>rw[b]at h;cases h;have:=AQ n r m b;show m+1+1<=n+1;omega
  cases h
def uM(h:(bY.tok l).1=3):(bY.tok l).2<=32:=by
 cases l with
 |nil=>simp[bY.tok]at h
 |cons c r =>
  rw[fZ _ c r rfl]at h ⊢;by_cases h1:dA c=true
  ·rw[ag h1]at h;split at h<;>cases h
  rw[ae h1]at h ⊢;by_cases h2:eo c=true
  ·rw[ag h2]at h;split at h
   ·cases h
   split at h<;>cases h
  rw[ae h2]at h ⊢;by_cases b:c=39
  ·rw[ag b];have j:dM (c :: r)=eG 31 r:=by
    show(if c=39 then eG 31 r else none)=_;rw[ag b]
   rw[j];cases e:eG 31 r with
   |none=>simp[fa]
   |some k=>have:=AQ 31 r k e;simp[fa];omega
  rw[ae b]at h;split at h<;>cases h
def FJ(l w):gI w (m_ l) (ov l):=by
 by_cases h2:(bY.tok l).1=2
 ·have e1:m_ l=some (vn ((dT (l.take (bY.tok l).2)).getD 0)):=by unfold m_;rw[h2];rfl
  have e2:ov l=.iface 219 (.int .i64 ((dT (l.take (bY.tok l).2)).getD 0)):=by unfold ov;rw[h2];rfl
  rw[e1,e2];refine .inr ⟨_,rfl,cT.leaf (.inl ⟨_,rfl,rfl,?_⟩)⟩;cases b:dT _ with
  |none=>exact⟨by decide,by decide⟩
  |some v =>
   unfold dT at b;split at b
   ·rename_i v' m;split at b
    ·cases b;have:=Lib.parseIntB_bounds m;have e:((2^(64-1):Nat):Int)=9223372036854775808:=RZ;rw[e]at this;simp only[Option.getD_some];omega
    cases b
   cases b
 by_cases j:(bY.tok l).1=3
 ·have e1:m_ l=some (vw ((l.drop 1).take ((bY.tok l).2-2))):=by unfold m_;rw[j];rfl
  have e2:ov l=.iface 215 (.string ⟨((l.drop 1).take ((bY.tok l).2-2)).toArray⟩):=by unfold ov;rw[j];rfl
  rw[e1,e2];refine .inr ⟨_,rfl,cT.leaf (.inr ⟨_,rfl,rfl,?_⟩)⟩;have:=uM j;show(List.toArray _).size<=30;simp only[Rb,P7];omega
 have e1:m_ l=none:=by
  unfold m_;split
  ·rename_i h;exact(h2 h).elim
  ·rename_i h;exact(j h).elim
  rfl
 have e2:ov l=.nilIface:=by
  unfold ov;split
  ·rename_i h;exact(h2 h).elim
  ·rename_i h;exact(j h).elim
  rfl
 rw[e1,e2];exact .inl ⟨rfl,rfl⟩
def I4(s:ba)(i):s.extract i (i+(bY.tok (s.1.1.drop i)).2)=⟨(tx s.1.1 i).toArray⟩:=by
 have h:=nR s i;generalize s.extract i _=x at h;rw[<-h]
theorem wM(t w):Calls prog 262 #[.string t] w λe w'=>e=.returned (.int .u8 (bY.byteOf t.toList))/\w=w':=by
 go_enter func262,ntmps262;go_wp2_with fail
 all_goals first
  |(exfalso;simp_all;done)
  |(go_ret;refine⟨?_,rfl⟩;simp_all [bY.byteOf];done)
def D6{lo b:Nat}{w:QV}(h:pX lo none w ts sl)(hb:b<lo)(o v):pX lo none (w.setCell ⟨b,o,none⟩ v) ts sl :=h.move (λk j _ cs t fz hc _=>(UK w ⟨b,o,none⟩ v k (by show k≠b;omega)).trans hc) (λk e=>by cases e)
def Nz(i)(hs:s.size<=200):(tx s.1.1 i).length<=200:=by
 unfold tx;rw[P7,aO];have:s.1.1.length=s.size:=R2;omega
def sb{w w2 w3:QV}{j:Nat}{A:Obj}{cq op:Nat}{name:a_}{is:Option V}{i b x:Xa}(f3:((w2.alloc A).alloc (.cells #[.int .i64 cq,.int .u8 op,.string ⟨name.toArray⟩,i,b] 263)).grownBy w3 (some j))(y:j<w2.1.size)(z:w.1.size<=w2.1.size)(hi:∀w,gI w is i)(u:name.length<=200)(m:pX ((w2.alloc A).alloc (.cells #[.int .i64 cq,.int .u8 op,.string ⟨name.toArray⟩,i,b] 263)).1.size none w3 ts sl):TF w.1.size none ((w3.setCell ⟨w2.1.size+1,4,none⟩ sl).setCell ⟨j,5,none⟩ x) ⟨cq,op,name,is,ts⟩ ⟨w2.1.size+1,0,none⟩:=by
 have hb:=f3.block (w2.1.size+1) R2 (λe=>by injection e;omega);have r:((w2.alloc A).alloc (.cells #[.int .i64 (cq:Int),.int .u8 (op:Int),.string ⟨name.toArray⟩,i,b] 263)).1[w2.1.size+1]?=some (.cells #[.int .i64 (cq:Int),.int .u8 (op:Int),.string ⟨name.toArray⟩,i,b] 263):=by
  have:=heap_alloc_new (w2.alloc A) (.cells #[.int .i64 (cq:Int),.int .u8 (op:Int),.string ⟨name.toArray⟩,i,b] 263);simpa using this
 rw[r]at hb;have n:=ig hb 4 sl;have p:((w2.alloc A).alloc (.cells #[.int .i64 (cq:Int),.int .u8 (op:Int),.string ⟨name.toArray⟩,i,b] 263)).1.size=w2.1.size+2:=R2;rw[p]at m;refine TF.node (fz:=(0,0)) (i:=i) (s:=sl) ((UK _ ⟨j,5,none⟩ x _ (by show w2.1.size+1≠j;omega)).trans n) RM (λe=>by cases e) hi u ?_;exact(D6 (D6 m RM 4 sl) RM 5 x).mono RM
def C3(s)(e n b j i k:Nat)(K:2<=k/\k<=16)(hs:s.size<=200)(u:8<=e)(hi:i<=s.size)(hd:b<=20)(z:j+1<=b)(p:8*(s.size-i)+4<=n)(H:∀m,m<=n->sY s e m 0 89)(y:sY s e n 3 212)(w)(g:G w)(h:gS w s e i b j):Calls prog 263 #[.pointer (some ⟨e,0,none⟩),.int .i64 k] w (dt s e b j w (fq s.1.1 n b j k i)):=by
 have r:j<=b:=RM;by_cases k1:k=2\/k=3\/k=4
 ·exact AP s e n b j i k k1 w h
 by_cases D:k=5
 ·subst D;exact zi s e n b j i hi hd r p y w g h
 by_cases E:k=6
 ·subst E;exact zj s e n b j i hs u hi hd r p H w g h
 by_cases F:k=7
 ·subst F;exact C1 s e n b j i hs u hi hd r p H w g h
 by_cases I:k=8
 ·subst I;exact AO s e n b j i hs u hi hd r p H w g h
 by_cases J:k=9
 ·subst J;exact FI s e n b j i hs u hi hd r p H y w g h
 by_cases B:k=10\/k=11\/k=12
 ·exact C2 s e n b j i k B hs u hi hd r p H w g h
 by_cases C:k=13\/k=14
 ·exact uZ s e n b j i k _ (.inl ⟨C,rfl⟩) hs u hi hd r p H w g h
 exact uZ s e n b j i k _ (.inr ⟨by omega,rfl⟩) hs u hi hd z p H w g h
def zl(s m j b i)(r:bY.cq s.1.1 i b=0):AK s 212 m j b i (.error (3,i)):=by
 intro w g h;have n:=mR s m i j b w h;rw[r]at n;have p:=bZ n;go_enter func212,ntmps212;go_wp2_with fail;refine p.Z.mono ?_;rintro e w'⟨rfl,rfl⟩;go_wp2_with fail;refine(mQ s m i j b 3 _ h).mono ?_;rintro e w'⟨rfl,rfl⟩;exact⟨rfl,dd.eU (x:=(3,i)) (UD _ _)⟩
def zm(s j b i)(p:bY.cq s.1.1 i b≠0):AK s 212 j 20 b i (.error (4,i)):=by
 intro w g h;have m:=mR s j i 20 b w h;generalize bY.cq _ i b=k at m p;obtain⟨r,c1,c2,u,y,z,B,cf⟩:=h.cells;have n:=bZ m;go_enter func212,ntmps212;go_wp2_with fail;refine n.Z.mono ?_;rintro e w'⟨rfl,rfl⟩;go_wp2_with fail;refine(mQ s j i 20 b 4 _ h).mono ?_;rintro e w'⟨rfl,rfl⟩;exact⟨rfl,dd.eU (x:=(4,i)) (UD _ _)⟩
def C4(s u deep C i k)(hs:s.size<=200)(I:8<=u)(hi:i<=s.size)(hd:deep<=19)(ab:2<=k/\k<=16)(X:bY.cq s.1.1 i C=k)(r)(V:∀w,G w->gS w s u (fC s.1.1 i) (deep+1) C->Calls prog 263 #[.pointer (some ⟨u,0,none⟩),.int .i64 k] w (dt s u (deep+1) C w r)):AK s 212 u deep C i (cZ r λj ts=>.ok (j,[ij s.1.1 k i ts])):=by
 intro w g h;have S:=mR s u i deep C w h;rw[X]at S;obtain⟨c0,c1,c2,c3,c4,c5,c6,cf⟩:=h.cells;have Z:=h.deep (deep+1);have R:w.grownBy (w.setCell ⟨u,5,none⟩ (.int .i64 ((deep+1:Nat):Int))) _:=Fr.set (UD _ _) _ _;have ht:=ju s u i _ C _ (g.fr R I) Z RM hi;have aa:=ht;have K:=bZ S;have M:=bZ aa;have L:=bZ V;have J:=bZ R;have B:=tO (s.1.1.drop i);have z:=bZ (FJ (s.1.1.drop i));have N:=I4 s i;by_cases k3:k=3
 ·subst k3;go_enter func212,ntmps212;go_wp2_with fail;refine K.Z.mono ?_;rintro e w'⟨rfl,rfl⟩;go_wp2_with fail;refine M.Z.mono ?_;rintro e w2⟨rfl,h2,f2⟩;have b:=Fr.trans J.Z f2;have n:=h2.lt;unfold l_;rw[N];generalize ov _=v at B z;rcases B with rfl|⟨t,x,rfl⟩
  all_goals
   go_wp2_with fail;refine(L.Z _ (g.fr (Fr.alloc (Fr.alloc b _) _) I) ((h2.alloc _).alloc _)).mono ?_;rintro e w3 p
  all_goals rcases r with y|⟨j,ts⟩
  all_goals try
   obtain⟨f3,rfl⟩:=dt.err p;exact⟨rfl,dd.eU (Fr.trans (Fr.alloc (Fr.alloc b _) _) f3)⟩
  all_goals
   obtain⟨f3,⟨a,U,c,rfl,F⟩,m⟩:=dt.ok p;obtain⟨P,Q⟩:=kX f3 n;obtain⟨d0,d1,d2,d3,d4,d5,d6,O⟩:=m.cells;have E:=Fr.trans (Fr.alloc (Fr.alloc b _) _) f3;have D:=bZ (sb (w:=w) (x:=.int .i64 (deep:Int)) (cq:=3) (op:=0) (name:=tx s.1.1 i) f3 n b.size z.Z (Nz i hs) F);go_wp2_with fail;go_ret;refine dd.jo (Fr.set (Fr.new E Tg _ _) _ _) ((m.other RM _ _).deep deep) ?_;exact D.Z
 by_cases T:k=13
 ·subst T;go_enter func212,ntmps212;go_wp2_with fail;refine K.Z.mono ?_;rintro e w'⟨rfl,rfl⟩;go_wp2_with fail;refine M.Z.mono ?_;rintro e w2⟨rfl,h2,f2⟩;have b:=Fr.trans J.Z f2;have n:=h2.lt;unfold l_;rw[N];generalize ov (s.1.1.drop i)=v at B z;rcases B with rfl|⟨t,x,rfl⟩
  all_goals
   go_wp2_with(go_at_call 262;refine(wM _ _).mono ?_;rintro e w' ⟨rfl,rfl⟩);refine(L.Z _ (g.fr (Fr.alloc (Fr.alloc b _) _) I) ((h2.alloc _).alloc _)).mono ?_;rintro e w3 p
  all_goals rcases r with y|⟨j,ts⟩
  all_goals try
   obtain⟨f3,rfl⟩:=dt.err p;exact⟨rfl,dd.eU (Fr.trans (Fr.alloc (Fr.alloc b _) _) f3)⟩
  all_goals
   obtain⟨f3,⟨a,U,c,rfl,F⟩,m⟩:=dt.ok p;obtain⟨P,Q⟩:=kX f3 n;obtain⟨d0,d1,d2,d3,d4,d5,d6,O⟩:=m.cells;have E:=Fr.trans (Fr.alloc (Fr.alloc b _) _) f3;have D:=bZ (sb (w:=w) (x:=.int .i64 (deep:Int)) (cq:=13) (op:=bY.byteOf (tx s.1.1 i)) (name:=[]) f3 n b.size z.Z (au _) F);go_wp2_with fail;go_ret;refine dd.jo (Fr.set (Fr.new E Tg _ _) _ _) ((m.other RM _ _).deep deep) ?_;exact D.Z
 have e3:((k:Int)==3)=false:=R7;have Y:∀ts,ij s.1.1 k i ts=⟨k,0,[],m_ (s.1.1.drop i),ts⟩:=λts=>by
  simp[ij,k3,T]
 simp only[Y];go_enter func212,ntmps212;go_wp2_with fail;refine K.Z.mono ?_;rintro e w'⟨rfl,rfl⟩;go_wp2_with fail;refine M.Z.mono ?_;rintro e w2⟨rfl,h2,f2⟩;have b:=Fr.trans J.Z f2;have n:=h2.lt;unfold l_;rw[N];generalize ov (s.1.1.drop i)=v at B z;rcases B with rfl|⟨t,x,rfl⟩
 all_goals
  go_wp2_with fail;refine(L.Z _ (g.fr (Fr.alloc (Fr.alloc b _) _) I) ((h2.alloc _).alloc _)).mono ?_;rintro e w3 p
 all_goals rcases r with y|⟨j,ts⟩
 all_goals try
  obtain⟨f3,rfl⟩:=dt.err p;exact⟨rfl,dd.eU (Fr.trans (Fr.alloc (Fr.alloc b _) _) f3)⟩
 all_goals
  obtain⟨f3,⟨a,U,c,rfl,F⟩,m⟩:=dt.ok p;obtain⟨P,Q⟩:=kX f3 n;obtain⟨d0,d1,d2,d3,d4,d5,d6,O⟩:=m.cells;have E:=Fr.trans (Fr.alloc (Fr.alloc b _) _) f3;have D:=bZ (sb (w:=w) (x:=.int .i64 (deep:Int)) (cq:=k) (op:=0) (name:=[]) f3 n b.size z.Z (au _) F);go_wp2_with fail;go_ret;refine dd.jo (Fr.set (Fr.new E Tg _ _) _ _) ((m.other RM _ _).deep deep) ?_;exact D.Z
def zn(s e n)(hs:s.size<=200)(z:8<=e)(H:∀m,m<=n->sY s e m 0 89)(B:sY s e n 3 212):sY s e (n+1) 3 212:=by
 intro p b i hi hd F C;have E:PT _ (n+1) 3 p b i []=if bY.cq _ i b=0 then .error (3,i)else if p=20 then .error (4,i)else cZ _ λj ts=>.ok (j,[ij s.1.1 (bY.cq s.1.1 i b) i ts]):=rfl
 rw[E];by_cases r:bY.cq s.1.1 i b=0
 ·rw[ag r];exact zl s e p b i r
 rw[ae r];by_cases u:p=20
 ·rw[ag u];subst u;exact zm s e b i r
 rw[ae u];have y:=(mS _ i b).resolve_left r;have G:=fO (qy r);have D:fC s.1.1 i<=s.size:=by have:=fb s.1.1 i Sc;simpa using this
 have hf:8*(s.size-fC s.1.1 i)+4<=n:=by simp[bY.nd]at C;omega
 exact C4 s e p b i _ hs z hi RM y rfl _ (λw g h=>C3 s e n (p+1) b _ _ y hs z D RM RM hf H B w g h)
end
