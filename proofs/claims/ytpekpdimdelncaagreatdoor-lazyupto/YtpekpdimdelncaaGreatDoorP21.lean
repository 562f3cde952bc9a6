/- Out of E1. -/
import Derived.Test.YtpekpdimdelncaaGreatDoorP20
import Derived.Deep.OwnRows
set_option linter.unusedVariables false
set_option linter.unusedSimpArgs false
set_option maxRecDepth 100000
set_option maxHeartbeats 4000000
set_option linter.defProp false
namespace Go.Proofs.YtpekpdimdelncaaGreatDoor
open Go.RowKit Go.Shelf
section
open Tryz
def Ny(s:bY.LS)(key:a_):(dc (s.drop key).jr).length=(dc s.jr).length+key.length+15:=by
 show(dc (s.jr++[_])).length=_;rw[eB,aj,jK];simp;omega
def G9(w b key s L)(h:fI w b s L)(g:G w)(m:bY.dB key.1.1=true)(y:bY.cv s.ct key.1.1=none):Calls prog 47 #[ptr b,.string key] w λe J=>e=.returned (.int .i64 7)/\Xc w J:=by
 have M:key.size<=8:=by rw[size_data];exact iR m
 have u:key.1.1.length<=maxLen:=Tr;have l:=dT key w g R5;rw[m]at l;have n:=bZ l;obtain⟨r,B,E,I,vn,F,p⟩:=h;have HL:=bZ (And.intro p (And.intro y u));clear l p y m g u;unfold ptr;go_enter func47,ntmps47;go_wp2_with fail;refine b_ n.Z λz j=>?_;have h1:LP z b s L r B E I vn F:=HL.Z.1.st (λk C=>j.block k (HL.Z.1.lt C)) (eO.below j);have K:z.cell? ⟨b,0,none⟩=some (.map (some r)):=cr h1.eb rfl;have D:=h1.ct.vK HL.Z.2.1 HL.Z.2.2;rw[dG]at D;clear h1 HL n;go_wp2;exact VN (v:=.int .i64 7) (by simp[results,results47,go_sem]) rfl ⟨rfl,j⟩
def G_(w b key s L th)(h:fI w b s L)(g:G w)(hd:jY w)(J:bY.dB key.1.1=true)(u:bY.cv s.ct key.1.1=some th)(hj:(dc s.jr).length<=70368744177664):Calls prog 47 #[ptr b,.string key] w λe K=>e=.returned (.int .i64 0)/\eF w b L (s.drop key.1.1) K:=by
 have ab:key.size<=8:=by rw[size_data];exact iR J
 have p:key.1.1.length<=maxLen:=Tr;have D:=dT key w g R5;rw[J]at D;have O:=bZ D;obtain⟨F,S,vb,vr,vn,vj,m⟩:=h;have I:((⟨#[100,114,111,112,32]⟩:ba)++key).1.1=[100,114,111,112,32]++key.1.1:=S5;have X:((⟨#[100,114,111,112,32]⟩:ba)++key).size<=13:=by rw[size_data,I,aj,<-size_data];simp;omega
 have HL:=bZ (And.intro m (And.intro u (And.intro p (And.intro g hd))));have z:=bZ (And.intro I X);generalize V:(λ(e:Ending) (K:Xa)=>e=.returned (.int .i64 0)/\eF w b L (s.drop key.1.1) K)=RR;have Q:=bZ V;clear D m u J g p hd I X V;unfold ptr;go_enter func47,ntmps47;go_wp2_with fail;refine b_ O.Z λM n=>?_;obtain⟨m,u,p,g,hd⟩:=HL.Z;have h1:LP M b s L F S vb vr vn vj:=m.st (λk l=>n.block k (m.lt l)) (eO.below n);have c0:M.cell? ⟨b,0,none⟩=some (.map (some F)):=cr h1.eb rfl;obtain⟨p0,_,Z⟩:=h1.ct.at u;have Y:=Z true p;rw[dG]at Y;simp only[aO]at Y;obtain⟨N,aa,L2,U,r,y,j⟩:=h1.OC (kY:=key.1.1) 0 p;rw[dG]at aa;have B:=g.below n g.size;have d1:=hd.below n g.size;have C:fI M b s L:=⟨F,S,vb,vr,vn,vj,h1⟩;have T:G N:=EB C j B;have d2:jY N:=zA C j B d1;have E:=pT N b {s with ct:=bY.del s.ct key.1.1} L2 (⟨#[100,114,111,112,32]⟩++key) U T d2 (by have:=z.Z.2;omega) (by
  rw[z.Z.1];show(dc (s.jr++[_])).length<=_;rw[eB,aj,jK,aj,<-size_data];simp;omega)
 rw[z.Z.1]at E;have R:=bZ E;have P:=bZ (And.intro r (And.intro y j));clear E r y j m u p g hd h1 Z HL O B d1 T d2 C U;unfold ptr at *;go_wp2_with fail;refine b_ R.Z λw3 ⟨L3,k1,k2,k3,k4⟩=>?_;obtain⟨r,y,j⟩:=P.Z;have HP:Hid (RR (.returned (.int .i64 0)) w3):=bZ (by
  rw[<-Q.Z];refine⟨rfl,L3,k1,λk l=>?_,λk l=>k3 k (y k l),(eu.below (L:=L) n).trans (j.trans k4.toeu ?_) (λk l=>.inl l)⟩
  ·have:=n.size;have:=j.size;rcases k2 k l with h|h
   ·rcases r k h with h|h
    ·exact .inl h
    exact .inr R5
   exact .inr R5
  ·exact r)
 clear R P k1 k2 k3 k4 r y j Q;go_wp2;exact HP.Z
namespace jU
variable{b:Array Oper}{K:Act->Xa->Prop}{Q:Exit->Act->Xa->Prop}
def Ec{w:Xa}{e:TypeId}{size n m g j:Nat}{xs D:List Xb}(h:w.ownsRow 8 e size (.slice (some ⟨g,0,none⟩) (n+m) j) (n+m) (xs++D))(l:xs.length=n*size):w.ownsRow 8 e size (.slice (some ⟨g,0,none⟩) n j) n xs:=by
 rcases h.2 with⟨u,_⟩|⟨F,E,p,r,h2,y,G,z,B,C⟩
 ·cases u
 cases r;refine⟨l,.inr ⟨g,j,p,rfl,h2,y,by omega,z,B,?_⟩⟩;have:=congrArg (List.take (n*size)) C;rw[SK,SX (Rt _ (aI _ _)),<-l,Sd]at this;rw[<-l];exact this
def tC{w:Xa}(t ty e z size bytes)(M:prog.underlying t=some (.slice e))(am:(prog.info? e).map (λi=>(i.zero,i.size,i.bytes))=some (some z,size,bytes))(av:z.cells.size=size)(ap:0<size)(v n xs)(G:w.ownsRow 8 e size v n xs)(y c m)(hl:m.length=size)(J:∀j u,m[j]?=some u->w.cell? (y.add j)=some u)(h1:∀u∈m,u.oneCell'=true)(aa:(n+1)*bytes<=140737488355328)(R:n+1<=maxLen)(Y:8<=w.1.size):∃g B p,(Builtin.append_ #[t,t] ty #[v,.slice (some y) 1 c]).run prog w=.ok (.slice (some ⟨g,0,none⟩) (n+1) B) p/\p.ownsRow 8 e size (.slice (some ⟨g,0,none⟩) (n+1) B) (n+1) (xs++m)/\w.grownBy p v.ownBlock/\((v.ownBlock=some g/\∃O,v=.slice (some ⟨g,0,none⟩) n O/\O=B)\/(g=w.1.size/\Xc w p)):=by
 obtain⟨N,I,T,D,U⟩:=VW am;obtain⟨g,B,p,L,ho,r,ao,aC⟩:=run_append_lies (P:=prog) w t ty 8 e N z size bytes M I T D U av ap v n xs G y 1 c m R5 J h1 R5 R aa Y _ rfl;refine⟨g,B,p,L,ho,r,?_⟩;rcases G.2 with⟨rfl,rfl⟩|⟨F,E,V,rfl,ax,ai,a0,ay,ab,a2⟩
 ·rcases ao with h|h
  ·cases h
  exact .inr ⟨h,⟨r.os,r.tape,r.output,r.size,λk hk=>r.block k hk (λe=>by cases e)⟩⟩
 by_cases S:n+1<=E
 ·have C:=V0 (P:=prog) w t ty e N M I F n E V ai y 1 c m (by rw[D];omega) J h1 S (by
   rw[D,hl,ab];have:=Rt size S;rw[SU,Nat.one_mul]at this;exact this)
  rw[L]at C;injection C with l P
  injection l with l _ X
  injection l with l
  injection l with l
  subst l;exact .inl ⟨rfl,E,rfl,X.symm⟩
 have holds:∀j u,xs[j]?=some u->w.cell? ((⟨F,0,none⟩:Addr).add j)=some u:=G.cells (g:=F) rfl;have C:=run_append_grow (P:=prog) w t ty e N z M I T ⟨F,0,none⟩ n E xs (by rw[D];exact G.1) holds y 1 c m (by rw[D];omega) J R5 (by simp only[maxLen]at R;omega) (by rw[U];exact growslice_fits R5 R5);rw[L]at C;injection C with l P
 have Z:Xc w p:=by
  rw[P];exact(VM _ w).drew.alloc (af _) _
 have ak:g=w.1.size:=aB (congrArg Value.ownBlock l);exact .inr ⟨ak,Z⟩
def fV{o:Oper}{a:Act}{w:Xa}{E:Prop}(F:o.guard=none)(s x t)(M:o.op=Op.call {callee:=Callee.builtin Builtin.append,args:=#[s,x],argTypes:=#[t,t]})(e z size bytes)(S:prog.underlying t=some (.slice e))(G:(prog.info? e).map (λi=>(i.zero,i.size,i.bytes))=some (some z,size,bytes))(U:z.cells.size=size)(R:0<size)(v n xs)(P:a.eval s=v)(N:w.ownsRow 8 e size v n xs)(r c p)(hx:a.eval x=.slice (some r) 1 c)(I:p.length=size)(L:∀j u,p[j]?=some u->w.cell? (r.add j)=some u)(h1:∀u∈p,u.oneCell'=true)(D:(n+1)*bytes<=140737488355328)(J:n+1<=maxLen)(B:8<=w.1.size)(C:∀g m l,l.ownsRow 8 e size (.slice (some ⟨g,0,none⟩) (n+1) m) (n+1) (xs++p)->w.grownBy l v.ownBlock->((v.ownBlock=some g/\∃y,v=.slice (some ⟨g,0,none⟩) n y/\y=m)\/(g=w.1.size/\Xc w l))->K (a.put o.dst (.slice (some ⟨g,0,none⟩) (n+1) m)) l):if Region.wanted o (yielded b a.tmps)=true then Oper.wp prog o a w K Q else E:=by
 have T:Region.wanted o (yielded b a.tmps)=true:=by simp[Region.wanted,F]
 rw[ag T];obtain⟨g,m,l,O,V,X,Y⟩:=tC t o.type e z size bytes S G U R v n xs N r c p I L h1 D J B;unfold Oper.wp;simp[execOp,M,resolve,invoke,builtin,P,hx,O,Result.andThen];exact C g m l V X Y
end jU
end
section
namespace jU
def wU(p:Xb×Nat×Nat):List Xb:=[p.1,.int .i64 (p.2.2:Int)]
def hty:Fin 3->TypeId
 |0=>158
 |1=>160
 |2=>163
def p7:Fin 3->TypeId
 |0=>9
 |1=>66
 |2=>61
def mA:Fin 3->Nat
 |0=>1
 |1=>3
 |2=>6
def Am(q:Fin 3)(m:Nat):List Xb:=match q with
 |0=>[str (gp m)]
 |1=>[str (gp m),.int .i64 99,str (gp m)]
 |2=>[str (gp m),str (gp m),.int .i64 99,.string ⟨#[]⟩,.int .i64 0,str (gp m)]
def uq:∀q m,(Am q m).length=mA q
 |0,_=>rfl
 |1,_=>rfl
 |2,_=>rfl
def marks(q:Fin 3)(n m:Nat):List Xb:=(List.replicate n (Am q m)).flatten
def yQ(q k d m):marks q (k+d) m=marks q k m++marks q d m:=by
 unfold marks;rw[<-List.replicate_append_replicate,List.flatten_append]
def qI(q n m):marks q (n+1) m=marks q n m++Am q m:=by
 rw[yQ];unfold marks;simp
def sO(q m):∀n,(marks q n m).length=n*mA q
 |0=>by unfold marks;simp
 |n+1=>by rw[qI,aj,sO q m n,uq,Sl]
def pE:∀q r:Fin 3,hty q≠p7 r/\hty q≠93/\p7 q≠93/\(q≠r->hty q≠hty r/\p7 q≠p7 r)/\0<mA q:=S4
def QF{α:Type}(f:Fin 3->α)(q:Fin 3)(x:α):Fin 3->α:=λr=>if r=q then x else f r
def Ae{α:Type}(f:Fin 3->α)(q x):QF f q x q=x:=ag rfl
structure jS(w:Xa)(wb:Nat)(vL vR:Xb)(vN:Fin 3->Xb)(N:Nat)(hs:Fin 3->List (Xb×Nat×Nat))(H:Nat->Prop):Prop where
 eb:w.1[wb]?=some (.cells #[vL,vR,.int .i64 (N:Int),vN 0,vN 1,vN 2] 93 (0,0))
 row:∀q,w.ownsRow 8 (hty q) 2 (vN q) (hs q).length ((hs q).flatMap wU)
 each:∀q,∀p∈hs q,w.ownsRow 8 (p7 q) (mA q) p.1 p.2.1 (marks q p.2.1 p.2.2)/\p.2.1<=1000/\p.2.2<=N
 Af:∀q g,(vN q).ownBlock=some g->H g
 Ag:∀q,∀p∈hs q,∀g,p.1.ownBlock=some g->H g
 cz:∀k,H k->8<=k/\k<w.1.size/\k≠wb/\∃cs t fz,w.1[k]?=some (.cells cs t fz)/\∃q,t=hty q\/t=p7 q
section
variable {w w':Xa}{wb:Nat}{vL vR:Xb}{vN:Fin 3->Xb}{N:Nat}{hs:Fin 3->List (Xb×Nat×Nat)}{H:Nat->Prop}{q:Fin 3}
def jS.on{B vR':Xb}{m:Nat}(h:jS w wb vL vR vN N hs H)(j:w'.1[wb]?=some (.cells #[B,vR',.int .i64 (m:Int),vN 0,vN 1,vN 2] 93 (0,0)))(C:N<=m)(y:∀k,H k->w'.1[k]?=w.1[k]?)(D:w.1.size<=w'.1.size):jS w' wb B vR' vN m hs H where
 eb:=j
 row q:=cJ (h.row q) (λg u n r j=>(y g (h.Af q g u)).trans j)
 each q p l:=⟨cJ (h.each q p l).1 (λg u n r j=>(y g (h.Ag q p l g u)).trans j),(h.each q p l).2.1,ah (h.each q p l).2.2 C⟩
 Af:=h.Af
 Ag:=h.Ag
 cz k z:=by
  obtain⟨a,b,c,n,t,r,d,e⟩:=h.cz k z;exact⟨a,aw b D,c,n,t,r,(y k z).trans d,e⟩
def jS.st(h:jS w wb vL vR vN N hs H)(b:∀k,H k\/k=wb->w'.1[k]?=w.1[k]?)(j:w.1.size<=w'.1.size):jS w' wb vL vR vN N hs H :=h.on ((b wb (.inr rfl)).trans h.eb) (af _) (λk e=>b k (.inl e)) j
def jS.below(h:jS w wb vL vR vN N hs H)(b:Xc w w'):jS w' wb vL vR vN N hs H :=h.st (λk e=>by
  rcases e with e|rfl
  ·exact b.block k (h.cz k e).2.1
  ·exact b.block k (cj h.eb)) b.size
def yR{k g:Nat}{cs j:Array Xb}{t b:TypeId}{fz l:Nat×Nat}(h:w.1[k]?=some (.cells cs t fz))(m:w.1[g]?=some (.cells j b l))(n:t≠b):k≠g:=λe=>by
 rw[e,m]at h;cases h;exact n rfl
def jS.count(h:jS w wb vL vR vN N hs H):jS (w.setCell ⟨wb,2,none⟩ (.int .i64 ((N+1:Nat):Int))) wb vL vR vN (N+1) hs H/\eu (λk=>k=wb) w (w.setCell ⟨wb,2,none⟩ (.int .i64 ((N+1:Nat):Int))):=by
 have e:∀k,k≠wb->(w.setCell ⟨wb,2,none⟩ (.int .i64 ((N+1:Nat):Int))).1[k]?=w.1[k]? := λk b=>VU w ⟨wb,2,none⟩ k _ b;exact⟨h.on (heap_setCell_same w wb 2 _ _ _ h.eb) (RI _) (λk b=>e k (h.cz k b).2.2.1) S5,⟨rfl,rfl,rfl,by simp,λk b j=>e k j⟩⟩
def jS.push(h:jS w wb vL vR vN N hs H){y:Xb}{n c:Nat}(X:c=3+q.val)(P:w.ownsRow 8 (p7 q) (mA q) y n (marks q n N))(G:n<=1000)(Q:∀g,y.ownBlock=some g->g≠wb){w1 w2:Xa}{g cP:Nat}(u:Xc w w1)(R:w2.ownsRow 8 (hty q) 2 (.slice (some ⟨g,0,none⟩) ((hs q).length+1) cP) ((hs q).length+1) ((hs q).flatMap wU++[y,.int .i64 N]))(K:w1.grownBy w2 (vN q).ownBlock)(Z:((vN q).ownBlock=some g/\∃U,vN q=.slice (some ⟨g,0,none⟩) (hs q).length U/\U=cP)\/(g=w1.1.size/\Xc w1 w2)):∃W,w2.setCell ⟨wb,c,none⟩ (.slice (some ⟨g,0,none⟩) ((hs q).length+1) cP)=W/\jS W wb vL vR (QF vN q (.slice (some ⟨g,0,none⟩) ((hs q).length+1) cP)) N (QF hs q (hs q++[(y,n,N)])) (λk=>H k\/k=g\/y.ownBlock=some k)/\W.ownsRow 8 (p7 q) (mA q) y n (marks q n N)/\(∀k,k=g->H k\/w.1.size<=k)/\eu (λk=>H k\/k=wb) w W/\(∃v,w2.cell? ⟨wb,c,none⟩=some v)/\w2.frozen? ⟨wb,c,none⟩=false/\wb<w2.1.size:=by
 have aa:=Z.imp And.left And.left;have hq:=cj h.eb;have ab:(vN q).ownBlock≠some wb:=λe=>(h.cz wb (h.Af q wb e)).2.2.1 rfl;have L:∀k,k<w.1.size->(vN q).ownBlock≠some k->w2.1[k]?=w.1[k]? := λk j G=>(K.block k (aw j u.size) (λe=>G e.symm)).trans (u.block k j);have J:=(L _ hq ab).trans h.eb;have S:=ah u.size K.size;generalize am:Value.slice (some ⟨g,0,none⟩) ((hs q).length+1) cP=B at *;have M:∀k,B.ownBlock=some k↔k=g:=λk=>by
  rw[<-am];exact⟨λe=>(aB e).symm,λe=>by rw[e];rfl⟩
 have I:∀k,k≠wb->(w2.setCell ⟨wb,c,none⟩ B).1[k]?=w2.1[k]? := λk j=>VU w2 ⟨wb,c,none⟩ k _ j;have O:g≠wb:=λe=>by
  rcases aa with h|h
  ·exact ab (e▸h)
  have:=u.size;omega
 have T:∀{e:TypeId}{m:Nat}{v:Xb}{a:Nat}{xs:List Xb},w.ownsRow 8 e m v a xs->e≠hty q->(∀k,v.ownBlock=some k->k≠wb)->(w2.setCell ⟨wb,c,none⟩ B).ownsRow 8 e m v a xs:=λhv he hw=>cJ hv (λk j C D z=>by
  refine((I k (hw k j)).trans (L k (cj z) (λe=>?_))).trans z;obtain⟨ap,av,ai⟩:=cE (h.row q) e;exact yR z ai he rfl)
 have ak:∀r k,(vN r).ownBlock=some k->k≠wb:=λr k j=>(h.cz k (h.Af r k j)).2.2.1;have ao:∀r,∀p∈hs r,∀k,p.1.ownBlock=some k->k≠wb:=λr p l k j=>(h.cz k (h.Ag r p l k j)).2.2.1;have ad:∀k,k<w.1.size->k≠g->w2.1[k]?=w.1[k]? := λk j F=>by
  rcases Z with⟨a,_⟩|⟨a,b⟩
  ·exact L k j (λe=>F (aB (e.symm.trans a)))
  exact(b.block k (aw j u.size)).trans (u.block k j)
 have Y:=VT R g ((M g).2 rfl);have V:(w2.setCell ⟨wb,c,none⟩ B).ownsRow 8 (p7 q) (mA q) y n (marks q n N):=T P (pE q q).1.symm Q;refine⟨_,rfl,⟨?_,λr=>?_,λr p l=>?_,λr k j=>?_,λr p l k j=>?_,λk j=>?_⟩,V,λk j=>?_,⟨K.os.trans u.os,K.tape.trans u.tape,K.output.trans u.output,by simp;exact S,λk j G=>(I k (λe=>G (.inr e))).trans (L k j (λe=>G (.inl (h.Af q k e))))⟩,?_,by simp[World.frozen?,J],aw hq S⟩
 ·subst X;refine(heap_setCell_same w2 wb _ _ _ B J).trans ?_
  match q with
  |0=>rfl
  |1=>rfl
  |2=>rfl
 ·by_cases E:r=q
  ·subst E;rw[Ae,Ae,aj,Rm];exact cJ R (λk j C D z=>by rw[(M k).1 j]at z ⊢;exact(I g O).trans z)
  show(w2.setCell _ B).ownsRow 8 _ 2 (if r=q then _ else _) (if r=q then _ else _:List _).length ((if r=q then _ else _:List _).flatMap wU);rw[ae E,ae E];exact T (h.row r) ((pE r q).2.2.2.1 E).1 (ak r)
 ·have hold:∀p∈hs r,(w2.setCell ⟨wb,c,none⟩ B).ownsRow 8 (p7 r) (mA r) p.1 p.2.1 (marks r p.2.1 p.2.2)/\p.2.1<=1000/\p.2.2<=N:=λp l=>⟨T (h.each r p l).1 (pE q r).1.symm (ao r p l),(h.each r p l).2⟩;by_cases E:r=q
  ·subst E;rw[Ae]at l;rcases aL.1 l with l|l
   ·exact hold p l
   simp at l;subst l;exact⟨V,G,af _⟩
  exact hold p (by have:p∈if r=q then _ else hs r:=l;rw[ae E]at this;exact this)
 ·have j:(if r=q then B else vN r).ownBlock=some k:=j;split at j
  ·exact .inr (.inl ((M k).1 j))
  exact .inl (h.Af r k j)
 ·have l:p∈if r=q then hs q++[(y,n,N)]else hs r:=l;split at l
  ·rcases aL.1 l with l|l
   ·exact .inl (h.Ag q p l k j)
   simp at l;subst l;exact .inr (.inr j)
  exact .inl (h.Ag r p l k j)
 ·by_cases F:k=g
  ·subst F;obtain⟨C,D,z⟩:=cE R ((M k).2 rfl);exact⟨Y.1,by simp;exact Y.2,O,C,_,D,(I k O).trans z,q,.inl rfl⟩
  rcases j with j|j|j
  ·obtain⟨a,b,c,C,t,D,d,e⟩:=h.cz k j;exact⟨a,by simp;exact aw b S,c,C,t,D,((I k c).trans (ad k b F)).trans d,e⟩
  ·exact(F j).elim
  have:=VT P k j;obtain⟨C,D,d⟩:=cE P j;exact⟨this.1,by simp;omega,Q k j,C,_,D,((I k (Q k j)).trans (ad k this.2 F)).trans d,q,.inr rfl⟩
 ·rw[j];rcases aa with h1|h1
  ·exact .inl (h.Af q g h1)
  rw[h1];exact .inr u.size
 subst X
 match q with
 |0=>exact⟨_,by simp[World.cell?,J];rfl⟩
 |1=>exact⟨_,by simp[World.cell?,J];rfl⟩
 |2=>exact⟨_,by simp[World.cell?,J];rfl⟩
def Ed{g k n b m:Nat}(h:w.ownsRow 8 (p7 q) (mA q) (.slice (some ⟨g,0,none⟩) n b) n (marks q n m))(e:k<=n):w.ownsRow 8 (p7 q) (mA q) (.slice (some ⟨g,0,none⟩) k b) k (marks q k m):=by
 obtain⟨d,rfl⟩:∃d,n=k+d:=⟨n-k,by omega⟩;rw[yQ]at h;exact Ec h (sO q m k)
def jS.more(h:jS w wb vL vR vN N hs H){u:Xb}{n g I:Nat}(ad:w.ownsRow 8 (p7 q) (mA q) u n (marks q n N))(ai:∀g,u.ownBlock=some g->g≠wb)(U:∀p∈hs q,∀b,u.ownBlock=some b->p.1.ownBlock=some b->∃k c,p=(.slice (some ⟨b,0,none⟩) k c,k,N)/\u=.slice (some ⟨b,0,none⟩) n c/\k<=n){w1 w2:Xa}(m:Xc w w1)
  (K:w2.ownsRow 8 (p7 q) (mA q) (.slice (some ⟨g,0,none⟩) (n+1) I) (n+1) (marks q n N++Am q N)) (E:w1.grownBy w2 u.ownBlock) (G:(u.ownBlock=some g/\∃D,u=.slice (some ⟨g,0,none⟩) n D/\D=I)\/(g=w1.1.size/\Xc w1 w2)) :
  jS w2 wb vL vR vN N hs H/\w2.ownsRow 8 (p7 q) (mA q) (.slice (some ⟨g,0,none⟩) (n+1) I) (n+1) (marks q (n+1) N)/\(∀p∈hs q,p.1.ownBlock=some g->∃k c,p=(.slice (some ⟨g,0,none⟩) k c,k,N)/\(Value.slice (some ⟨g,0,none⟩) (n+1) I)=.slice (some ⟨g,0,none⟩) (n+1) c/\k<=n+1)/\g≠wb/\(u.ownBlock=some g\/w.1.size<=g)/\eu (λk=>u.ownBlock=some k) w w2:=by
 rw[<-qI]at K;have J:∀k,k<w.1.size->u.ownBlock≠some k->w2.1[k]?=w.1[k]? := λk l P=>(E.block k (aw l m.size) (λe=>P e.symm)).trans (m.block k l);have hty:∀(k:Nat) (y:Array Xb) (t:TypeId) (z:Nat×Nat),w.1[k]?=some (.cells y t z)->t≠p7 q->w2.1[k]?=w.1[k]? := λk y t z l ht=>J k (cj l) (λe=>by
  obtain⟨R,S,aa⟩:=cE ad e;exact yR l aa ht rfl)
 have L:=ah m.size E.size;refine⟨⟨(hty wb _ _ _ h.eb (pE q q).2.2.1.symm).trans h.eb,λr=>cJ (h.row r) (λk l y z C=>(hty k _ _ _ C (pE r q).1).trans C),λr p B=>⟨?_,(h.each r p B).2⟩,h.Af,h.Ag,λk l=>?_⟩,K,λp B C=>?_,?_,?_,⟨E.os.trans m.os,E.tape.trans m.tape,E.output.trans m.output,L,λk l P=>J k l P⟩⟩
 ·by_cases Y:r=q
  ·subst Y;by_cases Z:∃b,u.ownBlock=some b/\p.1.ownBlock=some b
   ·obtain⟨b,T,ab⟩:=Z;obtain⟨k,c,Q,F,ak⟩:=U p B b T ab;rcases G with⟨h1,D,h2,M⟩|⟨h1,h2⟩
    ·rw[T]at h1;cases h1;rw[h2]at F;cases F;subst M;rw[Q];exact Ed K R5
    refine cJ (h.each r p B).1 (λj O y z l=>?_);have V:=cj l;exact((h2.block j (aw V m.size)).trans (m.block j V)).trans l
   exact cJ (h.each r p B).1 (λj O y z l=>(J j (cj l) (λe=>Z ⟨j,e,O⟩)).trans l)
  exact cJ (h.each r p B).1 (λj O y z l=>(hty j _ _ _ l ((pE r q).2.2.2.1 Y).2).trans l)
 ·obtain⟨a,b,c,y,t,z,d,e⟩:=h.cz k l;by_cases X:u.ownBlock=some k
  ·rcases G with⟨h1,_⟩|⟨h1,h2⟩
   ·rw[X]at h1;cases h1;obtain⟨R,S,C⟩:=cE K rfl;exact⟨a,aw b L,c,R,_,S,C,q,.inr rfl⟩
   exact⟨a,aw b L,c,y,t,z,((h2.block k (aw b m.size)).trans (m.block k b)).trans d,e⟩
  exact⟨a,aw b L,c,y,t,z,(J k b X).trans d,e⟩
 ·rcases G with⟨h1,D,h2,M⟩|⟨h1,h2⟩
  ·obtain⟨k,c,Q,F,ak⟩:=U p B g h1 C;rw[h2]at F;cases F;subst M;exact⟨k,D,Q,rfl,by omega⟩
  have:=(h.cz g (h.Ag q p B g C)).2.1;have:=m.size;omega
 ·rcases G with⟨h1,_⟩|⟨h1,h2⟩
  ·exact ai g h1
  have:=cj h.eb;have:=m.size;omega
 rcases G with⟨h1,_⟩|⟨h1,h2⟩
 ·exact .inl h1
 rw[h1];exact .inr m.size
end
end jU
end
section
open Tryz
namespace jU
def wV(n:Nat)(w:Xa)(G:n<=1000000000):Calls prog 80 #[.int .i64 (n:Int)] w λe I=>e=.returned (.agg #[str (gp n),.int .i64 99,str (gp n)])/\Xc w I:=by
 have u:=λW=>rQ n W G;obtain⟨D,C⟩:∃x:ba,str (gp n)=.string x:=⟨_,rfl⟩;rw[C]at u ⊢;have y:=bZ u;clear u C;have p:Xc w (w.alloc (.cells #[.string ⟨#[]⟩,.int .i64 0,.string ⟨#[]⟩] 66)):=(VM _ w).alloc (af _) _;have B:=heap_alloc_new w (.cells #[.string ⟨#[]⟩,.int .i64 0,.string ⟨#[]⟩] 66);go_enter func80,ntmps80;go_wp2_with fail;refine b_ (y.Z _) λJ r=>?_;go_wp2_with fail;refine b_ (y.Z _) λl z=>?_;have m:=r.trans (z.mono r.size);have b:=(m.block w.1.size S5).trans B;have F:l.cell? ⟨w.1.size,0,none⟩=some (.string ⟨#[]⟩):=cr b rfl;have b1:l.cell? ⟨w.1.size,1,none⟩=some (.int .i64 0):=cr b rfl;have b2:l.cell? ⟨w.1.size,2,none⟩=some (.string ⟨#[]⟩):=cr b rfl;have f0:∀j,l.frozen? ⟨w.1.size,j,none⟩=false:=λj=>fq b;have E:=bZ (p.trans (m.mono p.size));clear r z m b p B;go_wp2;exact VN (v:=.agg #[.string D,.int .i64 99,.string D]) (by simp[results,results80,go_sem,F,b1,b2]) rfl ⟨rfl,((E.Z.setCell (af _) _).setCell (af _) _).setCell (af _) _⟩
def tD(n:Nat)(w:Xa)(K:n<=1000000000):Calls prog 81 #[.int .i64 (n:Int)] w λe L=>e=.returned (.agg #[str (gp n),str (gp n),.int .i64 99,.string ⟨#[]⟩,.int .i64 0,str (gp n)])/\Xc w L:=by
 have u:=λW=>rQ n W K;obtain⟨y,D⟩:∃x:ba,str (gp n)=.string x:=⟨_,rfl⟩;rw[D]at u ⊢;have m:=bZ u;clear u D;have p:Xc w (w.alloc (.cells #[.string ⟨#[]⟩,.string ⟨#[]⟩,.int .i64 0,.string ⟨#[]⟩,.int .i64 0,.string ⟨#[]⟩] 61)):=(VM _ w).alloc (af _) _;have C:=heap_alloc_new w (.cells #[.string ⟨#[]⟩,.string ⟨#[]⟩,.int .i64 0,.string ⟨#[]⟩,.int .i64 0,.string ⟨#[]⟩] 61);go_enter func81,ntmps81;go_wp2_with fail;refine b_ (m.Z _) λM r=>?_;go_wp2_with fail;refine b_ (m.Z _) λN z=>?_;have l:=r.trans (z.mono r.size);clear r z;go_wp2_with fail;refine b_ (m.Z _) λw3 B=>?_;have l:=l.trans (B.mono l.size);have b:=(l.block w.1.size S5).trans C;have F:w3.cell? ⟨w.1.size,0,none⟩=some (.string ⟨#[]⟩):=cr b rfl;have b1:w3.cell? ⟨w.1.size,1,none⟩=some (.string ⟨#[]⟩):=cr b rfl;have b2:w3.cell? ⟨w.1.size,2,none⟩=some (.int .i64 0):=cr b rfl;have G:w3.cell? ⟨w.1.size,3,none⟩=some (.string ⟨#[]⟩):=cr b rfl;have I:w3.cell? ⟨w.1.size,4,none⟩=some (.int .i64 0):=cr b rfl;have J:w3.cell? ⟨w.1.size,5,none⟩=some (.string ⟨#[]⟩):=cr b rfl;have f0:∀j,w3.frozen? ⟨w.1.size,j,none⟩=false:=λj=>fq b;have E:=bZ (p.trans (l.mono p.size));clear B l b p C;go_wp2;exact VN (v:=.agg #[.string y,.string y,.int .i64 99,.string ⟨#[]⟩,.int .i64 0,.string y]) (by simp[results,results81,go_sem,F,b1,b2,G,I,J]) rfl ⟨rfl,(((((E.Z.setCell (af _) _).setCell (af _) _).setCell (af _) _).setCell (af _) _).setCell (af _) _).setCell (af _) _⟩
end jU
def Le(w:Xa)(a:Option Addr)(n c e b:Nat):(binOp .eql 55 (.slice a n c) (.slice none e b)).run prog w=.ok (.bool a.isNone) w :=Lib.run_eql_slice_nil w _ _ a n c e b underlying55
def Ah(w:Xa)(v:Xb)(n:Nat)(xs:List Xb)(G:w.ownsRow 8 61 6 v n xs)(h1:∀u∈xs,u.oneCell'=true)(N:n<=1000000000):Calls prog 55 #[v] w λe m=>∃r,e=.returned r/\m.ownsRow w.1.size 61 6 r n xs/\Xc w m:=by
 have B:=G;obtain⟨p,⟨rfl,rfl⟩|⟨g,C,S,rfl,T,M,Y,U,V,Q⟩⟩:=G
 ·have O:=Le w none 0 0 0 0;have hx:xs=[]:=RN Tw;subst hx;have l:Hid (w.ownsRow w.1.size 61 6 (.slice none 0 0) 0 []/\Xc w w):=bZ ⟨V8 _ _ _ _,VM _ _⟩;clear B p h1 N;go_enter func55,ntmps55;go_wp2;go_ret;exact⟨_,rfl,l.Z.1,l.Z.2⟩
 have O:=Le w (some ⟨g,0,none⟩) n C 0 0;have y:Xc w (w.alloc (.cells #[] 61)):=(VM _ w).alloc (af _) _;have E:∀j u,xs[j]?=some u->(w.alloc (.cells #[] 61)).cell? ((⟨g,0,none⟩:Addr).add j)=some u:=λj u hu=>cell_later y (B.cells (g:=g) rfl j u hu);have I:(w.alloc (.cells #[] 61)).ownsRow w.1.size 61 6 (.slice (some ⟨w.1.size,0,none⟩) 0 0) 0 []:=⟨rfl,.inr ⟨w.1.size,0,#[],rfl,af _,heap_alloc_new w _,af _,ar _,rfl,rfl⟩⟩;obtain⟨R,F,J,K,L⟩:=VW sE;obtain⟨r,m,P,z,b,_⟩:=run_append_own (P:=prog) (w.alloc (.cells #[] 61)) w.1.size 55 55 61 R _ 6 80 underlying55 F J K L rfl S4 _ 0 [] I ⟨g,0,none⟩ n C xs (by rw[p]) E h1 Th R5 S5;rw[aG,Rz]at z;have l:Hid (m.ownsRow w.1.size 61 6 r n xs/\Xc w m):=bZ ⟨z,y.trans ⟨b.os,b.tape,b.output,b.size,λk X=>b.block k Tc (λe=>by have D:some k=some w.1.size:=e;injection D with D;omega)⟩⟩;clear B p h1 E I z b F J K L M Q y;go_enter func55,ntmps55;go_wp2_with(at_builtin;refine cW _ rfl _ _ _ _ rfl _ _ _ _ rfl rfl P ?_);go_ret;exact⟨_,rfl,l.Z.1,l.Z.2⟩
def NK(l:List bY.rS):∀u∈l.flatMap dm,u.oneCell'=true:=by
 intro u hu;obtain⟨y,_,b⟩:=Sm.1 hu;have e:∀(r:bY.Wo),∀u∈dY r,u.oneCell'=true:=λr u hu=>by
  cases r with
  |ok v =>
   simp only[dY,aK,Sk,RM]at hu;rcases hu with rfl|rfl<;>rfl
  |error c =>
   simp only[dY,aK,Sk,RM]at hu;rcases hu with rfl|rfl<;>rfl
 unfold dm at b;simp only[aK,aL]at b;rcases b with rfl|rfl|h|h
 ·rfl
 ·rfl
 ·exact e _ u h
 exact e _ u h
def NM(w:Xa)(j:Nat)(s:bY.LS)(L:Nat->Prop)(h:fI w j s L)(r:s.du.length<=1000000000):Calls prog 28 #[ptr j] w λe n=>∃l,e=.returned l/\n.ownsRow w.1.size 61 6 l s.du.length (s.du.flatMap dm)/\Xc w n:=by
 obtain⟨B,z,C,E,vn,D,b⟩:=h;have y:w.cell? ⟨j,4,none⟩=some vn:=cr b.eb rfl;have m:=bZ (Ah w vn _ _ b.du (NK s.du) r);clear b;unfold ptr;go_enter func28,ntmps28;go_wp2_with fail;refine m.Z.mono ?_;rintro e F⟨l,rfl,u,p⟩;dsimp only;clear m;go_wp2;go_ret;exact⟨_,rfl,u,p⟩
def He:(prog.info? 66).map (λi=>(i.zero,i.size,i.bytes))=some (some (.agg #[.string ⟨#[]⟩,.int .i64 0,.string ⟨#[]⟩]),3,40):=S8
def gw(n:a_×bY.Wo):List Xb:=str n.1::dY n.2
def wW(s:bY.LS)(key:a_)(w w':Xa)(e:Ending):Prop :=if bY.dB key=true then
  match bY.cK s.ct key with
  |none=>e=.returned (.tuple #[.agg #[.int .i64 0,.string ⟨#[]⟩],.slice none 0 0,.int .i64 7])
  |some b=>∃v,e=.returned (.tuple #[dC b.dR,v,.int .i64 0])/\w'.ownsRow w.1.size 66 3 v b.cH.length (b.cH.flatMap gw)
 else e=.returned (.tuple #[.agg #[.int .i64 0,.string ⟨#[]⟩],.slice none 0 0,.int .i64 1])
def sS{w w1:Xa}(h:Below (w.alloc (.cells #[.int .i64 0,.string ⟨#[]⟩] 59)).1.size (w.alloc (.cells #[.int .i64 0,.string ⟨#[]⟩] 59)) w1):w1.1[w.1.size]?=some (.cells #[.int .i64 0,.string ⟨#[]⟩] 59 (0,0)) :=(h.block _ S5).trans (heap_alloc_new w _)
def Ca(w:Xa)(F:Nat)(key:ba)(g:G w)(J:key.size<=20000000)(y:bY.dB key.1.1=false):Calls prog 30 #[ptr F,.string key] w λe I=>e=.returned (.tuple #[.agg #[.int .i64 0,.string ⟨#[]⟩],.slice none 0 0,.int .i64 1])/\Xc w I:=by
 have m:Xc w (w.alloc (.cells #[.int .i64 0,.string ⟨#[]⟩] 59)):=(VM _ w).alloc (af _) _;have l:=bZ (dT key _ (g.below m g.size) R5);rw[y]at l;have r:=bZ m;clear g m y;unfold ptr;go_enter func30,ntmps30;go_wp2_with fail;refine b_ l.Z λb n=>?_;dsimp only;have j:=sS n;have B:b.cell? ⟨w.1.size,0,none⟩=some (.int .i64 0):=cr j rfl;have C:b.cell? ⟨w.1.size,1,none⟩=some (.string ⟨#[]⟩):=cr j rfl;have f0:b.frozen? ⟨w.1.size,0,none⟩=false:=fq j;have f1:b.frozen? ⟨w.1.size,1,none⟩=false:=fq j;have p:Hid (Xc w b):=bZ (r.Z.trans (n.mono S5));have h2:=gG (gG j 0 (.int .i64 0)) 1 (.string ⟨#[]⟩);have u:Hid (Xc w ((b.setCell ⟨w.1.size,0,none⟩ (.int .i64 0)).setCell ⟨w.1.size,1,none⟩ (.string ⟨#[]⟩))):=bZ ((p.Z.setCell (af _) _).setCell (af _) _);clear l r n p j;go_wp2_with fail;clear B C f0 f1;generalize (b.setCell ⟨w.1.size,0,none⟩ (.int .i64 0)).setCell ⟨w.1.size,1,none⟩ (.string ⟨#[]⟩)=z at h2 u ⊢;have D:z.cell? ⟨w.1.size,0,none⟩=some (.int .i64 0):=cr h2 rfl;have E:z.cell? ⟨w.1.size,1,none⟩=some (.string ⟨#[]⟩):=cr h2 rfl;exact VN (v:=.tuple #[.agg #[.int .i64 0,.string ⟨#[]⟩],.slice none 0 0,.int .i64 1]) (by simp[results,results30,go_sem,D,E]) rfl ⟨rfl,u.Z⟩
def Hf(w:Xa)(n:Nat)(s:bY.LS)(L:Nat->Prop)(key:ba)(h:fI w n s L)(g:G w)(y:key.size<=200)(E:bY.dB key.1.1=true)(D:bY.cK s.ct key.1.1=none):Calls prog 30 #[ptr n,.string key] w λe I=>e=.returned (.tuple #[.agg #[.int .i64 0,.string ⟨#[]⟩],.slice none 0 0,.int .i64 7])/\Xc w I:=by
 have r:Xc w (w.alloc (.cells #[.int .i64 0,.string ⟨#[]⟩] 59)):=(VM _ w).alloc (af _) _;have p:=bZ (dT key _ (g.below r g.size) R5);rw[E]at p;have z:=bZ r;have HL:=bZ (And.intro h D);clear g r E h D;unfold ptr;go_enter func30,ntmps30;go_wp2_with fail;refine b_ p.Z λb u=>?_;dsimp only;have j:=sS u;have K:b.cell? ⟨w.1.size,0,none⟩=some (.int .i64 0):=cr j rfl;have M:b.cell? ⟨w.1.size,1,none⟩=some (.string ⟨#[]⟩):=cr j rfl;have f0:b.frozen? ⟨w.1.size,0,none⟩=false:=fq j;have f1:b.frozen? ⟨w.1.size,1,none⟩=false:=fq j;have l:Hid (Xc w b):=bZ (z.Z.trans (u.mono S5));have h2:=gG (gG j 0 (.int .i64 0)) 1 (.string ⟨#[]⟩);have B:Hid (Xc w ((b.setCell ⟨w.1.size,0,none⟩ (.int .i64 0)).setCell ⟨w.1.size,1,none⟩ (.string ⟨#[]⟩))):=bZ ((l.Z.setCell (af _) _).setCell (af _) _);have C:fI b n s L:=HL.Z.1.st (λk y=>l.Z.block k (HL.Z.1.cz k y).2.1) (eO.below l.Z);have m:=bZ (qC b n s L key C y);rw[HL.Z.2]at m;unfold ptr at m;clear p z u l j C HL;go_wp2_with fail;refine m.Z.mono ?_;rintro e I⟨⟨v,rfl,F⟩,P⟩;obtain rfl:=P.symm;dsimp only;obtain rfl:v=.pointer none:=by
  rcases F with⟨_,h⟩|⟨R,Q,h,_⟩
  ·exact h
  cases h
 clear F m;go_wp2_with fail;clear K M f0 f1;generalize (b.setCell ⟨w.1.size,0,none⟩ (.int .i64 0)).setCell ⟨w.1.size,1,none⟩ (.string ⟨#[]⟩)=J at h2 B ⊢;have N:J.cell? ⟨w.1.size,0,none⟩=some (.int .i64 0):=cr h2 rfl;have O:J.cell? ⟨w.1.size,1,none⟩=some (.string ⟨#[]⟩):=cr h2 rfl;exact VN (v:=.tuple #[.agg #[.int .i64 0,.string ⟨#[]⟩],.slice none 0 0,.int .i64 7]) (by simp[results,results30,go_sem,N,O]) rfl ⟨rfl,B.Z⟩
end
section
variable{b:List (a_×bY.Wo)}{Z:Nat->Xb}{n:a_×bY.Wo}
def qq(b:List (a_×bY.Wo))(Z:Nat->Xb)(k j:Nat):Xb:=if j<k*3 then(b.flatMap gw)[j]?.getD undef else Z j
def Cb(r:bY.Wo):(dY r).length=2:=by cases r<;>rfl
def kE(n:a_×bY.Wo):(gw n).length=3:=by
 unfold gw;rw[aM,Cb]
def rR:∀(b:List (a_×bY.Wo)) (k:Nat) (n:a_×bY.Wo),b[k]?=some n->∀j,j<3->(b.flatMap gw)[k*3+j]?=(gw n)[j]?
 |[],k,n,h,j,e=>by simp at h
 |m::b,0,n,h,j,e=>by
  simp at h;subst h;rw[Q7,RY,aG,aP (by rw[kE];exact e)]
 |m::b,k+1,n,h,j,e=>by
  rw[Q7,aX (by rw[kE];omega),kE,show(k+1)*3+j-3=k*3+j by omega];exact rR b k n Ts j e
def lB(b:List (a_×bY.Wo)):(b.flatMap gw).length=b.length*3:=by
 induction b with
 |nil=>rfl
 |cons m b e =>
  rw[Q7,aj,kE,e,aM];omega
def Hg{w:Xa}{e:Nat}{k:Nat}{tc:Xb}{ts:Xb}(h:w.rowIs e 66 (b.length*3) (qq b Z k))(u:b[k]?=some n)(D:dY n.2=[tc,ts]):(((w.setCell ⟨e,k*3,none⟩ (str n.1)).setCell ⟨e,k*3+1,none⟩ tc).setCell ⟨e,k*3+2,none⟩ ts).rowIs e 66 (b.length*3) (qq b Z (k+1)):=by
 refine(((h.set (k*3) (str n.1)).set (k*3+1) tc).set (k*3+2) ts).congr (λj E=>?_);have C:gw n=[str n.1,tc,ts]:=by unfold gw;rw[D]
 have l:=rR b k n u 0 R5;have y:=rR b k n u 1 R5;have z:=rR b k n u 2 R5;rw[C]at l y z;unfold qq;by_cases r:j=k*3+2
 ·rw[ag r,ag R5,r,z];rfl
 rw[ae r];by_cases p:j=k*3+1
 ·rw[ag p,ag R5,p,y];rfl
 rw[ae p];by_cases m:j=k*3
 ·rw[ag m,ag R5,m];rw[aR]at l;rw[l];rfl
 rw[ae m];by_cases B:j<k*3
 ·rw[ag B,ag R5]
 rw[ae B,ae R5]
def Hh{w:Xa}{base l:Nat}(h:w.rowIs l 66 (b.length*3) (qq b Z b.length))(p:base<=l)(r:b.length<=maxLen):w.ownsRow base 66 3 (.slice (some ⟨l,0,none⟩) b.length b.length) b.length (b.flatMap gw):=by
 obtain⟨c,h1,h2,m⟩:=h;refine⟨lB b,.inr ⟨l,b.length,c,rfl,p,h1,af _,r,h2,?_⟩⟩;apply Se;intro j;by_cases e:j<b.length*3
 ·rw[List.getElem?_take_of_lt e,Sc,m j e];unfold qq;rw[ag e,aq (by rw[lB];exact e)];rfl
 rw[SZ T7,SZ (by rw[lB];omega)]
end
section
open Tryz
variable{K:Act->Xa->Prop}
def Fl{a:Act}{w:Xa}(h:K a w):ER K .normal a w:=h
def Hi(w:Xa)(lb:Nat)(s:bY.LS)(L:Nat->Prop)(key:ba)(kp:bY.gl)(h:fI w lb s L)(g:G w)(hk:key.size<=200)(hn:bY.dB key.1.1=true)(bk:bY.cK s.ct key.1.1=some kp):Calls prog 30 #[ptr lb,.string key] w λe l=>(∃v,e=.returned (.tuple #[dC kp.dR,v,.int .i64 0])/\l.ownsRow w.1.size 66 3 v kp.cH.length (kp.cH.flatMap gw))/\Xc w l:=by
 have ak:Xc w (w.alloc (.cells #[.int .i64 0,.string ⟨#[]⟩] 59)):=(VM _ w).alloc (af _) _;have HN:=bZ (dT key _ (g.below ak g.size) R5);rw[hn]at HN;have a6:=bZ ak;have HL:=bZ (And.intro h (And.intro bk g));generalize bg:(λ(e:Ending) (l:Xa)=>(∃v,e=.returned (.tuple #[dC kp.dR,v,.int .i64 0])/\l.ownsRow w.1.size 66 3 v kp.cH.length (kp.cH.flatMap gw))/\Xc w l)=RR;have a9:=bZ bg;clear g ak hn h bk bg;unfold ptr;go_enter func30,ntmps30;go_wp2_with fail;refine b_ HN.Z λb am=>?_;dsimp only;have ad:=bZ (sS am);have B:Hid (Xc w b):=bZ (a6.Z.trans (am.mono S5));have bd:fI b lb s L:=HL.Z.1.st (λk hk=>B.Z.block k (HL.Z.1.cz k hk).2.1) (eO.below B.Z);have S:=bZ (qC b lb s L key bd hk);rw[HL.Z.2.1]at S;have V:G b:=HL.Z.2.2.below B.Z HL.Z.2.2.size;unfold ptr at S;clear HN a6 am bd HL;go_wp2_with fail;refine S.Z.mono ?_;rintro e l⟨⟨v,rfl,hv⟩,bF⟩;obtain rfl:=bF.symm;dsimp only;obtain⟨u,rfl,bA⟩:∃u,v=ptr u/\iM b L kp u:=by
  rcases hv with⟨h,_⟩|⟨bM,u,h,h2,h3⟩
  ·cases h
  cases h;exact⟨u,h2,h3⟩
 obtain⟨c,i,sl,X,bJ,bj,bm,_,bC⟩:=bA;obtain⟨o,cp,rfl,bh⟩:=bm.cell;have d0:b.cell? ⟨u,0,none⟩=some c:=cr X rfl;have d1:b.cell? ⟨u,1,none⟩=some i:=cr X rfl;have d2:b.cell? ⟨u,2,none⟩=some (.slice o kp.cH.length cp):=cr X rfl;obtain⟨i0,ay,bq,br,bt⟩:=VW He;have aC:=run_make (P:=prog) b 62 66 i0 _ underlying62 ay bq .i64 .i64 (kp.cH.length:Int) (kp.cH.length:Int) R5 R5 (by rw[bt];omega) R5;rw[br]at aC;simp only[Int.toNat_natCast]at aC;have ax:Xc b (b.alloc (.cells (madeCells #[.string ⟨#[]⟩,.int .i64 0,.string ⟨#[]⟩] (kp.cH.length*3)) 66)):=(VM _ b).alloc (af _) _;have bw:=cell_later ax d2;have hz:∃Z:Nat->Xb,(b.alloc (.cells (madeCells #[.string ⟨#[]⟩,.int .i64 0,.string ⟨#[]⟩] (kp.cH.length*3)) 66)).rowIs b.1.size 66 (kp.cH.length*3) (qq kp.cH Z 0):=by
  refine⟨λj=>(madeCells #[.string ⟨#[]⟩,.int .i64 0,.string ⟨#[]⟩] (kp.cH.length*3))[j]?.getD undef,_,heap_alloc_new b _,size_madeCells _ _,λj hj=>?_⟩;unfold qq;rw[ae R5];show(madeCells #[.string ⟨#[]⟩,.int .i64 0,.string ⟨#[]⟩] (kp.cH.length*3))[j]?=some ((madeCells #[.string ⟨#[]⟩,.int .i64 0,.string ⟨#[]⟩] (kp.cH.length*3))[j]?.getD undef);rw[RV (by rw[size_madeCells];exact hj)];rfl
 obtain⟨Z,hz⟩:=hz;have HW:Hid (Xc b (b.alloc (.cells (madeCells #[.string ⟨#[]⟩,.int .i64 0,.string ⟨#[]⟩] (kp.cH.length*3)) 66))/\(b.alloc (.cells (madeCells #[.string ⟨#[]⟩,.int .i64 0,.string ⟨#[]⟩] (kp.cH.length*3)) 66)).rowIs b.1.size 66 (kp.cH.length*3) (qq kp.cH Z 0)):=bZ ⟨ax,hz⟩;clear ax hz;have P:=bZ (And.intro bh (And.intro bj bC));clear hv S X bh bj bm ay bq br bt;unfold ptr;go_wp2_with fail;clear aC bw;generalize b.alloc (.cells (madeCells #[.string ⟨#[]⟩,.int .i64 0,.string ⟨#[]⟩] (kp.cH.length*3)) 66)=w2 at HW ⊢
 go_loopw [32] (λkv wr=>∃k:Nat,k<=kp.cH.length/\kv=.int .i64 k/\Hid (Xc b wr/\wr.rowIs b.1.size 66 (kp.cH.length*3) (qq kp.cH Z k))) (λkv _=>kp.cH.length-(intOf kv).toNat)
 case atStart=>exact⟨0,ar _,rfl,HW⟩
 case round =>
  obtain⟨k,bK,rfl,m⟩:=hrel;clear HW;by_cases bD:k<kp.cH.length
  ·have bL:(k:Int)<(kp.cH.length:Int):=R5;obtain⟨nd,a3⟩:∃nd,kp.cH[k]?=some nd:=⟨_,aq bD⟩;obtain⟨gn,x,y,rfl,Y,bE,T,U,e2,hw⟩:=P.Z.1 k nd a3;have q0:=(m.Z.1.cell (p:=⟨gn,k*3,none⟩) Y).trans T;have q1:=(m.Z.1.cell (p:=⟨gn,k*3+1,none⟩) Y).trans U;have q2:=(m.Z.1.cell (p:=⟨gn,k*3+2,none⟩) Y).trans e2;obtain⟨c,y',bG,hy⟩:=hw.form;cases bG;obtain⟨p,r,M,ab⟩:=dw nd.2;obtain⟨O,a4⟩:∃x:ba,str nd.1=.string x:=⟨_,rfl⟩;rw[a4]at q0;have bl:b.1.size<wr.1.size:=m.Z.2.lt;have Q:Hid (∀l,Xc wr l->Calls prog 50 #[.agg #[.int .i64 c,y]] l λe bI=>e=.returned (.agg #[.int .i64 p,.string r])/\Xc l bI):=bZ (λl C=>by
    have bf:Xc b l:=m.Z.1.trans (C.mono m.Z.1.size);have:=lJ l (V.below bf V.size) (hw.keeps (cT.below bf));rw[M]at this;exact this)
   have ai:=bZ (λ(l:Xa) (C:Xc wr l)=>And.intro (m.Z.1.trans (C.mono m.Z.1.size)) (Hg (m.Z.2.of_block (C.block _ bl)) a3 ab));have a8:Hid (∀l,Xc wr l->(∃a,l.cell? ⟨b.1.size,k*3,none⟩=some a)/\(∃a,l.cell? ⟨b.1.size,k*3+1,none⟩=some a)/\(∃a,l.cell? ⟨b.1.size,k*3+2,none⟩=some a)/\l.frozen? ⟨b.1.size,k*3,none⟩=false/\l.frozen? ⟨b.1.size,k*3+1,none⟩=false/\l.frozen? ⟨b.1.size,k*3+2,none⟩=false):=bZ (λl C=>by
    have J:=m.Z.2.of_block (C.block _ bl);exact⟨⟨_,J.cell (i:=k*3) R5⟩,⟨_,J.cell (i:=k*3+1) R5⟩,⟨_,J.cell (i:=k*3+2) R5⟩,J.frozen _,J.frozen _,J.frozen _⟩)
   have D:Xc wr (wr.alloc (.cells #[.string O,.int .i64 c,y] 133)):=(VM _ wr).alloc (af _) _;have I:=heap_alloc_new wr (.cells #[.string O,.int .i64 c,y] 133);obtain⟨w3,N⟩:∃w3,wr.alloc (.cells #[.string O,.int .i64 c,y] 133)=w3:=⟨_,rfl⟩;rw[N]at D I;have R:w3.cell? ⟨wr.1.size,0,none⟩=some (.string O):=cr I rfl;have r1:w3.cell? ⟨wr.1.size,1,none⟩=some (.int .i64 c):=cr I rfl;have r2:w3.cell? ⟨wr.1.size,2,none⟩=some y:=cr I rfl;have aa:=cj I;have E:Xc wr w3.drew:=D.drew;rw[a4]at ai;have bc:=bZ (And.intro N (And.intro R (And.intro r1 (And.intro r2 (And.intro aa (And.intro E D))))));clear T U e2 hw Y bE a3 M ab I N R r1 r2 aa E D;rcases hy with rfl|⟨ty,av,rfl⟩
   all_goals
    go_wp2_with fail;obtain⟨N,R,r1,r2,aa,E,D⟩:=bc.Z;rw[N];clear q0 q1 q2 a4 N bc;refine kO _ (λ_ _ h=>h) ?_
    go_region_with (go_at_call 50;refine b_ (Q.Z _ Ti) λn z=>?_;have ap:=E.trans (z.mono E.size);have bH:=(z.cell (p:=⟨wr.1.size,0,none⟩) aa).trans R;obtain⟨⟨a0,m0⟩,⟨a1,m1⟩,⟨a2,m2⟩,z0,z1,z2⟩:=a8.Z n ap)
    all_goals
     have h5:=ai.Z n ap;have H5:Hid (Xc b (((n.setCell ⟨b.1.size,k*3,none⟩ (.string O)).setCell ⟨b.1.size,k*3+1,none⟩ (.int .i64 p)).setCell ⟨b.1.size,k*3+2,none⟩ (.string r))/\(((n.setCell ⟨b.1.size,k*3,none⟩ (.string O)).setCell ⟨b.1.size,k*3+1,none⟩ (.int .i64 p)).setCell ⟨b.1.size,k*3+2,none⟩ (.string r)).rowIs b.1.size 66 (kp.cH.length*3) (qq kp.cH Z (k+1))):=bZ ⟨((h5.1.setCell (af _) _).setCell (af _) _).setCell (af _) _,h5.2⟩;refine Fl ?_
     apply_assumption
     clear h5 ai Q a8 z ap R bH r1 r2 m0 m1 m2 z0 z1 z2 E D;go_wp2;refine⟨⟨k+1,by omega,by go_num,H5⟩,?_⟩;simp[intOf];omega
  obtain rfl:k=kp.cH.length:=R5;have q0:=(m.Z.1.cell (World.block_lt_of_cell? _ _ d0)).trans d0;have q1:=(m.Z.1.cell (World.block_lt_of_cell? _ _ d1)).trans d1;obtain⟨p,r,M,ab⟩:=dw kp.dR;have a5:=lJ wr (V.below m.Z.1 V.size) (P.Z.2.1.keeps (cT.below m.Z.1));rw[M]at a5;obtain⟨c0,i0,bB,ay⟩:=P.Z.2.1.form;cases bB;have Q:=bZ a5;clear a5 ab;go_wp2_with fail;refine b_ Q.Z λn z=>?_;dsimp only;have ao:Xc b n:=m.Z.1.trans (z.mono m.Z.1.size);have F:=(ao.block w.1.size (cj ad.Z)).trans ad.Z;have bu:n.cell? ⟨w.1.size,0,none⟩=some (.int .i64 0):=cr F rfl;have bv:n.cell? ⟨w.1.size,1,none⟩=some (.string ⟨#[]⟩):=cr F rfl;have bx:n.frozen? ⟨w.1.size,0,none⟩=false:=fq F;have bz:n.frozen? ⟨w.1.size,1,none⟩=false:=fq F;have h2:=gG (gG F 0 (.int .i64 p)) 1 (.string r);have bn:b.1.size≠w.1.size:=by have:=cj ad.Z;omega
  have bp:=((m.Z.2.of_block (z.block _ m.Z.2.lt)).setOther (a:=⟨w.1.size,0,none⟩) bn (.int .i64 p)).setOther (a:=⟨w.1.size,1,none⟩) bn (.string r);have bo:=Hh bp (base:=w.1.size) B.Z.size (by have:=P.Z.2.2;unfold maxLen;omega);have a7:Hid (RR (.returned (.tuple #[.agg #[.int .i64 p,.string r],.slice (some ⟨b.1.size,0,none⟩) kp.cH.length kp.cH.length,.int .i64 0])) ((n.setCell ⟨w.1.size,0,none⟩ (.int .i64 p)).setCell ⟨w.1.size,1,none⟩ (.string r))):=bZ (by
   rw[<-a9.Z];refine⟨⟨_,by rw[M],bo⟩,?_⟩;exact((B.Z.trans (ao.mono B.Z.size)).setCell (af _) _).setCell (af _) _)
  clear bp bo ao z Q F m a9 P M q0 q1 d0 d1 d2;go_wp2_with fail;clear bu bv bx bz;generalize (n.setCell ⟨w.1.size,0,none⟩ (.int .i64 p)).setCell ⟨w.1.size,1,none⟩ (.string r)=w5 at h2 a7 ⊢;have T:w5.cell? ⟨w.1.size,0,none⟩=some (.int .i64 p):=cr h2 rfl;have U:w5.cell? ⟨w.1.size,1,none⟩=some (.string r):=cr h2 rfl;exact VN (v:=.tuple #[.agg #[.int .i64 p,.string r],.slice (some ⟨b.1.size,0,none⟩) kp.cH.length kp.cH.length,.int .i64 0]) (by simp[results,results30,go_sem,T,U]) rfl a7.Z
end
