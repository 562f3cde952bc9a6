/- Out of L19. -/
import Derived.Test.YtpekpdimdelncaaGreatDoorP17
set_option linter.unusedVariables false
set_option linter.unusedSimpArgs false
set_option maxRecDepth 100000
set_option maxHeartbeats 2000000
set_option linter.defProp false
namespace Go.Proofs.YtpekpdimdelncaaGreatDoor
open Go.RowKit Go.Shelf
section
open Tryz
variable{l:List (a_)}{b:Nat}{v:Xb}{xs:List Xb}{s:bY.LS}{L:Nat->Prop}
def dX.cell{w:Xa}{g n c:Nat}(h:dX w (.slice (some ⟨g,0,none⟩) n c) l):n=l.length/\∀j x,l[j]?=some x->w.cell? ⟨g,j,none⟩=some (str x):=by
 have m:=V7 h (g:=g) rfl;refine⟨?_,λj x hx=>?_⟩
 ·rcases h.2 with⟨h1,_⟩|⟨u,p,r,h1,_⟩
  ·cases h1
  cases h1;rfl
 have:=m j (str x) (by rw[Q6,hx];rfl);have e:(⟨g,0,none⟩:Addr).add j=⟨g,j,none⟩:=by cases j<;>simp[Addr.add]
 rw[e]at this;exact this
def mW{w:Xa}{b':Nat}{e:TypeId}{size n:Nat}(h:w.ownsRow b e size v n xs)(y:b'<=b):w.ownsRow b' e size v n xs:=by
 obtain⟨h1,h2⟩:=h;refine⟨h1,?_⟩;rcases h2 with h2|⟨g,j,m,p,r,u⟩
 ·exact .inl h2
 exact .inr ⟨g,j,m,p,ah y r,u⟩
def Bh{w:Xa}{e:TypeId}{size n:Nat}(h:w.ownsRow b e size v n xs)(m:v≠.slice none 0 0):∃g j,v=.slice (some ⟨g,0,none⟩) n j/\b<=g:=by
 rcases h.2 with⟨h1,_⟩|⟨g,j,p,h1,h2,_⟩
 ·exact(m h1).elim
 exact⟨g,j,h1,h2⟩
def rq{e0:TypeId}{w w':Xa}(h:Xc w w'):Tn e0 w w' none :=⟨⟨h.os,h.tape,h.output,h.size,λk j _=>h.block k j⟩,λb e=>by cases e⟩
def LP.Dk{w w1:Xa}{u:Nat}{r z:Nat}{I K vn J:Xb}(h:LP w u s L r z I K vn J)(g:G w)(p:Xc w w1){m cP n:Nat}(D:n=l.length)(C:l≠[])(E:w1.ownsRow w.1.size 9 1 (.slice (some ⟨m,0,none⟩) n cP) n (l.map str))(B:w.1.size<=m):cO w u L {s with cY:=l} (w1.setCell ⟨u,3,none⟩ (.slice (some ⟨m,0,none⟩) n cP)):=by
 subst D;have F:Tn 9 w w1 none:=rq p;have y:=mW E (b':=8) g.size;refine h.turned 9 none F (.inr (.inl rfl)) S4 S4 S4 S4 (λb r=>by cases r) (λk=>k=m) (λk j=>by subst j;exact⟨B,cE y rfl⟩) g 3 _ rfl rfl rfl (lx h.cm p) y (lx h.du p) (lx h.jr p) (λk j=>?_) (λk j e=>?_) (λe=>(C e).elim)
 ·rcases j with j|j|j|j
  ·exact .inl (h.dQ k (.inl j))
  ·cases j;exact .inr rfl
  ·exact .inl (h.dQ k (.inr (.inr (.inl j))))
  exact .inl (h.dQ k (.inr (.inr (.inr j))))
 cases e;have:m<w.1.size:=h.lt (h.dQ _ (.inl j));omega
def OH(w a n c j e):(binOp .eql 40 (.slice a n c) (.slice none j e)).run prog w=.ok (.bool a.isNone) w :=Lib.run_eql_slice_nil w _ _ a n c j e underlying40
def vS(l:List (a_)):List ba:=l.map λx=>⟨x.toArray⟩
def ET(l):(vS l).map Value.string=l.map str:=by
 unfold vS;rw[Rb];rfl
def sD{w:Xa}{g n c:Nat}(h:dX w (.slice (some ⟨g,0,none⟩) n c) l)(off):∀j,j<(vS (l.drop off)).length->w.cell? ⟨g,off+j,none⟩=some (.string ((vS (l.drop off)).getD j ByteArray.empty)):=λj e=>by
 have m:off+j<l.length:=by
  unfold vS at e;rw[aH,aV]at e;omega
 have h1:=h.cell.2 (off+j) l[off+j] (aq m);rw[h1];unfold vS str;rw[List.getD_eq_getElem?_getD,Q6,Tb,aq m];rfl
def JF(w m s L M I E vn O B off z)(h:LP w m s L M I (.slice (some ⟨B,0,none⟩) s.cm.length z) E vn O)(g:G w)(X:off<s.cm.length)(hlen:s.cm.length<=1000):Calls prog 84 #[ptr m,.slice (some ⟨B,off,none⟩) (s.cm.length-off) (z-off)] w λe T=>e=.returned (.tuple #[])/\cO w m L (if s.cY=[] then{s with cY:=s.cm.drop off} else s) T:=by
 have U:w.cell? ⟨m,3,none⟩=some E:=cr h.eb rfl;have Y:=OH;by_cases u:s.cY=[]
 ·rw[ag u];have D:=h.oS u;subst D;have Z:(vS (s.cm.drop off)).length=s.cm.length-off:=by unfold vS;rw[aH,aV]
  have r:=slices_Clone_string B off (s.cm.length-off) (z-off) (vS (s.cm.drop off)) w R5 R5 (sD h.cm off);have r:=r.mono (R':=λe p=>∃(j n:Nat),e=.returned (.slice (some ⟨j,0,none⟩) (s.cm.length-off) n)/\p.cell? ⟨m,3,none⟩=some (.slice none 0 0)/\p.frozen? ⟨m,3,none⟩=false/\cO w m L {s with cY:=s.cm.drop off} (p.setCell ⟨m,3,none⟩ (.slice (some ⟨j,0,none⟩) (s.cm.length-off) n))) (λe p R=>by
   obtain⟨v',rfl,C,D,J⟩:=R;obtain⟨j,n,rfl,Q⟩:=Bh C D;have N:=(J.block m (cj h.eb)).trans h.eb;rw[Ri R5,ET]at C;refine⟨j,n,rfl,by simp[World.cell?,N],by simp[World.frozen?,N],h.Dk g J (by rw[aV]) (λe=>?_) C Q⟩;have:=congrArg List.length e;rw[aV]at this;simp at this;omega)
  have F:=bZ r;clear r h;unfold ptr;go_enter func84,ntmps84;go_wp2_with fail;refine F.Z.mono ?_;rintro e p⟨j,n,rfl,d3,z3,K⟩;have y:=bZ K;clear K F;go_wp2
  go_end0
  exact⟨rfl,y.Z⟩
 rw[ae u];have S:∃j n,E=.slice (some ⟨j,0,none⟩) s.cY.length n:=by
  rcases h.cY.2 with⟨_,h2⟩|⟨j,P,V,h1,_⟩
  ·exact(u (RN h2)).elim
  exact⟨j,P,h1⟩
 obtain⟨j,n,rfl⟩:=S;have y:=bZ (cO.refl ⟨M,I,_,_,vn,O,h⟩);clear h;unfold ptr;go_enter func84,ntmps84;go_wp2
 go_end0
 exact⟨rfl,y.Z⟩
end
section
variable{x:a_}{k:ba}
def N6:(⟨x.toArray⟩:ba)=k↔x=k.1.1:=by
 constructor
 ·intro h;subst h;rfl
 intro h;subst h;cases k;simp
def yd(k):∀l i,(l.contains k.1.1=false/\Lib.idxFromS (vS l) k i=-1)\/∃j,j<l.length/\l.contains k.1.1=true/\Lib.idxFromS (vS l) k i=((i+j:Nat):Int)/\bY.eQ l k.1.1=l.drop j
 |[],i=>.inl ⟨rfl,rfl⟩
 |x::l,i=>by
  have n:vS (x::l)=(⟨x.toArray⟩:ba)::vS l:=rfl;by_cases h:x=k.1.1
  ·refine .inr ⟨0,by simp,by simp[h],?_,?_⟩
   ·rw[n];have:=N6.2 h;simp[Lib.idxFromS,this]
   unfold bY.eQ;simp[h]
  have y:(⟨x.toArray⟩:ba)≠k:=λe=>h (N6.1 e);have b:Lib.idxFromS (vS (x::l)) k i=Lib.idxFromS (vS l) k (i+1):=by rw[n];simp[Lib.idxFromS,y]
  have m:(x::l).contains k.1.1=l.contains k.1.1:=by
   have:(k.1.1==x)=false:=az.2 (λe=>h e.symm);rw[List.contains_cons,this,Sr]
  have p:bY.eQ (x::l) k.1.1=bY.eQ l k.1.1:=by
   unfold bY.eQ;have:(x==k.1.1)=false:=az.2 h;simp[SA,this]
  rcases yd k l _ with⟨h1,h2⟩|⟨j,h1,h2,r,u⟩
  ·exact .inl ⟨m.trans h1,b.trans h2⟩
  refine .inr ⟨j+1,by simp;omega,m.trans h2,?_,by rw[p,u];rfl⟩;rw[b,r]
  congr 1
  omega
end
section
variable{l j m:Nat}{s:bY.LS}{L:Nat->Prop}
def LP.Mn{w w1:Xa}{l:Nat}{s:bY.LS}{L:Nat->Prop}{j m:Nat}{u I vn N:Xb}(h:LP w l s L j m u I vn N)(J:G w){g z n:Nat}(key:a_)(E:w.grownBy w1 u.ownBlock)
  (K:n=(s.cm++[key]).length) (F:w1.ownsRow 8 9 1 (.slice (some ⟨g,0,none⟩) n z) n ((s.cm++[key]).map str)) (r:u.ownBlock=some g\/g=w.1.size) (hold:∀b,u.ownBlock=some b->∃B C,w1.1[b]?=some (.cells B 9 C)) :
  cO w l L {s with cm:=s.cm++[key]} (w1.setCell ⟨l,2,none⟩ (.slice (some ⟨g,0,none⟩) n z)):=by
 subst K;have y:Tn 9 w w1 u.ownBlock:=⟨E,λb j=>cE h.cm j⟩;have M:dX w1 I s.cY:=cJ h.cY (λk p B C D=>(E.block k (cj D) (λe=>h.apart k e.symm p)).trans D);refine h.turned 9 u.ownBlock y (.inr (.inl rfl)) S4 S4 S4 S4 (λb j=>⟨h.dQ b (.inl j),hold b j⟩) (λk=>k=g/\g=w.1.size) (λk p=>?_) J 2 _ rfl rfl rfl F M (jf h.du y S4) (jf h.jr y S4) (λk p=>?_) (λk p e=>?_) h.oS
 ·obtain⟨rfl,h1⟩:=p;exact⟨by omega,cE F rfl⟩
 ·rcases p with p|p|p|p
  ·cases p;rcases r with r|r
   ·exact .inl (h.dQ _ (.inl r))
   exact .inr ⟨rfl,r⟩
  ·exact .inl (h.dQ k (.inr (.inl p)))
  ·exact .inl (h.dQ k (.inr (.inr (.inl p))))
  exact .inl (h.dQ k (.inr (.inr (.inr p))))
 cases p;rcases r with r|r
 ·exact h.apart _ r e
 have:g<w.1.size:=h.lt (h.dQ _ (.inr (.inl e)));omega
def LP.PO{w:Xa}{F vn E:Xb}{g n:Nat}(h:LP w l s L j m (.slice (some ⟨g,0,none⟩) s.cm.length n) F vn E)(r:G w):cO w l L {s with cm:=s.cm.dropLast} (w.setCell ⟨l,2,none⟩ (.slice (some ⟨g,0,none⟩) (s.cm.length-1) n)):=by
 have D:Tn 9 w w none:=rq (VM _ _);have C:dX w (.slice (some ⟨g,0,none⟩) (s.cm.length-1) n) s.cm.dropLast:=by
  have hd:s.cm.dropLast.length=s.cm.length-1:=List.length_dropLast;unfold dX;rw[hd];rcases h.cm.2 with⟨h1,_⟩|⟨J,I,p,h1,h2,u,K,y,z,B⟩
  ·cases h1
  cases h1;refine⟨by simp,.inr ⟨g,n,p,rfl,h2,u,by omega,y,z,?_⟩⟩;have:s.cm.dropLast.map str=(s.cm.map str).take (s.cm.length-1):=by
   rw[Ta,List.map_take]
  rw[this,<-B,SK]
  congr 1
  omega
 refine h.turned 9 none D (.inr (.inl rfl)) S4 S4 S4 S4 (λb j=>by cases j) (λk=>False) (λk e=>e.elim) r 2 _ rfl rfl rfl C h.cY h.du h.jr (λk e=>.inl (h.dQ k ?_)) (λk e=>h.apart k TD) h.oS;rcases e with e|e
 ·cases e;exact .inl rfl
 exact .inr e
def LP.PQ{w w1:Xa}{I K vn J:Xb}(h:LP w l s L j m I K vn J)(D:G w){g u n:Nat}(y)(E:w.grownBy w1 vn.ownBlock)(F:n=(s.du++[y]).length)(z:w1.ownsRow 8 61 6 (.slice (some ⟨g,0,none⟩) n u) n ((s.du++[y]).flatMap dm))(p:vn.ownBlock=some g\/g=w.1.size)(hold:∀b,vn.ownBlock=some b->∃B C,w1.1[b]?=some (.cells B 61 C)):cO w l L {s with du:=s.du++[y]} (w1.setCell ⟨l,4,none⟩ (.slice (some ⟨g,0,none⟩) n u)):=by
 subst F;have r:Tn 61 w w1 vn.ownBlock:=⟨E,λb j=>cE h.du j⟩;refine h.turned 61 vn.ownBlock r (.inr (.inr (.inl rfl))) S4 S4 S4 S4 (λb j=>⟨h.dQ b (.inr (.inr (.inl j))),hold b j⟩) (λk=>k=g/\g=w.1.size) (λk e=>?_) D 4 _ rfl rfl rfl (jf h.cm r S4) (jf h.cY r S4) z (jf h.jr r S4) (λk e=>?_) h.apart h.oS
 ·obtain⟨rfl,h1⟩:=e;exact⟨by omega,cE z rfl⟩
 rcases e with e|e|e|e
 ·exact .inl (h.dQ k (.inl e))
 ·exact .inl (h.dQ k (.inr (.inl e)))
 ·cases e;rcases p with p|p
  ·exact .inl (h.dQ _ (.inr (.inr (.inl p))))
  exact .inr ⟨rfl,p⟩
 exact .inl (h.dQ k (.inr (.inr (.inr e))))
end
section
open bY
open Tryz
variable{j:Nat}{s s':LS}{L:Nat->Prop}{l:a_->LS->Wo×LS}{m:List (a_×Wo)}
def eo:Array Xb:=#[.string ⟨#[]⟩,.string ⟨#[]⟩,.int .i64 0,.string ⟨#[]⟩,.int .i64 0,.string ⟨#[]⟩]
def JG(w j key):Calls prog 124 #[ptr j,.string key,.pointer none] w λe n=>e=.returned (.tuple #[.agg (dm ⟨key.1.1,[],.error 0,.error 0⟩).toArray,.bool true])/\Xc w n:=by
 unfold ptr;go_enter func124,ntmps124;go_wp2_with fail;have b:(dm ⟨key.1.1,[],.error 0,.error 0⟩).toArray=#[.string key,.string ⟨#[]⟩,.int .i64 0,.string ⟨#[]⟩,.int .i64 0,.string ⟨#[]⟩]:=by
  simp[dm,dY,str]
 rw[b];exact VN (v:=.tuple #[.agg #[.string key,.string ⟨#[]⟩,.int .i64 0,.string ⟨#[]⟩,.int .i64 0,.string ⟨#[]⟩],.bool true]) (by simp[results,results124,go_sem]) rfl ⟨rfl,(VM _ w).alloc (af _) _⟩
def Mo(a b:Wo):NX a b=ji a b:=by
 cases a<;>cases b<;>rfl
def Gp{w wr:Xa}{P:LS->Prop}(HB:qg j l P)(h:fI w j s L)(g:G w)(hd:jY w){sl:Xb}(hN:eA w m sl)(a0:∀gk,sl.ownBlock=some gk->L gk)(N:cO (w.alloc (.cells eo 61)) j L s' wr)(ai:P s'){k:Nat}{nd:a_×Wo}(ay:m[k]?=some nd):∃(n Q:Nat) (I:ba) (b:Int) (y:Xb),sl=.slice (some ⟨n,0,none⟩) m.length Q/\I.1.1=nd.1/\(y=.nilIface\/∃t a,y=.iface t a)/\n<wr.1.size /\wr.cell? ⟨n,k*3,none⟩=some (.string I)/\wr.cell? ⟨n,k*3+1,none⟩=some (.int .i64 b)/\wr.cell? ⟨n,k*3+2,none⟩=some y /\Calls prog 49 #[.pointer (some ⟨j,0,none⟩),.string I] (wr.alloc (.cells #[.string I,.int .i64 b,y] 133)) λe u=>∃K B,e=.returned (.agg #[.int .i64 K,B])/\(B=.nilIface\/∃t a,B=.iface t a) /\ij u (l nd.1 s').1 (.agg #[.int .i64 K,B])/\ij u nd.2 (.agg #[.int .i64 b,y])/\u.1[wr.1.size]?=some (.cells #[.string I,.int .i64 b,y] 133 (0,0))/\G u/\wr.1.size<u.1.size /\cO (w.alloc (.cells eo 61)) j L (l nd.1 s').2 u/\gh (l nd.1 s').2<=gh s'/\jk s' (l nd.1 s').2 1:=by
 have z:Below _ w (w.alloc (.cells eo 61)):=(VM _ _).alloc (af _) _;have S:=h.st (λk r=>z.block k (h.cz k r).2.1) (eO.below z);have n:=g.below z g.size;have d0:=hd.below z g.size;have C:=N.g S n;have dr:=N.uc S n d0;have av:=N.keeps S;obtain⟨J,R,D,E,O⟩:=N;have ab:=hN.st (λgk am cs fz Z=>O.k2 gk (a0 gk am) cs _ fz ((z.block gk (cj Z)).trans Z) (.inr rfl)) ((eO.below z).trans av.stay);obtain⟨o,Q,a2,hcell⟩:=ab.cell;obtain⟨gg,x0,U,ho,ao,ax,e0,e1,e2,Y⟩:=hcell k nd ay;subst ho;obtain⟨b,y,ak,a4⟩:=Y.form;cases ak;have aC:(⟨nd.1.toArray⟩:ba).1.1=nd.1:=rfl;refine⟨gg,Q,⟨nd.1.toArray⟩,b,U,a2,aC,a4,ao,e0,e1,e2,?_⟩;have p:Below _ wr (wr.alloc (.cells #[.string ⟨nd.1.toArray⟩,.int .i64 b,U] 133)):=(VM _ _).alloc (af _) _;have M:=R.st (λk r=>p.block k (R.cz k r).2.1) (eO.below p);refine(HB _ s' J ⟨nd.1.toArray⟩ M (C.below p C.size) (dr.below p C.size) ai (by rw[size_mk];exact ax)).mono ?_;rintro e u⟨x2,rfl,X,F,ad,aa⟩;obtain⟨K,B,rfl,a3⟩:=X.form;have ap:=F.keeps M;have g2:=F.g M (C.below p C.size);refine⟨K,B,rfl,a3,X,(Y.keeps (cT.below p)).keeps ap,?_,g2,?_,?_,ad,aa⟩
 ·obtain⟨V,p1,p2,p3,T⟩:=F;exact(T.block _ S5 (λhl=>by have:=(R.cz _ hl).2.1;omega)).trans (heap_alloc_new wr _)
 ·have:=F.size;rw[World.size_alloc]at this;omega
 have a5:cO (w.alloc (.cells eo 61)) j L s' (wr.alloc (.cells #[.string ⟨nd.1.toArray⟩,.int .i64 b,U] 133)):=by
  refine⟨J,M,D,E,O.trans (vh.below (L:=J) p) D E⟩
 obtain⟨V,p1,p2,p3,T⟩:=F;refine⟨V,p1,λk r=>?_,λk r=>p3 k (E k r),(O.trans (vh.below (L:=J) p) D E).trans T D E⟩;rcases p2 k r with h|h
 ·exact D k h
 have:=O.size;rw[World.size_alloc]at h;exact .inr R5
def EU{w wr:Xa}(h:fI w j s L)(M:cO (w.alloc (.cells eo 61)) j L s' wr):wr.1[w.1.size]?=some (.cells eo 61 (0,0))/\∀wf,wr.grownBy wf (some w.1.size)->cO w j L s' wf:=by
 obtain⟨B,h1,h2,I,n⟩:=M;have p:Below _ w (w.alloc (.cells eo 61)):=(VM _ _).alloc (af _) _;have E:∀k,L k->k<w.1.size:=λk b=>(h.cz k b).2.1;have G:¬L w.1.size:=λb=>by have:=E _ b;omega
 have F:=(n.block _ S5 G).trans (heap_alloc_new w _);refine⟨F,λwf u=>?_⟩;have R:¬B _:=λb=>by
  rcases h2 _ b with h|h
  ·exact G h
  rw[World.size_alloc]at h;omega
 have U:=iP u (λC t D r=>by rw[F]at r;cases r;rintro(h|h|h)<;>cases h);have y:∀k,k<wr.1.size->k≠w.1.size->wf.1[k]?=wr.1[k]? := λk b S=>u.block k b (λe=>S (aB e));have V:w.1.size<=wr.1.size:=ah S5 n.size;refine⟨B,h1.st (λk b=>y k (h1.cz k b).2.1 (λe=>R (e▸b))) U,λk b=>?_,I,⟨⟨(u.os.trans n.os).trans p.os,(u.tape.trans n.tape).trans p.tape,(u.output.trans n.output).trans p.output,ah V u.size,λk b T=>?_⟩,λk b C t D z N=>?_,λr Q z=>?_⟩⟩
 ·rcases h2 k b with h|h
  ·exact .inl h
  simp at h;exact .inr R5
 ·exact(y k R5 R5).trans ((n.block k Tc T).trans (p.block k b))
 ·have P:=cj z;exact(y k R5 R5).trans (n.k2 k b C t D ((p.block k P).trans z) N)
 have O:=E _ h.here;obtain⟨J,K⟩:=n.C9 r Tc ((VS (p.block j O)).trans z);exact⟨(VS (y j R5 (by show j≠_;omega))).trans J,(y r R5 R5).trans (K.trans (p.block r Q))⟩
end
section
open bY
open Tryz
variable{fz:Nat×Nat}
def dw(r:Wo):∃b e,dC r=.agg #[.int .i64 b,.string e]/\dY r=[.int .i64 b,.string e]:=by
 cases r with
 |ok v=>exact⟨_,_,rfl,rfl⟩
 |error c=>exact⟨_,_,rfl,rfl⟩
def Dl{W:Xa}{k:Nat}{a b c:Xb}{t:TypeId}(h:W.1[k]?=some (.cells #[a,b,c] t fz)):W.cell? ⟨k,2,none⟩=some c:=cr h rfl
def Mp(w O kb key j P)(HB:qg O j P)(s L)(h:fI w O s L)(g:G w)(hd:jY w)(kp)(bN:iM w L kp kb)(hP:∀n c,jk s n c->c<=401->gh n<=gh s->P n):Calls prog 124 #[ptr O,.string key,ptr kb] w λe D=>cO w O L (eC j key.1.1 kp.cH s).2 D/\gh (eC j key.1.1 kp.cH s).2<=gh s/\jk s (eC j key.1.1 kp.cH s).2 401 /\(((eC j key.1.1 kp.cH s).1=none/\e=.returned (.tuple #[.agg eo,.bool false]))\/∃y,(eC j key.1.1 kp.cH s).1=some y/\e=.returned (.tuple #[.agg (dm y).toArray,.bool true])):=by
 obtain⟨cw,iw,sl,bj,b9,cb,a8,bQ,hlen⟩:=bN;have J:(w.alloc (.cells eo 61)).cell? ⟨kb,2,none⟩=some sl:=(VS (VR w _ kb (cj bj))).trans (by simp[World.cell?,bj]);obtain⟨o,cp,rfl⟩:=a8.len;generalize hR:(λ(e:Ending) (D:Xa)=>cO w O L (eC j key.1.1 kp.cH s).2 D/\gh (eC j key.1.1 kp.cH s).2<=gh s/\jk s (eC j key.1.1 kp.cH s).2 401 /\(((eC j key.1.1 kp.cH s).1=none/\e=.returned (.tuple #[.agg eo,.bool false]))\/∃y,(eC j key.1.1 kp.cH s).1=some y/\e=.returned (.tuple #[.agg (dm y).toArray,.bool true])))=R;have a6:Xc w (w.alloc (.cells eo 61)):=(VM _ _).alloc (af _) _;have HA:=bZ h;have br:=bZ (cO.refl (h.st (λk hk=>a6.block k (h.cz k hk).2.1) (eO.below a6)));have bq:=bZ a8;have bt:=bZ hP;have bo:=bZ HB;unfold eo at J;unfold ptr;go_enter func124,ntmps124;go_wp2
 go_loopw [20] (λi wr=>∃(k:Nat) (n:LS),k<=kp.cH.length/\i=.int .i64 k/\eC j key.1.1 kp.cH s=eC j key.1.1 (kp.cH.drop k) n/\cO (w.alloc (.cells eo 61)) O L n wr/\jk s n k/\gh n<=gh s) (λi _=>kp.cH.length-(intOf i).toNat)
 case atStart=>exact⟨0,s,ar _,rfl,rfl,br.Z,jk.refl _ _,af _⟩
 case round =>
  obtain⟨k,n,cd,rfl,am,ak,ad,ai⟩:=hrel;by_cases ax:k<kp.cH.length
  ·obtain⟨nd,ay⟩:∃nd,kp.cH[k]?=some nd:=⟨_,aq ax⟩;obtain⟨g0,b8,C,M,yn,bT,bP,b5,cc,e0,e1,e2,bI⟩:=Gp bo.Z HA.Z g hd bq.Z bQ ak (bt.Z _ _ ad R5 ai) ay;cases bT;have bp:=bZ bI;have b7:=bZ ak;have bx:Hid (w.1.size<wr.1.size):=bZ (by have:=ak.size;rw[World.size_alloc]at this;omega);have bU:eC j key.1.1 (kp.cH.drop k) n=if ji (j nd.1 n).1 nd.2=true then eC j key.1.1 (kp.cH.drop (k+1)) (j nd.1 n).2 else(some ⟨key.1.1,nd.1,nd.2,(j nd.1 n).1⟩,(j nd.1 n).2):=by
    have:kp.cH.drop k=nd::kp.cH.drop (k+1):=by
     rw[aq ax]at ay;cases ay;exact aU ax
    rw[this];rfl
   have a3:=bZ bU;rcases b5 with rfl|⟨tn,an,rfl⟩
   all_goals
    go_wp2_with fail;refine bp.Z.mono ?_;rintro e b⟨J,y2,rfl,b4,bg,bh,bH,Z,bO,bB,a9,a7⟩;have av:∀m,(b.alloc m).1[wr.1.size]?=some _:=λm=>(VR b m _ bO).trans bH;have f0:∀m,(b.alloc m).cell? ⟨wr.1.size,0,none⟩=some (.string C):=λm=>by simp[World.cell?,av m]
    have f1:∀m,(b.alloc m).cell? ⟨wr.1.size,1,none⟩=some (.int .i64 M):=λm=>by simp[World.cell?,av m]
    have f2:∀m,(b.alloc m).cell? ⟨wr.1.size,2,none⟩=some _:=λm=>Dl (av m);have ao:∀m,Xc b (b.alloc m):=λm=>(VM _ _).alloc (af _) m;have bw:=bZ (λm=>CX (b.alloc m) (bg.keeps (cT.below (ao m))) (bh.keeps (cT.below (ao m))));have a4:=bZ bg;have bz:=bZ bh;have aC:=bZ bB;rcases b4 with rfl|⟨t2,a2,rfl⟩
    all_goals
     go_wp2_with fail;refine b_ (bw.Z _) λp E=>?_;rw[Mo];have a5:=(ao _).trans (E.mono S5);by_cases hs:ji (j nd.1 n).1 nd.2=true
     ·rw[hs];have bR:eC j key.1.1 kp.cH s=eC j key.1.1 (kp.cH.drop (k+1)) (j nd.1 n).2:=by
       rw[am,a3.Z,ag hs]
      have bC:=aC.Z.trans (λL' h'=>cO.below h' a5);have a0:=bZ (And.intro bR bC);go_wp2;refine⟨⟨k+1,_,by omega,by go_num,a0.Z.1,a0.Z.2,ad.trans a7,ah a9 ai⟩,?_⟩;simp[intOf];omega
     have bS:ji (j nd.1 n).1 nd.2=false:=by simpa using hs
     rw[bS];go_wp2_with fail;rename_i K5 b6;refine kO K5 (λa w h=>h) ?_;have k2:=(E.cell (p:=⟨wr.1.size,2,none⟩) (by show wr.1.size<_;simp;omega)).trans (f2 _);have k4:=E.cell (p:=⟨b.1.size,1,none⟩) (by show b.1.size<_;simp);simp[go_sem]at k4;have F:p.cell? ⟨wr.1.size,0,none⟩=some (.string C)/\p.cell? ⟨wr.1.size,1,none⟩=some (.int .i64 M)/\p.cell? ⟨wr.1.size,2,none⟩=p.cell? ⟨wr.1.size,2,none⟩/\p.cell? ⟨b.1.size,0,none⟩=some (.int .i64 J)/\p.cell? ⟨b.1.size,1,none⟩=p.cell? ⟨b.1.size,1,none⟩:=by
      have q:=λ(i:Nat)=>E.cell (p:=⟨wr.1.size,i,none⟩) (by show wr.1.size<_;simp;omega);have z:=λ(i:Nat)=>E.cell (p:=⟨b.1.size,i,none⟩) (by show b.1.size<_;simp);exact⟨(q 0).trans (f0 _),(q 1).trans (f1 _),rfl,(z 0).trans Ty,rfl⟩
     refine wp_region_held_drew (S:=λD=>D.cell? ⟨wr.1.size,0,none⟩=some (.string C)/\D.cell? ⟨wr.1.size,1,none⟩=some (.int .i64 M)/\D.cell? ⟨wr.1.size,2,none⟩=p.cell? ⟨wr.1.size,2,none⟩/\D.cell? ⟨b.1.size,0,none⟩=some (.int .i64 J)/\D.cell? ⟨b.1.size,1,none⟩=p.cell? ⟨b.1.size,1,none⟩) S8 F (λhHeld=>?_);refine dP 0 rfl F ?_;simp only[Act.put,au,Xd,Xe];refine dP 1 rfl F ?_;simp only[Act.put,au,Xd,Xe];refine dP 2 rfl F ?_;simp only[Act.put,au,Xd,Xe];refine dP 3 rfl F ?_;simp only[Act.put,au,Xd,Xe];refine dP 4 rfl F ?_;simp only[Act.put,au,Xd,Xe];refine dP 6 rfl F ?_;simp only[Act.put,au,Xd,Xe];refine wpAnyH_ready (rs:=[5]) S8 S5 ?_;refine AllReadyH.cons rfl (λK B=>?_) AllReadyH.nil;go_simp;have Q:Xc b p.drew:=a5.drew;have g4:G p.drew:=Z.below Q Z.size;have ca:=a4.Z.keeps (cT.below Q);have bG:=bz.Z.keeps (cT.below Q);obtain⟨bk,bm,bV,bX⟩:=dw nd.2;obtain⟨bl,bn,bW,b3⟩:=dw (j nd.1 n).1;have hT:=lJ p.drew g4 bG;rw[bV]at hT;refine b_ hT λI S=>?_;have bc:I.cell? ⟨wr.1.size,0,none⟩=some (.string C)/\I.cell? ⟨wr.1.size,1,none⟩=some (.int .i64 M)/\I.cell? ⟨wr.1.size,2,none⟩=p.cell? ⟨wr.1.size,2,none⟩/\I.cell? ⟨b.1.size,0,none⟩=some (.int .i64 J)/\I.cell? ⟨b.1.size,1,none⟩=p.cell? ⟨b.1.size,1,none⟩:=by
      have ce:b.1.size<p.drew.1.size:=by have:=E.size;simp at this ⊢;omega
      have q:=λ(i:Nat)=>S.cell (p:=⟨wr.1.size,i,none⟩) (by show wr.1.size<_;omega);have z:=λ(i:Nat)=>S.cell (p:=⟨b.1.size,i,none⟩) (by show b.1.size<_;omega);obtain⟨T,U,V,X,Y⟩:=F;exact⟨(q 0).trans T,(q 1).trans U,(q 2).trans V,(z 0).trans X,(z 1).trans Y⟩
     refine B.out _ _ bc (λ_=>?_);refine wpAnyH_ready (rs:=[7]) S8 S5 ?_;refine AllReadyH.cons rfl (λK B=>?_) AllReadyH.nil;go_simp;have aa:Xc b I:=Q.trans (S.mono Q.size);have bf:=lJ I (Z.below aa Z.size) (a4.Z.keeps (cT.below aa));rw[bW]at bf;refine b_ bf λl ab=>?_;have bA:Xc b l:=aa.trans (ab.mono aa.size);have bD:=aC.Z.trans (λL' h'=>cO.below h' bA);obtain⟨u,bL⟩:=EU HA.Z bD;have ap:l.cell? ⟨wr.1.size,0,none⟩=some (.string C)/\l.cell? ⟨wr.1.size,1,none⟩=some (.int .i64 M)/\l.cell? ⟨wr.1.size,2,none⟩=p.cell? ⟨wr.1.size,2,none⟩/\l.cell? ⟨b.1.size,0,none⟩=some (.int .i64 J)/\l.cell? ⟨b.1.size,1,none⟩=p.cell? ⟨b.1.size,1,none⟩:=by
      have cg:b.1.size<I.1.size:=by have:=E.size;have:=S.size;simp at this;simp at *;omega
      have q:=λ(i:Nat)=>ab.cell (p:=⟨wr.1.size,i,none⟩) (by show wr.1.size<_;omega);have z:=λ(i:Nat)=>ab.cell (p:=⟨b.1.size,i,none⟩) (by show b.1.size<_;omega);obtain⟨T,U,V,X,Y⟩:=bc;exact⟨(q 0).trans T,(q 1).trans U,(q 2).trans V,(z 0).trans X,(z 1).trans Y⟩
     have ck:w.1.size<wr.1.size:=bx.Z;have bd:∀wf,l.grownBy wf (some w.1.size)->wf.cell? ⟨wr.1.size,0,none⟩=some (.string C)/\wf.cell? ⟨wr.1.size,1,none⟩=some (.int .i64 M)/\wf.cell? ⟨wr.1.size,2,none⟩=p.cell? ⟨wr.1.size,2,none⟩/\wf.cell? ⟨b.1.size,0,none⟩=some (.int .i64 J)/\wf.cell? ⟨b.1.size,1,none⟩=p.cell? ⟨b.1.size,1,none⟩:=λwf N=>by
      have ch:b.1.size<l.1.size:=by have:=E.size;have:=S.size;have:=ab.size;simp at *;omega
      have q:=λ(i:Nat)=>VS (w:=l) (w':=wf) (a:=⟨wr.1.size,i,none⟩) (N.block wr.1.size R5 (λe=>by have:=aB e;omega));have z:=λ(i:Nat)=>VS (w:=l) (w':=wf) (a:=⟨b.1.size,i,none⟩) (N.block b.1.size R5 (λe=>by have:=aB e;omega));obtain⟨T,U,V,X,Y⟩:=ap;exact⟨(q 0).trans T,(q 1).trans U,(q 2).trans V,(z 0).trans X,(z 1).trans Y⟩
     have bF:∀wf,l.grownBy wf (some w.1.size)->R (.returned (.tuple #[.agg #[.string key,.string C,.int .i64 bk,.string bm,.int .i64 bl,.string bn],.bool true])) wf:=λwf N=>by
      have bJ:eC j key.1.1 kp.cH s=(some ⟨key.1.1,nd.1,nd.2,(j nd.1 n).1⟩,(j nd.1 n).2):=by rw[am,a3.Z,ae hs]
      rw[<-hR,bJ];refine⟨bL wf N,ah a9 ai,(ad.trans a7).le R5,.inr ⟨_,rfl,?_⟩⟩;have e1:str key.1.1=.string key:=lR rfl;have e2:str nd.1=.string C:=lR bP;simp[dm,bX,b3,e1,e2]
     have bv:=bZ bF;have m0:l.cell? ⟨w.1.size,0,none⟩=some (.string ⟨#[]⟩):=by simp[World.cell?,u,eo]
     have y0:l.frozen? ⟨w.1.size,0,none⟩=false:=by simp[World.frozen?,u,eo]
     have m1:l.cell? ⟨w.1.size,1,none⟩=some (.string ⟨#[]⟩):=by simp[World.cell?,u,eo]
     have y1:l.frozen? ⟨w.1.size,1,none⟩=false:=by simp[World.frozen?,u,eo]
     have m2:l.cell? ⟨w.1.size,2,none⟩=some (.int .i64 0):=by simp[World.cell?,u,eo]
     have y2:l.frozen? ⟨w.1.size,2,none⟩=false:=by simp[World.frozen?,u,eo]
     have m3:l.cell? ⟨w.1.size,3,none⟩=some (.string ⟨#[]⟩):=by simp[World.cell?,u,eo]
     have y3:l.frozen? ⟨w.1.size,3,none⟩=false:=by simp[World.frozen?,u,eo]
     have m4:l.cell? ⟨w.1.size,4,none⟩=some (.int .i64 0):=by simp[World.cell?,u,eo]
     have y4:l.frozen? ⟨w.1.size,4,none⟩=false:=by simp[World.frozen?,u,eo]
     have m5:l.cell? ⟨w.1.size,5,none⟩=some (.string ⟨#[]⟩):=by simp[World.cell?,u,eo]
     have y5:l.frozen? ⟨w.1.size,5,none⟩=false:=by simp[World.frozen?,u,eo]
     refine B.out _ _ ap (λ_=>?_);refine wpAnyH_ready (rs:=[8]) S8 S5 ?_;refine AllReadyH.cons rfl (λK B=>?_) AllReadyH.nil;go_simp;refine B.out _ _ ap (λ_=>?_);refine wpAnyH_ready (rs:=[9]) S8 S5 ?_;refine AllReadyH.cons rfl (λK B=>?_) AllReadyH.nil;go_simp;refine B.out _ _ (bd _ (dq (dq (dq (dq (dq (dq (VQ l (some w.1.size)) _ _) _ _) _ _) _ _) _ _) _ _)) (λ_=>?_);refine wpAnyH_ready (rs:=[10]) S8 S5 ?_;refine AllReadyH.cons rfl (λK B=>?_) AllReadyH.nil;go_simp;refine B.out _ _ (bd _ (dq (dq (dq (dq (dq (dq (VQ l (some w.1.size)) _ _) _ _) _ _) _ _) _ _) _ _)) (λ_=>?_);refine wpAnyH_done S8 ?_ _;show K5 _ _;go_wp2;exact VN (v:=.tuple #[.agg #[.string key,.string C,.int .i64 bk,.string bm,.int .i64 bl,.string bn],.bool true]) UD rfl (bv.Z _ (dq (dq (dq (dq (dq (dq (VQ l (some w.1.size)) _ _) _ _) _ _) _ _) _ _) _ _))
  have bM:k=kp.cH.length:=R5;subst bM;obtain⟨r,bK⟩:=EU HA.Z ak;have bE:∀wf,wr.grownBy wf (some w.1.size)->R (.returned (.tuple #[.agg #[.string ⟨#[]⟩,.string ⟨#[]⟩,.int .i64 0,.string ⟨#[]⟩,.int .i64 0,.string ⟨#[]⟩],.bool false])) wf:=λwf N=>by
   rw[List.drop_length]at am;rw[<-hR,am];exact⟨bK wf N,ai,ad.le hlen,.inl ⟨rfl,rfl⟩⟩
  have m0:wr.cell? ⟨w.1.size,0,none⟩=some (.string ⟨#[]⟩):=by simp[World.cell?,r,eo]
  have m1:wr.cell? ⟨w.1.size,1,none⟩=some (.string ⟨#[]⟩):=by simp[World.cell?,r,eo]
  have m2:wr.cell? ⟨w.1.size,2,none⟩=some (.int .i64 0):=by simp[World.cell?,r,eo]
  have m3:wr.cell? ⟨w.1.size,3,none⟩=some (.string ⟨#[]⟩):=by simp[World.cell?,r,eo]
  have m4:wr.cell? ⟨w.1.size,4,none⟩=some (.int .i64 0):=by simp[World.cell?,r,eo]
  have m5:wr.cell? ⟨w.1.size,5,none⟩=some (.string ⟨#[]⟩):=by simp[World.cell?,r,eo]
  have y0:wr.frozen? ⟨w.1.size,0,none⟩=false:=by simp[World.frozen?,r,eo]
  have y1:wr.frozen? ⟨w.1.size,1,none⟩=false:=by simp[World.frozen?,r,eo]
  have y2:wr.frozen? ⟨w.1.size,2,none⟩=false:=by simp[World.frozen?,r,eo]
  have y3:wr.frozen? ⟨w.1.size,3,none⟩=false:=by simp[World.frozen?,r,eo]
  have y4:wr.frozen? ⟨w.1.size,4,none⟩=false:=by simp[World.frozen?,r,eo]
  have y5:wr.frozen? ⟨w.1.size,5,none⟩=false:=by simp[World.frozen?,r,eo]
  have bu:=bZ bE;go_wp2;exact VN (v:=.tuple #[.agg #[.string ⟨#[]⟩,.string ⟨#[]⟩,.int .i64 0,.string ⟨#[]⟩,.int .i64 0,.string ⟨#[]⟩],.bool false]) UD rfl (bu.Z _ (dq (dq (dq (dq (dq (dq (VQ wr (some w.1.size)) _ _) _ _) _ _) _ _) _ _) _ _))
end
section
open bY
variable{s s':LS}{n c:Nat}{key:a_}{th:cC}{L:Nat->Prop}
structure Pre(n:Nat)(s:LS):Prop where
 kb:KB s.ct
 un:Un s<n
 cm:s.cm.length+n<=200
 nf:s.done.length+1000*Rs s+1000*n<=1000000
 du:s.du.length+Rs s+n<=1000
 Mq:gh s<=70368744177664
structure xy(n:Nat)(s:LS):Prop where
 kb:KB s.ct
 un:Un s<n
 cm:s.cm.length+n<=200
 nf:s.done.length+1000*Rs s+1000*(n+1)<=1000000
 du:s.du.length+Rs s+n+1<=1000
 Mq:gh s<=70368744177664
def rz(h1:s'.jr=s.jr)(h2:s'.ct=s.ct)(b:s'.done=s.done):gh s'=gh s:=by
 unfold gh Rs;rw[h1,h2,b]
def xy.due(h:xy n s)(b:jk s s' c)(j:c<=401)(e:gh s'<=gh s):Pre n s' where
 kb:=b.kb h.kb
 un:=by rw[b.un];exact h.un
 cm:=by rw[b.cm];exact h.cm
 nf:=by have:=h.nf;have:=b.nf;omega
 du:=by have:=h.du;have:=b.du;omega
 Mq:=ah e h.Mq
def xy.run{e:LS}(h:xy n s)(l:jk s e 401)(u:gh e<=gh s)(y)(j:jk {e with du:=e.du++[y]} s' c)(p:c<=400)(r:gh s'<=gh {e with du:=e.du++[y]}):Pre n s':=by
 have m:Rs {e with du:=e.du++[y]}=Rs e:=rfl;have z:gh {e with du:=e.du++[y]}=gh e:=rz rfl rfl rfl;have hu:Un {e with du:=e.du++[y]}=Un e:=rfl;have a:=j.nf;have b:=j.du;rw[m]at a b;have a:s'.done.length+1000*Rs s'<=e.done.length+1000*Rs e+c:=a;have b:s'.du.length+Rs s'<=(e.du++[y]).length+Rs e:=b;rw[aj]at b;simp only[aM,Ra]at b;exact{
  kb:=j.kb (l.kb h.kb)
  un:=by rw[j.un,hu,l.un];exact h.un
  cm:=UE
  nf:=by have:=h.nf;have:=l.nf;omega
  du:=by have:=h.du;have:=l.du;omega
  Mq:=by have:=h.Mq;omega}
def Pre.work(h:Pre (n+1) s){t:bY.T}(e:bY.cv s.ct key=some th)(j:th.di=some t)(b:s.cm.contains key=false):xy n {s with cm:=s.cm++[key]} where
 kb:=h.kb
 un:=by have:=Bi s key (iq e (by rw[j];rfl)) b;have:=h.un;omega
 cm:=by have:=h.cm;show(s.cm++[key]).length+n<=200;simp;omega
 nf:=h.nf
 du:=h.du
 Mq:=h.Mq
def Mr{w:Xa}{K:Nat}(E:key.length<=200)(q:Wo×(LS×List (a_×Wo)))(G:bY.cv q.2.1.ct key=some th)(m:fI w K (ia key q).2 L):gh (ia key q).2<=gh q.2.1+LM:=by
 obtain⟨r,s,b⟩:=q;have C:Rs (ia key (r,s,b)).2=Rs s:=nM (ye key (r,s,b)).1 (ye key (r,s,b)).2;have M:(dc (ia key (r,s,b)).2.jr).length<=(dc s.jr).length+LM:=by
  cases l:gT r with
  |true =>
   cases u:(cK s.ct key).isSome with
   |true =>
    simp only[ia,l,u,aO];show(dc (s.jr++[[108,111,115,101,32]++key])).length<=_;rw[eB,aj,jK,aj];simp only[aM,Ra];unfold LM;omega
   |false =>
    simp only[ia,l,u,aO];exact aI _ _
  |false =>
   have y:(ia key (r,s,b)).2=s.keep key ⟨r,b⟩:=by simp only[ia,l];rfl
   rw[y]at m ⊢;have I:bY.cv (s.keep key ⟨r,b⟩).ct key=some {th with kept:=some ⟨r,b⟩}:=by
    show bY.cv (bY.da s.ct key _) key=_;rw[fM,ag rfl];have:bY.cv s.ct key=some th:=G;rw[this];rfl
   obtain⟨p,_,J⟩:=m.JC I;obtain⟨v,P,k,_,_,_,_,F⟩:=J;rcases F with⟨e,_⟩|⟨O,N,e,_,z⟩
   ·cases e
   cases e;obtain⟨c,i,sl,_,_,D,B,_,hlen⟩:=z;have j:=kB E D B b.length (af _);have hlen:b.length<=401:=hlen;rw[SC]at j;show(dc (s.jr++[dA key ⟨r,b⟩])).length<=_;rw[eB,aj,jK];have:=Rt 100202 hlen;have j:(dA key ⟨r,b⟩).length<=100206+b.length*100202:=j;unfold LM;omega
 unfold gh;rw[C];show _<=(dc s.jr).length+LM*Rs s+LM;omega
def JH(e:key∈bY.dK s.ct)(hd:bY.cv s.done key=none)(b:List (a_))(r):gh {s with cm:=b,done:=bY.put s.done key r}+LM<=gh s:=by
 have h:Rs {s with cm:=b,done:=bY.put s.done key r}+1<=Rs s:=sC s key r e hd;unfold gh;have h2:=RW LM h;rw[Nat.mul_add]at h2;show(dc s.jr).length+_+_<=_;omega
def EV(b:List (a_))(r):gh {s with cm:=b,done:=bY.put s.done key r}<=gh s:=by
 have h:Rs {s with cm:=b,done:=bY.put s.done key r}<=Rs s:=zE s key r;unfold gh;have h2:=RW LM h;show(dc s.jr).length+_<=_;omega
end
section
open bY
variable{l:Nat}{s s':LS}{L:Nat->Prop}{cs:Array Xb}{x:Xb}
def Ms{w wr:Xa}{t:TypeId}(T:¬Ho t)(h:fI w l s L)(J:cO (w.alloc (.cells cs t)) l L s' wr):wr.1[w.1.size]?=some (.cells cs t (0,0))/\∀wf,wr.grownBy wf (some w.1.size)->cO w l L s' wf/\eO wr wf:=by
 obtain⟨y,h1,h2,F,j⟩:=J;have m:Below _ w (w.alloc (.cells cs t)):=(VM _ _).alloc (af _) _;have B:∀k,L k->k<w.1.size:=λk b=>(h.cz k b).2.1;have D:¬L w.1.size:=λb=>by have:=B _ b;omega
 have C:=(j.block _ S5 D).trans (heap_alloc_new w _);refine⟨C,λwf p=>?_⟩;have P:¬y _:=λb=>by
  rcases h2 _ b with h|h
  ·exact D h
  rw[World.size_alloc]at h;omega
 have E:=iP p (λU V z n=>by rw[C]at n;cases n;exact T);have r:∀k,k<wr.1.size->k≠w.1.size->wf.1[k]?=wr.1[k]? := λk b Q=>p.block k b (λe=>Q (aB e));have S:w.1.size<=wr.1.size:=ah S5 j.size;refine⟨⟨y,h1.st (λk b=>r k (h1.cz k b).2.1 (λe=>P (e▸b))) E,λk b=>?_,F,⟨⟨(p.os.trans j.os).trans m.os,(p.tape.trans j.tape).trans m.tape,(p.output.trans j.output).trans m.output,ah S p.size,λk b R=>?_⟩,λk b cs t z u K=>?_,λn O u=>?_⟩⟩,E⟩
 ·rcases h2 k b with h|h
  ·exact .inl h
  simp at h;exact .inr R5
 ·exact(r k R5 R5).trans ((j.block k Tc R).trans (m.block k b))
 ·have N:=cj u;exact(r k R5 R5).trans (j.k2 k b cs t z ((m.block k N).trans u) K)
 have M:=B _ h.here;obtain⟨G,I⟩:=j.C9 n Tc ((VS (m.block l M)).trans u);exact⟨(VS (r l R5 (by show l≠_;omega))).trans G,(r n R5 R5).trans (I.trans (m.block n O))⟩
def Gq:¬Ho 113:=by rintro(h|h|h)<;>cases h
def pV{w wr:Xa}{r:Wo}{i:Xb}(h:fI w l s L)(m:cO (w.alloc (.cells #[.int .i64 0,.nilIface] 113)) l L s' wr)(n:ij wr r (.agg #[x,i])):wr.cell? ⟨w.1.size,0,none⟩=some (.int .i64 0)/\wr.cell? ⟨w.1.size,1,none⟩=some .nilIface/\wr.frozen? ⟨w.1.size,0,none⟩=false/\wr.frozen? ⟨w.1.size,1,none⟩=false /\cO w l L s' ((wr.setCell ⟨w.1.size,0,none⟩ x).setCell ⟨w.1.size,1,none⟩ i)/\ij ((wr.setCell ⟨w.1.size,0,none⟩ x).setCell ⟨w.1.size,1,none⟩ i) r (.agg #[x,i]) /\((wr.setCell ⟨w.1.size,0,none⟩ x).setCell ⟨w.1.size,1,none⟩ i).cell? ⟨w.1.size,0,none⟩=some x/\((wr.setCell ⟨w.1.size,0,none⟩ x).setCell ⟨w.1.size,1,none⟩ i).cell? ⟨w.1.size,1,none⟩=some i:=by
 obtain⟨b,p⟩:=Ms Gq h m;obtain⟨h1,h2⟩:=p _ (dq (dq (VQ wr (some w.1.size)) 0 x) 1 i);have j:=gG b 0 x;have e:=gG j 1 i;exact⟨by simp[World.cell?,b],by simp[World.cell?,b],by simp[World.frozen?,b],by simp[World.frozen?,b],h1,n.st h2,by simp[World.cell?,e],by simp[World.cell?,e]⟩
def rA(y):∃k n b j e m,dm y=[.string k,.string n,.int .i64 b,.string j,.int .i64 e,.string m]:=by
 obtain⟨b,j,_,h1⟩:=dw y.was;obtain⟨e,m,_,h2⟩:=dw y.now;exact⟨⟨y.key.toArray⟩,⟨y.need.toArray⟩,b,j,e,m,by unfold dm;rw[h1,h2];rfl⟩
def sE:(Tryz.prog.info? 61).map (λi=>(i.zero,i.size,i.bytes))=some (some (.agg #[.string ⟨#[]⟩,.string ⟨#[]⟩,.int .i64 0,.string ⟨#[]⟩,.int .i64 0,.string ⟨#[]⟩]),6,80):=S8
def Dm{w w1:Xa}{D M:Nat}{U X vn V:Xb}(h:LP w l s L D M U X vn V)(C:G w)(F:Xc w w1)(y)(hlen:s.du.length<=1000)(cs)(J:cs=(dm y).toArray):∃z r w3,(Builtin.append_ #[55,55] 55 #[vn,.slice (some ⟨w1.1.size,0,none⟩) 1 1]).run Tryz.prog (w1.alloc (.cells cs 61))=.ok (.slice (some ⟨z,0,none⟩) (s.du.length+1) r) w3 /\w3.cell? ⟨l,4,none⟩=some vn/\w3.frozen? ⟨l,4,none⟩=false/\cO w l L {s with du:=s.du++[y]} (w3.setCell ⟨l,4,none⟩ (.slice (some ⟨z,0,none⟩) (s.du.length+1) r))/\(∀k,w.1.size<=k->k<w1.1.size->w3.1[k]?=w1.1[k]?):=by
 have p:Below _ w (w1.alloc (.cells cs 61)):=F.alloc F.size _;have h2:=h.st (λk n=>p.block k (h.lt n)) (eO.below p);have N:=C.below p C.size;have Q:=heap_alloc_new w1 (.cells cs 61);obtain⟨k0,n0,Y,s1,Z,s2,B⟩:=rA y;rw[B]at J;subst J;obtain⟨z,r,w3,T,R,E,P,hold⟩:=iN 55 55 61 _ 6 80 Tryz.underlying55 sE rfl S4 _ _ _ h2.du ⟨w1.1.size,0,none⟩ 1 (dm y) (by rw[B];rfl) (λj u m=>by
  rw[addr_add,aG];simp only[World.cell?,Q];rw[B]at m
  match j,m with
  |0,m=>simp at m;rw[<-m];rfl
  |1,m=>simp at m;rw[<-m];rfl
  |2,m=>simp at m;rw[<-m];rfl
  |3,m=>simp at m;rw[<-m];rfl
  |4,m=>simp at m;rw[<-m];rfl
  |5,m=>simp at m;rw[<-m];rfl) (λu hu=>by
  rw[B]at hu;simp at hu;rcases hu with rfl|rfl|rfl|rfl|rfl|rfl<;>rfl) R5 Th (ah C.size p.size)
 have I:=(Tn.mk (e0:=61) E (λb D=>cE h2.du D)).cells h2.eb S4;refine⟨z,r,w3,T,by simp[World.cell?,I],by simp[World.frozen?,I],?_,λk aa O=>(E.block k Tc (λe=>by
  have:=h.lt (h.dQ k (.inr (.inr (.inl e.symm))));omega)).trans (VR w1 _ k O)⟩
 have S:w3.ownsRow 8 61 6 (.slice (some ⟨z,0,none⟩) (s.du.length+1) r) (s.du.length+1) ((s.du++[y]).flatMap dm):=by
  rw[Rm];simpa using R
 obtain⟨K,k1,k2,k3,k4⟩:=h2.PQ N y E S5 S P hold;refine⟨K,k1,λk n=>?_,k3,(vh.below p).trans k4 (λk n=>.inl n) (λk n=>n)⟩;rcases k2 k n with h|h
 ·exact .inl h
 have:=p.size;exact .inr R5
def OI(t):∃n,hM t=n+1:=by
 refine⟨hM t-1,?_⟩;have:1<=hM t:=by
  unfold hM;rw[RY,aR];show 1<=hT 1604+1604+2;omega
 omega
def Bj{w:Xa}{t:bY.T}(h:dN w (hM t) t x):∃b,x=ptr b:=by
 obtain⟨n,e⟩:=OI t;rw[e]at h;obtain⟨b,i,s,m,j,h1,_⟩:=h;exact⟨b,h1⟩
end
section
open Tryz
variable{b:Nat}{s:bY.LS}{L:Nat->Prop}{key:ba}
def fI.alloc{w:Xa}(h:fI w b s L)(o):fI (w.alloc o) b s L:=by
 have e:Below _ w (w.alloc o):=(VM _ _).alloc (af _) _;exact h.st (λk j=>e.block k (h.cz k j).2.1) (eO.below e)
def kN.run{w:Xa}{p:Nat}(h:kN w b key.1.1 p)(y:key.size<=200):∃e,w.cell? ⟨b,0,none⟩=some (.map (some e))/\(Instr.lookup 104 (.map (some e)) (.string key) true).run prog w=.ok (.tuple #[ptr p,.bool true]) w:=by
 have m:key.1.1.length<=maxLen:=Tr;obtain⟨e,u,l,r,n⟩:=h;have j:=r.cv underlying104 (k:=key.1.1) m (z:=.pointer none) S8;rw[n,dG]at j;exact⟨e,l,j⟩
def Bk(w b key s L)(h:fI w b s L)(B:key.size<=200)(r:bY.cv s.ct key.1.1=none):Calls prog 85 #[ptr b,.string key] w λe j=>∃x,e=.returned x/\ij j (.error 7) x/\cO w b L s j:=by
 have m:=h.alloc (.cells #[.int .i64 0,.nilIface] 113);have p:key.1.1.length<=maxLen:=Tr;have l:=bZ (cO.below h ((VM _ w).alloc (af _) (.cells #[.int .i64 7,.nilIface] 113)));obtain⟨n,z,C,E,vn,D,h1⟩:=m;have y:(w.alloc (.cells #[.int .i64 0,.nilIface] 113)).cell? ⟨b,0,none⟩=some (.map (some n)):=cr h1.eb rfl;have u:=h1.ct.vK r p;rw[dG]at u;unfold ptr;go_enter func85,ntmps85;go_wp2;exact VN (v:=.agg #[.int .i64 7,.nilIface]) (by simp[results,results85,go_sem]) rfl ⟨_,rfl,.inr ⟨7,rfl,rfl,by omega,by omega⟩,l.Z⟩
def Dn(w b key s L)(h:fI w b s L)(D:key.size<=200)(th)(E:bY.cv s.ct key.1.1=some th)(G:th.di=none):Calls prog 85 #[ptr b,.string key] w λe B=>∃x,e=.returned x/\ij B (.ok th.value) x/\cO w b L s B:=by
 have l:∀o,Below _ w _:=λo=>(VM _ w).alloc (af _) o;obtain⟨p,F,I⟩:=h.JC E;obtain⟨N,J,O⟩:=(F.I_ (vh.below (L:=L) (l (.cells #[.int .i64 0,.nilIface] 113)))).run D;obtain⟨R,Q,P,y,_,_,C,_⟩:=I;rcases C with⟨_,rfl,z,_⟩|⟨t,a,u,_⟩
 ·obtain⟨m,j,rfl⟩:=z.one;have r:=bZ (And.intro (cO.below h (l (.cells #[.int .i64 0,.iface m j] 113))) (z.keeps (cT.below (l (.cells #[.int .i64 0,.iface m j] 113)))));have n:=(l (.cells #[.int .i64 0,.nilIface] 113)).block p (cj y);rw[y]at n;have K:(w.alloc (.cells #[.int .i64 0,.nilIface] 113)).cell? ⟨p,0,none⟩=some (.iface m j):=cr n rfl;have M:(w.alloc (.cells #[.int .i64 0,.nilIface] 113)).cell? ⟨p,1,none⟩=some (.pointer none):=cr n rfl;unfold ptr at *;go_enter func85,ntmps85;go_wp2;exact VN (v:=.agg #[.int .i64 0,.iface m j]) (by simp[results,results85,go_sem]) rfl ⟨_,rfl,.inl ⟨_,_,rfl,rfl,r.Z.2⟩,r.Z.1⟩
 rw[G]at u;cases u
end
section
open bY
open Tryz
variable{n j p u r:Nat}{w1 w2:Xa}{key:ba}{s l:LS}{L:Nat->Prop}{th:cC}{t:bY.T}
def Gr{m D:Xa}(HB:qg j (cG n) (Pre n)){J:Nat->Prop}{vb vr vn vj:Xb}(h:LP m j l J u r vb vr vn vj)(g:G m)(hd:jY m)(F:key.size<=200)(a4:∀P w',cO m j J P w'->cO w1 j L P w')(I:xy n s)(K:jk s l 401)(Z:gh l<=gh s)(hl:bY.cv l.ct key.1.1=some th)(O:th.di=some t)(hp:kN m j key.1.1 p)(y)(hB:Xc m D)(cs)(ak:cs=(dm y).toArray):∃B z w3,(Builtin.append_ #[55,55] 55 #[vn,.slice (some ⟨D.1.size,0,none⟩) 1 1]).run prog (D.alloc (.cells cs 61))=.ok (.slice (some ⟨B,0,none⟩) (l.du.length+1) z) w3 /\w3.cell? ⟨j,4,none⟩=some vn/\w3.frozen? ⟨j,4,none⟩=false/\(∀k,m.1.size<=k->k<D.1.size->w3.1[k]?=D.1[k]?) /\Calls prog 125 #[ptr j,.string key,ptr p] (w3.setCell ⟨j,4,none⟩ (.slice (some ⟨B,0,none⟩) (l.du.length+1) z)) λe Q=>∃c i,e=.returned (.agg #[.int .i64 c,i])/\(i=.nilIface\/∃t a,i=.iface t a)/\ij Q (f_ (cG n) key.1.1 t y l).1 (.agg #[.int .i64 c,i])/\cO w1 j L (f_ (cG n) key.1.1 t y l).2 Q/\gh (f_ (cG n) key.1.1 t y l).2<=gh s+LM:=by
 have a3:l.du.length<=1000:=by have:=K.du;have:=I.du;omega
 obtain⟨B,z,w3,hr,M,hf,E,ap⟩:=Dm h g hB y a3 cs ak;refine⟨B,z,w3,hr,M,hf,ap,?_⟩;have R:fI m j l J:=⟨_,_,_,_,_,_,h⟩;have g4:=E.g R g;have d4:=E.uc R g hd;obtain⟨L4,S,a7,a5⟩:=E.then;have Y:kN (w3.setCell ⟨j,4,none⟩ (.slice (some ⟨B,0,none⟩) (l.du.length+1) z)) j key.1.1 p:=by
  obtain⟨_,_,_,_,am⟩:=E;exact hp.I_ am
 have av:key.1.1.length<=200:=by simpa using F
 have N:bY.cv ({l with du:=l.du++[y]}:LS).ct _=some th:=hl;obtain⟨v0,r0,k0,V,_,_,h6,_⟩:=Y.thing S Th N;rcases h6 with⟨C,_⟩|⟨t',a,C,rfl,rfl,ay,hx⟩
 ·rw[O]at C;cases C
 rw[O]at C;cases C;obtain⟨b,ai⟩:=Bj hx;rw[ai]at hx V;have c1:(w3.setCell ⟨j,4,none⟩ (.slice (some ⟨B,0,none⟩) (l.du.length+1) z)).cell? ⟨p,1,none⟩=some (ptr b):=cr V rfl;have a0:gh ({l with du:=l.du++[y]}:LS)=gh l:=rz rfl rfl rfl;refine(Ml _ j p b key _ _ HB {l with du:=l.du++[y]} L4 S g4 d4 F (λP c ad M a2=>I.run K Z y ad M a2) (by rw[a0];exact ah Z I.Mq) t th N O Y ay hx c1).mono ?_;rintro e Q⟨x,rfl,U,T,a6⟩;obtain⟨c,i,rfl,hi⟩:=U.form;refine⟨c,i,rfl,hi,U,a4 _ _ (a5 _ _ T),?_⟩;have ao:=K.kb I.kb;have ab:∀k s,KB s.ct->jk s (cG n k s).2 1:=λk s F=>jA n k s F;have X:=(uf ab (tr (hM t) t none 400) 400 {l with du:=l.du++[y]} [] ao (mu _ _ _ _)).1;have aC:bY.prog t=(tr _ t none 400).dR:=rfl;rw[<-aC]at X;obtain⟨a8,ax,_⟩:=Bg X N;obtain⟨L5,aa,_⟩:=T;have:=Mr av ((bY.prog t).run _ ({l with du:=l.du++[y]},[])) ax aa;show gh (ia _ ((bY.prog t).run _ ({l with du:=l.du++[y]},[]))).2<=_;omega
def PR(n:Nat)(w1:Xa)(j p:Nat)(key:ba)(s:LS)(L:Nat->Prop)(t:bY.T)(kp:Option gl)(e:Ending)(w2:Xa):Prop :=(∃y,e=.returned (.tuple #[.agg (dm y).toArray,.bool true])/\fg (cG n) key.1.1 t kp s=f_ (cG n) key.1.1 t y (match kp with|none=>s|some k=>(eC (cG n) key.1.1 k.cH s).2) /\∃vn,∀b,Xc w2 b->b.cell? ⟨j,4,none⟩=some vn/\(∃o m c,vn=.slice o m c)/\∃C B m w3,(Builtin.append_ #[55,55] 55 #[vn,.slice (some ⟨b.1.size,0,none⟩) 1 1]).run prog (b.alloc (.cells (dm y).toArray 61))=.ok (.slice (some ⟨C,0,none⟩) m B) w3 /\w3.cell? ⟨j,4,none⟩=some vn/\w3.frozen? ⟨j,4,none⟩=false/\(∀k,w2.1.size<=k->k<b.1.size->w3.1[k]?=b.1[k]?) /\Calls prog 125 #[ptr j,.string key,ptr p] (w3.setCell ⟨j,4,none⟩ (.slice (some ⟨C,0,none⟩) m B)) λe D=>∃(c:Int) (i:Xb),e=.returned (.agg #[.int .i64 c,i])/\(i=.nilIface\/∃t a,i=.iface t a)/\ij D (fg (cG n) key.1.1 t kp s).1 (.agg #[.int .i64 c,i])/\cO w1 j L (fg (cG n) key.1.1 t kp s).2 D/\gh (fg (cG n) key.1.1 t kp s).2<=gh s+LM) \/(e=.returned (.tuple #[.agg eo,.bool false])/\∃z c i,(i=.nilIface\/∃t a,i=.iface t a)/\∀b,Xc w2 b->b.cell? ⟨p,3,none⟩=some (ptr z)/\b.cell? ⟨z,0,none⟩=some (.int .i64 c)/\b.cell? ⟨z,1,none⟩=some i /\
  ij b (fg (cG n) key.1.1 t kp s).1 (.agg #[.int .i64 c,i])/\cO w1 j L (fg (cG n) key.1.1 t kp s).2 b/\gh (fg (cG n) key.1.1 t kp s).2<=gh s+LM)
def LP.OJ{w:Xa}{b y vn e:Xb}(h:LP w j s L u r b y vn e):∃o m c,vn=.slice o m c:=by
 rcases h.du.2 with⟨rfl,_⟩|⟨g,z,B,rfl,_⟩
 ·exact⟨_,_,_,rfl⟩
 exact⟨_,_,_,rfl⟩
def N8(J:qg j (cG n) (Pre n))(E:fI w1 j s L)(D:G w1)(d1:jY w1)(C:cO w1 j L l w2)(T:key.size<=200)(Z:xy n s)(R:jk s l 401)(Y:gh l<=gh s)(U:bY.cv l.ct key.1.1=some th)(ht:th.di=some t)(V:kN w1 j key.1.1 p)(y):∃vn,∀b,Xc w2 b->b.cell? ⟨j,4,none⟩=some vn/\(∃o m c,vn=.slice o m c)/\∃B z m w3,(Builtin.append_ #[55,55] 55 #[vn,.slice (some ⟨b.1.size,0,none⟩) 1 1]).run prog (b.alloc (.cells (dm y).toArray 61))=.ok (.slice (some ⟨B,0,none⟩) m z) w3 /\w3.cell? ⟨j,4,none⟩=some vn/\w3.frozen? ⟨j,4,none⟩=false/\(∀k,w2.1.size<=k->k<b.1.size->w3.1[k]?=b.1[k]?) /\Calls prog 125 #[ptr j,.string key,ptr p] (w3.setCell ⟨j,4,none⟩ (.slice (some ⟨B,0,none⟩) m z)) λe I=>∃c i,e=.returned (.agg #[.int .i64 c,i])/\(i=.nilIface\/∃t a,i=.iface t a)/\ij I (f_ (cG n) key.1.1 t y l).1 (.agg #[.int .i64 c,i])/\cO w1 j L (f_ (cG n) key.1.1 t y l).2 I/\gh (f_ (cG n) key.1.1 t y l).2<=gh s+LM:=by
 have K:=C.g E D;have d2:=C.uc E D d1;have X:kN w2 j key.1.1 p:=by
  obtain⟨_,_,_,_,S⟩:=C;exact V.I_ S
 obtain⟨L2,⟨u,r,vb,vr,vn,vj,h2⟩,_,aa⟩:=C.then;refine⟨vn,λb F=>⟨?_,h2.OJ,?_⟩⟩
 ·have:=(F.block j (cj h2.eb)).trans h2.eb;simp[World.cell?,this]
 obtain⟨B,z,w3,M,N,O,P,Q⟩:=Gr J h2 K d2 T aa Z R Y U ht X y F _ rfl;exact⟨B,z,_,w3,M,N,O,P,Q⟩
def OL(C:cO w1 j L l w2)(P:key.size<=200){kp:gl}(Q:bY.cv l.ct key.1.1=some th)(G:th.kept=some kp)(R:kN w1 j key.1.1 p):∃e c i,(i=.nilIface\/∃t a,i=.iface t a)/\∀b,Xc w2 b->b.cell? ⟨p,3,none⟩=some (ptr e)/\b.cell? ⟨e,0,none⟩=some (.int .i64 c)/\b.cell? ⟨e,1,none⟩=some i/\ij b kp.dR (.agg #[.int .i64 c,i])/\cO w1 j L l b:=by
 have S:kN w2 j key.1.1 p:=by
  obtain⟨_,_,_,_,O⟩:=C;exact R.I_ O
 obtain⟨U,B,_,T⟩:=C.then;have V:key.1.1.length<=200:=by simpa using P
 obtain⟨v0,r0,Y,E,_,_,_,K⟩:=S.thing B Th Q;rcases K with⟨m,_⟩|⟨Z,e,m,rfl,M⟩
 ·rw[G]at m;cases m
 rw[G]at m;cases m;obtain⟨c,i,sl,F,_,D,_⟩:=M;obtain⟨I,X,N,hi⟩:=D.form;cases N;refine⟨e,I,i,hi,λb y=>?_⟩;have J:=(y.block p (cj E)).trans E;have z:=(y.block e (cj F)).trans F;exact⟨by simp[World.cell?,J,ptr],by simp[World.cell?,z],by simp[World.cell?,z],D.keeps (cT.below y),T _ _ (cO.below B y)⟩
def PS(n w1 j p)(key:ba)(E:qg j (cG n) (Pre n))(s L)(z:fI w1 j s L)(F:G w1)(d1:jY w1)(K:key.size<=200)(ab:key.1.1∈s.cm)(N:xy n s)(th t)(P:bY.cv s.ct key.1.1=some th)(S:th.di=some t)(M:kN w1 j key.1.1 p)(O)(ai:(th.kept=none/\O=.pointer none)\/∃b D,th.kept=some b/\O=.pointer (some ⟨D,0,none⟩)/\iM w1 L b D):Calls prog 124 #[ptr j,.string key,O] w1 (PR n w1 j p key s L t th.kept):=by
 rcases ai with⟨m,rfl⟩|⟨b,D,m,rfl,Z⟩
 ·refine b_ (JG w1 j key) λw2 I=>?_;refine .inl ⟨_,rfl,?_,?_⟩
  ·rw[m];rfl
  have B:=cO.below z I;have:=N8 E z F d1 B K N (jk.refl s 401) (af _) P S M ⟨key.1.1,[],.error 0,.error 0⟩;rw[m];exact this
 refine(Mp w1 j D key _ _ E s L z F d1 b Z (λs' c J hc ak=>N.due J hc ak)).mono ?_;rintro e w2⟨B,R,J,ad⟩;have Q:bY.cv (eC (cG n) key.1.1 b.cH s).2.ct key.1.1=some th:=by
  rw[(zG (px n) _ _ s).ct _ ab];exact P
 rcases ad with⟨h1,rfl⟩|⟨y,h1,rfl⟩
 ·refine .inr ⟨rfl,?_⟩;have C:fg (cG n) key.1.1 t th.kept s=(b.dR,(eC (cG n) key.1.1 b.cH s).2):=by
   rw[m];unfold fg;simp only;generalize eC _ _ _ s=q at h1;obtain⟨o,l⟩:=q;have h1:=h1;subst h1;rfl
  rw[C];obtain⟨am,c,i,hi,aa⟩:=OL B K Q m M;refine⟨am,c,i,hi,λwd I=>?_⟩;obtain⟨T,U,V,X,Y⟩:=aa wd I;exact⟨T,U,V,X,Y,ah R (aI _ _)⟩
 have C:fg (cG n) key.1.1 t th.kept s=f_ (cG n) key.1.1 t y (eC (cG n) key.1.1 b.cH s).2:=by
  rw[m];unfold fg;simp only;generalize eC _ _ _ s=q at h1;obtain⟨o,l⟩:=q;have h1:=h1;subst h1;rfl
 refine .inl ⟨y,rfl,?_,?_⟩
 ·rw[C,m]
 rw[C];exact N8 E z F d1 B K N J R Q S M y
end
section
open Tryz
namespace Ref
def yv(r:bY.Wo)(w):Calls prog 152 #[dC r] w λe b=>e=.returned (str (bY.gO r))/\Xc w b:=by
 cases r with
 |ok v =>
  show Calls _ _ #[.agg #[.int .i64 0,.string ⟨(bY.wr 3 v).toArray⟩]] _ λe b=>e=.returned (.string ⟨(bY.wr 3 v).toArray⟩)/\Xc w b;go_enter func152,ntmps152;go_wp2;go_ret;exact⟨rfl,(VM _ w).alloc (af _) _⟩
 |error c =>
  show Calls _ _ #[.agg #[.int .i64 (c:Int),.string ⟨#[]⟩]] _ λe b=>e=.returned (str (bY.ld c))/\Xc w b;by_cases h:c=7\/c=8\/c=9\/c=10\/c=11
  ·rcases h with rfl|rfl|rfl|rfl|rfl
   all_goals
    go_enter func152,ntmps152;go_wp2;go_ret;exact⟨rfl,(VM _ w).alloc (af _) _⟩
  have n:((c:Int)==7)=false:=Tj;have p:((c:Int)==8)=false:=Tj;have u:((c:Int)==9)=false:=Tj;have l:((c:Int)==10)=false:=Tj;have m:((c:Int)==11)=false:=Tj;have j:bY.ld c=[]:=by
   unfold bY.ld;rw[ae R5,ae R5,ae R5,ae R5,ae R5]
  rw[j];clear h j;go_enter func152,ntmps152;go_wp2;go_ret;exact⟨rfl,(VM _ w).alloc (af _) _⟩
end Ref
end
