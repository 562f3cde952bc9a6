/- Out of L14. -/
import Derived.Test.YtpekpdimdelncaaGreatDoorP16
set_option linter.unusedVariables false
set_option linter.unusedSimpArgs false
set_option maxRecDepth 100000
set_option maxHeartbeats 1000000
set_option linter.defProp false
namespace Go.Proofs.YtpekpdimdelncaaGreatDoor
open Go.RowKit Go.Shelf
section
open bY
open Tryz
variable{l:List (a_×Wo)}{sl:Xb}{n:a_×Wo}
def Jx:(prog.info? 133).map (λi=>(i.zero,i.size,i.bytes))=some (some (.agg #[.string ⟨#[]⟩,.int .i64 0,.nilIface]),3,40):=S8
def eA.len{w:Xa}(h:eA w l sl):∃o c,sl=.slice o l.length c:=by
 obtain⟨o,c,h,_⟩:=h.cell;exact⟨o,c,h⟩
def eA.snoc{w w':Xa}{sl':Xb}{x y:Xb}(h:eA w l sl)(u:eO w w')(B:∀j:List (Xb×Xb×Xb),w.ownsRow 8 133 3 sl l.length (j.flatMap iL)->w'.ownsRow 8 133 3 sl' (l.length+1) (j.flatMap iL++[str n.1,x,y]))(z:n.1.length<=200)(C:ij w n.2 (.agg #[x,y])):eA w' (l++[n]) sl':=by
 obtain⟨j,h1,h2,p⟩:=h;refine⟨j++[(str n.1,x,y)],?_,by simp[h2],λi m q b e=>?_⟩
 ·have:=B j h1;rw[aj,Rm];simpa[iL]using this
 rcases Ro i l.length with hi|hi
 ·rw[aP hi]at b;rw[aP R5]at e;exact⟨(p i m q b e).1,(p i m q b e).2.1,(p i m q b e).2.2.st u⟩
 rw[aX hi]at b;rw[aX R5]at e;have r:i-l.length=0:=by
  have:=(aA.1 b).1;simp at this;omega
 rw[r]at b;rw[h2,r]at e;simp at b e;subst b e;exact⟨rfl,z,C.st u⟩
structure Rw(w w':Xa)(sl sl':Xb):Prop where
 os:w'.os=w.os
 tape:w'.tape=w.tape
 output:w'.output=w.output
 size:w.1.size<=w'.1.size
 block:∀k,k<w.1.size->sl.ownBlock≠some k->w'.1[k]?=w.1[k]?
 old:∀k,sl.ownBlock=some k->∃cs fz,w'.1[k]?=some (.cells cs 133 fz)
 loc:∀k,sl'.ownBlock=some k->sl.ownBlock=some k\/w.1.size<=k
 stay:eO w w'
def Rw.below{w w':Xa}(h:Xc w w')(m:∀k,sl.ownBlock=some k->∃e j,w.1[k]?=some (.cells e 133 j)):Rw w w' sl sl :=⟨h.os,h.tape,h.output,h.size,λk b _=>h.block k b,λk b=>by obtain⟨e,j,h1⟩:=m k b;exact⟨e,j,(h.block k (cj h1)).trans h1⟩,λk b=>.inl b,eO.below h⟩
def eA.cz{w:Xa}(h:eA w l sl):∀k,sl.ownBlock=some k->∃b e,w.1[k]?=some (.cells b 133 e):=by
 obtain⟨m,h1,_⟩:=h;exact λk j=>cE h1 j
def zF(w l sl key)(r:Wo)(x)(g:G w)(h:eA w l sl)(hn:l.length<=500)(D:key.size<=200)(hx:ij w r x):Calls prog 163 #[sl,.string key,x] w λe w'=>∃sl',e=.returned sl'/\eA w' (ei l key.1.1 r) sl'/\Rw w w' sl sl':=by
 obtain⟨c,y,rfl,hy⟩:=hx.form;obtain⟨o,F,rfl⟩:=h.len;have a6:∀(fn:Fn) (first C:Array Xb) (w:Xa),(Instr.makeFunc fn first C).run prog w=.ok (.func fn first C) w:=λ_ _ _ _=>rfl;have P:Xc w ((w.alloc (.cells #[.string key] 9)).alloc (.cells #[.int .i64 c,y] 113)):=((VM _ _).alloc (af _) _).alloc S5 _;have Y:eA ((w.alloc (.cells #[.string key] 9)).alloc (.cells #[.int .i64 c,y] 113)) l (.slice o l.length F):=h.st (λk D cs fz z=>(P.block k (cj z)).trans z) (eO.below P);have V:((w.alloc (.cells #[.string key] 9)).alloc (.cells #[.int .i64 c,y] 113)).cell? ⟨w.1.size,0,none⟩=some (.string key):=Ty;have aa:((w.alloc (.cells #[.string key] 9)).alloc (.cells #[.int .i64 c,y] 113)).cell? ⟨w.1.size+1,0,none⟩=some (.int .i64 c):=Ty;have ab:((w.alloc (.cells #[.string key] 9)).alloc (.cells #[.int .i64 c,y] 113)).cell? ⟨w.1.size+1,1,none⟩=some y:=Ty;have U:=bZ (λ(w3:Xa) (X:Below ((w.alloc (.cells #[.string key] 9)).alloc (.cells #[.int .i64 c,y] 113)).1.size ((w.alloc (.cells #[.string key] 9)).alloc (.cells #[.int .i64 c,y] 113)) w3)=>show w3.cell? ⟨w.1.size,0,none⟩=some (.string key)/\w3.cell? ⟨w.1.size+1,0,none⟩=some (.int .i64 c)/\w3.cell? ⟨w.1.size+1,1,none⟩=some y from⟨(X.cell (p:=⟨w.1.size,0,none⟩) (by show w.1.size<_;simp;omega)).trans V,(X.cell (p:=⟨w.1.size+1,0,none⟩) (by show w.1.size+1<_;simp)).trans aa,(X.cell (p:=⟨w.1.size+1,1,none⟩) (by show w.1.size+1<_;simp)).trans ab⟩);have I:=bZ (sB _ l _ key w.1.size Y R5 V);clear V aa ab;cases N:(bY.cv l key.1.1).isSome with
 |true =>
  have R:ei l key.1.1 r=l:=by unfold ei;rw[ag N]
  rw[R];have O:=bZ (λ(w3:Xa) (m:Xc w w3)=>show eA w3 l (.slice o l.length F)/\Rw w w3 (.slice o l.length F) (.slice o l.length F) from⟨h.st (λk D cs fz z=>(m.block k (cj z)).trans z) (eO.below m),Rw.below m h.cz⟩);rw[N]at I;clear h hx R N Y;rcases hy with rfl|⟨t,a,rfl⟩
  all_goals
   go_enter func163,ntmps163;go_wp2_with fail;refine b_ I.Z λw3 m=>?_;have hf:=O.Z w3 (P.trans (m.mono Tc));clear I O U;go_wp2;go_ret;exact⟨_,rfl,hf⟩
 |false =>
  have R:ei l key.1.1 r=l++[(key.1.1,r)]:=by unfold ei;rw[ae (by simp[N])]
  rw[R];have O:=bZ (λ(w3:Xa) (m:Xc w w3)=>show ∃L C E,(Builtin.append_ #[129,129] 129 #[.slice o l.length F,.slice (some ⟨w3.1.size,0,none⟩) 1 1]).run prog (w3.alloc (.cells #[.string key,.int .i64 c,y] 133))=.ok (.slice (some ⟨L,0,none⟩) (l.length+1) C) E/\eA E (l++[(key.1.1,r)]) (.slice (some ⟨L,0,none⟩) (l.length+1) C)/\Rw w E (.slice o l.length F) (.slice (some ⟨L,0,none⟩) (l.length+1) C)from by
   have p:Xc w (w3.alloc (.cells #[.string key,.int .i64 c,y] 133)):=m.alloc m.size _;have ap:=h.st (λk D cs fz z=>(p.block k (cj z)).trans z) (eO.below p);have av:=hx.st (eO.below p);obtain⟨T,S,q2,q3⟩:=ap;have ay:=heap_alloc_new w3 (.cells #[.string key,.int .i64 c,y] 133);obtain⟨L,C,E,Z,ho,M,Q,hold⟩:=iN 129 129 133 _ 3 40 underlying129 Jx rfl S4 _ l.length (T.flatMap iL) S ⟨w3.1.size,0,none⟩ 1 [str key.1.1,.int .i64 c,y] rfl (λj u B=>by
    rw[addr_add,aG];simp only[World.cell?,ay]
    match j,B with
    |0,B=>simp at B;rw[<-B,dG];rfl
    |1,B=>simp at B;rw[<-B];rfl
    |2,B=>simp at B;rw[<-B];rfl) (λu hu=>by
    rcases hy with rfl|⟨t,a,rfl⟩<;>(simp at hu;rcases hu with rfl|rfl|rfl<;>rfl)) R5 Th (ah g.size p.size)
   have aC:Tn 133 (w3.alloc (.cells #[.string key,.int .i64 c,y] 133)) E (Value.ownBlock (.slice o l.length F)):=⟨M,λb z=>cE S z⟩;have ak:eO _ E:=aC.stay (.inr (.inr (.inr (.inr (.inr (.inr rfl))))));refine⟨L,C,E,Z,eA.snoc (n:=(key.1.1,r)) ⟨T,S,q2,q3⟩ ak (λam ai=>?_) (by rw[<-size_data];exact D) av,?_⟩
   ·have:am.flatMap iL=T.flatMap iL:=by
     have J:=S.2;have K:=ai.2;rcases J with⟨J,b1⟩|⟨g1,a0,a4,J,_,c1,_,_,_,d1⟩
     ·have e1:T.flatMap iL=[]:=RN (by rw[S.1,b1]);have e2:am.flatMap iL=[]:=RN (by rw[ai.1,b1]);rw[e1,e2]
     rcases K with⟨K,b2⟩|⟨g2,a3,a5,K,_,c2,_,_,_,d2⟩
     ·rw[K]at J;cases J
     rw[J]at K;cases K;rw[c1]at c2;cases c2;rw[<-d1,<-d2]
    rw[this];exact ho
   ·exact{
     os:=M.os.trans p.os
     tape:=M.tape.trans p.tape
     output:=M.output.trans p.output
     size:=ah p.size M.size
     block:=λk D ax=>(M.block k (aw D p.size) (λe=>ax e.symm)).trans (p.block k D)
     old:=hold
     loc:=λk D=>by
      cases D;rcases Q with Q|Q
      ·exact .inl Q
      right;rw[Q];exact p.size
     stay:=(eO.below p).trans ak})
  rw[N]at I;have ao:=bZ P;clear h hx R N Y P;rcases hy with rfl|⟨t,a,rfl⟩
  all_goals
   go_enter func163,ntmps163;go_wp2_with fail;refine b_ I.Z λw3 m=>?_;have ad:Xc w w3:=ao.Z.trans (m.mono Tc);obtain⟨k0,k1,k2⟩:=U.Z w3 m;obtain⟨L,C,E,Z,hN,hR⟩:=O.Z w3 ad;have HN:=bZ hN;have HR:=bZ hR;clear I O U hN hR m ad;go_wp2_with(at_builtin;refine cW _ rfl _ _ _ _ rfl _ _ _ _ rfl rfl Z ?_);go_ret;exact⟨_,rfl,HN.Z,HR.Z⟩
end
section
open bY
def LM:Nat:=50000000
def gh(s:LS):Nat:=(dc s.jr).length+LM*Rs s
structure Rc where
 lb:Nat
 rb:Nat
 b3:Nat
 b7:Nat
 b8:Nat
 l:Nat
 w0:Xa
 L0:Nat->Prop
 s0:LS
 lp:Loop
structure Dh(c:Rc):Prop where
 loop:c.w0.1[c.l]?=some (.loop c.lp)
 ready:c.lp.state=.ready
 PM:c.lp.pending=none
 c3:c.w0.1[c.b3]?=some (.cells #[ptr c.lb] 29 (0,0))
 c7:c.w0.1[c.b7]?=some (.cells #[ptr c.rb] 242 (0,0))
 Z:¬c.L0 c.l/\¬c.L0 c.b3/\¬c.L0 c.b7/\¬c.L0 c.b8/\¬c.L0 c.rb
 ne:c.b3≠c.b8/\c.b7≠c.b8/\c.l≠c.b8/\c.l≠c.rb/\c.b3≠c.rb/\c.b7≠c.rb/\c.b8≠c.rb
 lt:c.b8<c.w0.1.size/\c.rb<c.w0.1.size
 ge:8<=c.b8/\8<=c.rb/\8<=c.l
 uc:jY c.w0
 low:∀k,c.L0 k->8<=k
abbrev Sg:Type:=(LS×List (a_×Wo))×Nat
def Jy(e:Nat)(L:Nat->Prop)(w w':Xa):Prop :=K2 L w w'/\∀b,L b->w.cell? ⟨e,0,none⟩=some (.map (some b))->w'.cell? ⟨e,0,none⟩=some (.map (some b))/\w'.1[b]?=w.1[b]?
def Jy.refl(b L w):Jy b L w w:=⟨λ_ _ _ _ _ h _=>h,λ_ _ h=>⟨h,rfl⟩⟩
def Jy.same{l:Nat}{L L1:Nat->Prop}{w W n:Xa}(h:Jy l L w W)(m:∀k,L1 k->n.1[k]?=W.1[k]?)(p:∀k,L k->L1 k)(y:L1 l):Jy l L w n :=⟨λk b r t u j z=>(m k (p k b)).trans (h.1 k b r t u j z),λe b j=>⟨(VS (m l y)).trans (h.2 e b j).1,(m e (p e b)).trans (h.2 e b j).2⟩⟩
def Jy.I_{l:Nat}{L L1:Nat->Prop}{w W m:Xa}(h:Jy l L w W)(u:vh l L1 W m)(r:∀k,L k->L1 k)(C:∀k,L1 k->k<W.1.size):Jy l L w m :=⟨λk b n t p j y=>u.k2 k (r k b) n t p (h.1 k b n t p j y) y,λe b j=>by
  obtain⟨h1,h2⟩:=h.2 e b j;obtain⟨z,B⟩:=u.C9 e (C e (r e b)) h1;exact⟨z,B.trans h2⟩⟩
def fI.here{w:Xa}{b:Nat}{s:LS}{L:Nat->Prop}(h:fI w b s L):L b:=by
 obtain⟨j,e,l,n,vn,m,h⟩:=h;exact h.here
def JL(c:Rc)(F:Nat->Prop)(σ:Sg)(W:Xa):Prop :=∃(b:Nat->Prop) (sl:Xb),F=(λk=>(k<c.w0.1.size/\k≠c.rb)\/b k\/sl.ownBlock=some k) /\fI W c.lb σ.1.1 b/\(∀k,b k->c.L0 k\/c.w0.1.size<=k)/\(∀k,c.L0 k->b k)/\c.w0.1.size<=W.1.size /\(∀k,k<c.w0.1.size->¬c.L0 k->k≠c.b8->k≠c.rb->W.1[k]?=c.w0.1[k]?) /\W.1[c.b8]?=some (.cells #[sl] 129 (0,0))/\eA W σ.1.2 sl/\(∀g,sl.ownBlock=some g->c.w0.1.size<=g/\¬b g) /\jk c.s0 σ.1.1 σ.2/\σ.1.2.length<=σ.2/\gh σ.1.1<=gh c.s0/\Jy c.lb c.L0 c.w0 W
def fI.cz{w:Xa}{m:Nat}{s:LS}{L:Nat->Prop}(h:fI w m s L):∀k,L k->8<=k/\k<w.1.size/\((∃j c,w.1[k]?=some (.map j c))\/∃e t l,w.1[k]?=some (.cells e t l)/\LT t):=by
 obtain⟨p,n,r,y,vn,u,h⟩:=h;exact λk b=>⟨(h.cz k b).1,h.lt b,(h.cz k b).2⟩
def fI.not{w:Xa}{l:Nat}{s:LS}{L:Nat->Prop}(h:fI w l s L){k:Nat}{cs:Array Xb}{t:TypeId}{fz:Nat×Nat}(b:w.1[k]?=some (.cells cs t fz))(j:¬LT t):¬L k:=λe=>by
 rcases(h.cz k e).2.2 with⟨n,c,h1⟩|⟨m,r,p,h1,h2⟩
 ·rw[b]at h1;cases h1
 rw[b]at h1;cases h1;exact j h2
def fI.Jz{w:Xa}{p:Nat}{s:LS}{L:Nat->Prop}(h:fI w p s L){k:Nat}{o:Obj}(j:w.1[k]?=some o)(h1:∀e c,o≠.map e c)(h2:∀l t m,o≠.cells l t m):¬L k:=λn=>by
 rcases(h.cz k n).2.2 with⟨e,c,b⟩|⟨r,y,u,b,_⟩
 ·rw[j]at b;cases b;exact h1 _ _ rfl
 rw[j]at b;cases b;exact h2 _ _ _ rfl
def nO:¬LT 291:=by rintro(h|h|h|h|h|h|h)<;>cases h
def nP:¬LT 129:=by rintro(h|h|h|h|h|h|h)<;>cases h
def Di:¬LT 29:=by rintro(h|h|h|h|h|h|h)<;>cases h
def tt:¬LT 242:=by rintro(h|h|h|h|h|h|h)<;>cases h
def rm:¬LT 113:=by rintro(h|h|h|h|h|h|h)<;>cases h
def iP{w w':Xa}{b:Nat}(h:w.grownBy w' (some b))(n:∀j t l,w.1[b]?=some (.cells j t l)->¬Ho t):eO w w' :=cT.stay (λk j t l m p=>(h.block k (cj m) (λe=>by cases e;exact n j t l m p)).trans m)
def pU(W:Xa)(l o):W.grownBy (W.putObj l o) (some l):=⟨rfl,rfl,rfl,by simp,λk _ b=>World.putObj_heap_other (λe=>b TJ)⟩
def JL.AW{c:Rc}(ok:Dh c):∀F σ w e,JL c F σ w->w.1.size<=e.1.size->(∀k,F k->e.1[k]?=w.1[k]?)->eO w e->JL c F σ e:=by
 rintro F σ w e⟨p,sl,rfl,h1,h2,l,y,z,B,C,D,E,G,r,u⟩ K hF n;refine⟨p,sl,rfl,h1.st (λk b=>hF k (.inr (.inl b))) n,h2,l,ah y K,λk b J j m=>(hF k (.inl ⟨b,m⟩)).trans (z k b J j m),(hF c.b8 (.inl ⟨ok.lt.1,ok.ne.2.2.2.2.2.2⟩)).trans B,?_,D,E,G,r,u.same (λk b=>hF k (.inr (.inl b))) l h1.here⟩;exact C.st (λg I L M j=>(hF g (.inr (.inr I))).trans j) n
def JL.Hp{c:Rc}(ok:Dh c){j y tc u wc wi:Xb}{f:Nat}:∀F σ w k,JL c F σ w->dW w c.rb j y tc u f wc wi->F k->k<w.1.size/\k≠c.rb:=by
 rintro F σ w k⟨z,sl,rfl,h1,h2,D,E,G,I,l,m,J⟩ r b;rcases b with⟨b,p⟩|b|b
 ·exact⟨by omega,p⟩
 ·refine⟨(h1.cz k b).2.1,λe=>?_⟩;rw[e]at b;exact h1.not r nO b
 obtain⟨B,C,n⟩:=l.cz k b;have K:=(m k b).1;have:=ok.lt.2;exact⟨cj n,by omega⟩
def JL.round{c:Rc}(ok:Dh c){F:Nat->Prop}{σ:Sg}{W:Xa}(hJ:JL c F σ W){O y tc ti wc wi:Xb}{f:Nat}(hR:dW W c.rb O y tc ti f wc wi)(g:G W){busy:Loop}:∃(M:Nat->Prop) (sl:Xb),fI (W.putObj c.l (.loop busy)) c.lb σ.1.1 M/\G (W.putObj c.l (.loop busy))/\jY (W.putObj c.l (.loop busy)) /\W.1[c.l]?=some (.loop c.lp)/\eA W σ.1.2 sl /\∀(r:Wo) (V) (l) (x i),cO (W.putObj c.l (.loop busy)) c.lb M V l->ij l r (.agg #[x,i])->jk σ.1.1 V 1->gh V<=gh σ.1.1 ->(∀o,dW (l.alloc o) c.rb O y tc ti f wc wi)/\ij (l.alloc (.cells #[x,i] 113)) r (.agg #[x,i])/\l.1[c.b7]?=some (.cells #[ptr c.rb] 242 (0,0)) /\∀u,(l.alloc (.cells #[x,i] 113)).grownBy u (some c.rb)->dW u c.rb O y x i f wc wi ->G u/\eA u σ.1.2 sl/\ij u r (.agg #[x,i])/\u.1[c.b8]?=some (.cells #[sl] 129 (0,0))/\u.1[l.1.size]?=some (.cells #[x,i] 113 (0,0)) /\∀(U:a_) (m) (sl'),eA m (ei σ.1.2 U r) sl'->Rw u m sl sl' ->m.1[c.b8]?=some (.cells #[sl] 129 (0,0))/\(m.setCell ⟨c.b8,0,none⟩ sl').1[c.l]?=some (.loop busy) /\∃F',ij ((m.setCell ⟨c.b8,0,none⟩ sl').putObj c.l (.loop c.lp)) r (.agg #[x,i])/\dW ((m.setCell ⟨c.b8,0,none⟩ sl').putObj c.l (.loop c.lp)) c.rb O y x i f wc wi /\JL c F' ((V,ei σ.1.2 U r),σ.2+1) ((m.setCell ⟨c.b8,0,none⟩ sl').putObj c.l (.loop c.lp))/\(∀k,F' k->F k\/W.1.size<=k)/\Fm 8 W ((m.setCell ⟨c.b8,0,none⟩ sl').putObj c.l (.loop c.lp)):=by
 obtain⟨M,sl,rfl,h1,h2,Y,h3,Z,h5,h6,h7,h8,h9,bk,bl⟩:=hJ;obtain⟨o1,o2,o3,o4,o5⟩:=ok.Z;obtain⟨n1,n2,n3,n4,n5,n6,n7⟩:=ok.ne;obtain⟨e1,e2,e3⟩:=ok.ge;have T:=(Z c.l (Rl.1 ok.loop).1 o1 n3 n4).trans ok.loop;have bc:=(Rl.1 T).1;have ap:=pU W c.l (.loop busy);have a7:∀(k:Nat) (n:Array Xb) (t:TypeId) (p:Nat×Nat),W.1[k]?=some _->(W.putObj c.l _).1[k]?=some (.cells n t p):=λk n t p b=>(ap.block k (cj b) (λe=>by cases e;rw[T]at b;cases b)).trans b;have bf:=cT.stay (λk n t p b _=>a7 k n t p b);have am:=h1.Jz T (λ_ _ e=>by cases e) (λ_ _ _ e=>by cases e);have aa:=h1.st (λk b=>ap.block k (h1.cz k b).2.1 (λe=>by cases e;exact am b)) bf;have bC:jY W:=by
  have hd:=ok.uc;unfold jY at hd ⊢;rw[<-hd];refine VS (Z 7 ?_ (λh=>?_) ?_ ?_)
  ·have:=ok.lt.1;omega
  ·have:=ok.low _ h;omega
  ·omega
  omega
 have a0:Below 8 W (W.putObj c.l (.loop busy)):=⟨rfl,rfl,rfl,by simp,λk b=>World.putObj_heap_other R5⟩;have g1:=g.below a0 (af _);refine⟨M,sl,aa,g1,bC.below a0 (af _),T,h6,λr V l x i hP ao hN bx=>?_⟩;obtain⟨X,L,p2,p3,B⟩:=hP;have bN:W.1.size<=l.1.size:=by have:=B.size;simpa using this
 have bu:=h1.not hR nO;have bt:=h1.not h5 nP;have a4:=(Z c.b7 (cj ok.c7) o3 n2 n6).trans ok.c7;have br:=h1.not a4 tt;have ad:∀(k:Nat) (n:Array Xb) (t:TypeId) (p:Nat×Nat),W.1[k]?=some _->¬M k->l.1[k]?=some _:=λk n t p b I=>(B.block k (by simpa using cj b) I).trans (a7 k n t p b);have N:=ad _ _ _ _ hR bu;have a8:=(B.block c.l (by simpa using bc) am).trans (World.putObj_heap_same bc);have ak:Below _ l (l.alloc (.cells #[x,i] 113)):=(VM _ _).alloc (af _) _;have bK:=bf.trans (xW aa B.toeu).stay;refine⟨λo=>(VR l o c.rb (cj N)).trans N,ao.keeps (cT.below ak),ad _ _ _ _ a4 br,λu E bz=>?_⟩;have bn:Below 8 l (l.alloc (.cells #[x,i] 113)):=ak.mono TI;have a3:dW (l.alloc (.cells #[x,i] 113)) c.rb O y tc ti f wc wi:=(VR l _ c.rb (cj N)).trans N;have bH:=iP E (λn t p j=>by
  rw[dW]at a3;rw[a3]at j;cases j;rintro(h|h|h)<;>cases h)
 have aC:=(eO.below ak).trans bH;have P:∀k o,l.1[k]?=some o->k≠c.rb->u.1[k]?=some o:=λk o b K=>by
  have S:=(Rl.1 b).1;exact(E.block k Tc (λe=>K TD)).trans ((VR l _ k S).trans b)
 have g2:=EB aa B.toeu g1;have g4:G u:=(g2.below bn (af _)).below (B:=8) ((VM 8 _).grown E (by have:=g2.size;simp;omega) (λk b=>by cases b;exact e2)) (af _);have a5:=ad _ _ _ _ h5 bt;have a6:=P _ _ a5 n7;have bF:∀gk,sl.ownBlock=some gk->∀(n:Array Xb) (p:Nat×Nat),W.1[gk]?=some (.cells n 133 p)->u.1[gk]?=some (.cells n 133 p):=λgk z n p j=>by
  have K:gk≠c.rb:=by have:=(h7 gk z).1;have:=ok.lt.2;omega
  exact P _ _ (ad _ _ _ _ j (h7 gk z).2) K
 have bv:=h6.st bF (bK.trans aC);have bB:u.1[l.1.size]?=some (.cells #[x,i] 113 (0,0)):=by
  have K:l.1.size≠c.rb:=by have:=cj N;omega
  exact(E.block l.1.size S5 (λe=>K (aB e))).trans (heap_alloc_new l _)
 refine⟨g4,bv,ao.st aC,a6,bB,λU m sl' bw D=>?_⟩;have ay:∀gk,sl.ownBlock=some gk->c.w0.1.size<=gk/\gk<W.1.size:=λgk z=>by
  obtain⟨n,p,j⟩:=h6.cz gk z;exact⟨(h7 gk z).1,cj j⟩
 have bO:l.1.size+1<=u.1.size:=by have:=E.size;simpa using this
 have Q:∀k o,u.1[k]?=some o->sl.ownBlock≠some k->m.1[k]?=some o:=λk o b K=>(D.block k (Rl.1 b).1 K).trans b;have R:∀k,k<c.w0.1.size->sl.ownBlock≠some k:=λk b e=>by have:=(ay k e).1;omega
 have ab:=Q _ _ a6 (R _ ok.lt.1);have a9:=Q _ _ (P _ _ a8 n4) (R _ (Rl.1 ok.loop).1);have bA:=Q _ _ bz (R _ ok.lt.2);have ax:=(VX m ⟨c.b8,0,none⟩ sl' c.l n3).trans a9;refine⟨ab,ax,?_⟩;have bD:=dq (VQ m (some c.b8)) 0 sl';have bE:=pU (m.setCell ⟨c.b8,0,none⟩ sl') c.l (.loop c.lp);have bI:=iP bD (λn t p j=>by
  rw[ab]at j;cases j;rintro(h|h|h)<;>cases h)
 have bJ:=iP bE (λn t p j=>by rw[ax]at j;cases j);have bh:=bI.trans bJ;have ai:∀k o,m.1[k]?=some o->k≠c.b8->k≠c.l->((m.setCell ⟨c.b8,0,none⟩ sl').putObj c.l (.loop c.lp)).1[k]?=some o:=λk o b I C=>(World.putObj_heap_other C).trans ((VX m ⟨c.b8,0,none⟩ sl' k I).trans b);have bg:=(aC.trans D.stay).trans bh;have bq:=L.not N nO;have bo:=L.not a5 nP;have bp:=L.Jz a8 (λ_ _ e=>by cases e) (λ_ _ _ e=>by cases e);have a2:∀gk,sl.ownBlock=some gk->¬X gk:=λgk z C=>by
  rcases p2 gk C with h|h
  ·exact(h7 gk z).2 h
  have:=(ay gk z).2;simp at h;omega
 have bd:∀k,X k->((m.setCell ⟨c.b8,0,none⟩ sl').putObj c.l (.loop c.lp)).1[k]?=l.1[k]? := λk b=>by
  obtain⟨_,S,_⟩:=L.cz k b;obtain⟨o,J⟩:∃o,l.1[k]?=some o:=⟨_,RV S⟩;rw[J];exact ai k o (Q k o (P k o J (λe=>bq (e▸b))) (λe=>a2 k e b)) (λe=>bo (e▸b)) (λe=>bp (e▸b))
 have bj:W.1.size<=((m.setCell ⟨c.b8,0,none⟩ sl').putObj c.l (.loop c.lp)).1.size:=by
  have:=D.size;simp[World.setCell];omega
 -- what of bQ bP blocks stays
 have hold:∀k o,W.1[k]?=some o->¬M k->k≠c.b8->k≠c.rb->sl.ownBlock≠some k->((m.setCell ⟨c.b8,0,none⟩ sl').putObj c.l (.loop c.lp)).1[k]?=some o:=λk o b I j hr hs=>by
  by_cases av:k=c.l
  ·subst av;rw[T]at b;cases b;exact World.putObj_heap_same (Rl.1 ax).1
  have S:=(Rl.1 b).1;have bm:=(B.block k (by simpa using S) I).trans ((World.putObj_heap_other av).trans b);exact ai k o (Q k o (P k o bm hr) hs) j av
 have bG:Jy c.lb c.L0 c.w0 ((m.setCell ⟨c.b8,0,none⟩ sl').putObj c.l (.loop c.lp)) :=((bl.same (λk b=>ap.block k (h1.cz k b).2.1 (λe=>by cases e;exact am b)) Y h1.here).I_ B Y (λk b=>(aa.cz k b).2.1)).same bd (λk b=>p3 k (Y k b)) L.here;refine⟨λk=>(k<c.w0.1.size/\k≠c.rb)\/X k\/sl'.ownBlock=some k,ao.st bg,ai _ _ bA (λe=>n7 e.symm) (λe=>n4 e.symm),⟨X,sl',rfl,L.st bd bg,λk b=>?_,λk b=>p3 k (Y k b),ah h3 bj,λk b I j hr=>?_,?_,?_,λgk z=>?_,?_,?_,ah bx bk,bG⟩,λk b=>?_,?_⟩
 ·rcases p2 k b with h|h
  ·exact h2 k h
  simp at h;exact .inr R5
 ·rw[<-Z k b I j hr];obtain⟨o,J⟩:∃o,W.1[k]?=some o:=⟨_,RV R5⟩;rw[J];refine hold k o J (λC=>?_) j hr (R k b);rcases h2 k C with h|h
  ·exact I h
  omega
 ·exact(World.putObj_heap_other (λe=>n3 e.symm)).trans (gG ab 0 sl')
 ·exact bw.st (λgk z n p j=>ai _ _ j (λe=>by rw[e,ab]at j;cases j) (λe=>by rw[e,a9]at j;cases j)) bh
 ·rcases D.loc gk z with h|h
  ·exact⟨(ay gk h).1,a2 gk h⟩
  refine⟨by omega,λC=>?_⟩;have:=(L.cz gk C).2.1;omega
 ·exact h8.trans hN
 ·have:=nN σ.1.2 U r;show(ei σ.1.2 U r).length<=σ.2+1;omega
 ·rcases b with b|b|b
  ·exact .inl (.inl b)
  ·rcases p2 k b with h|h
   ·exact .inl (.inr (.inl h))
   simp at h;exact .inr R5
  rcases D.loc k b with h|h
  ·exact .inl (.inr (.inr h))
  exact .inr R5
 refine⟨⟨?_,?_,?_,bj,λk b=>?_⟩,λk n t p b ht=>?_⟩
 ·show m.os=W.os;rw[D.os,E.os];exact B.os
 ·show m.tape=W.tape;rw[D.tape,E.tape];exact B.tape
 ·show m.output=W.output;rw[D.output,E.output];exact B.output
 ·obtain⟨o,J⟩:∃o,W.1[k]?=some o:=⟨_,RV TI⟩;rw[J];exact hold k o J (λC=>by have:=(h1.cz k C).1;omega) R5 R5 (R k (by have:=ok.lt.1;omega))
 refine hold k _ b (h1.not b (λh=>h.si ht)) (λe=>?_) (λe=>?_) (λe=>?_)
 ·rw[e,h5]at b;cases b;rcases ht with(h|h|h)|h|h<;>cases h
 ·rw[dW]at hR;rw[e,hR]at b;cases b;rcases ht with(h|h|h)|h|h<;>cases h
 obtain⟨bL,bM,j⟩:=h6.cz k e;rw[b]at j;cases j;rcases ht with(h|h|h)|h|h<;>cases h
end
section
open bY
open Tryz
variable{c:Rc}{fz:Nat×Nat}{C:Xa->Prop}{j n p:Nat}{s:LS}{L:Nat->Prop}{x i:Xb}{r:Wo}{m:List (a_×Wo)}{key:a_}{th:cC}
attribute [local go_sem] Oper.semAt_some
def qg(j:Nat)(b:a_->LS->Wo×LS)(P:LS->Prop):Prop :=∀(W:Xa) (s:LS) (L:Nat->Prop) (key:ba),fI W j s L->G W->jY W->P s->key.size<=200 ->Calls prog 49 #[ptr j,.string key] W λe l=>∃x,e=.returned x/\ij l (b key.1.1 s).1 x/\cO W j L (b key.1.1 s).2 l/\gh (b key.1.1 s).2<=gh s/\jk s (b key.1.1 s).2 1
def jL(b:a_->LS->Wo×LS)(key:a_)(σ:Sg):Except Nat V×Sg :=((b key σ.1.1).1,(((b key σ.1.1).2,ei σ.1.2 key (b key σ.1.1).1),σ.2+1))
def Bf(c:Rc)(b:a_->LS->Wo×LS)(di:Xb):Env where
 σ:=Sg
 N:=jL b
 mE:=λσ=>σ.2
 J:=JL c
 rb:=c.rb
 l:=c.l
 base:=8
 di:=di
 wc:=.int .i64 0
 wi:=.nilIface
def JL.Qr(ok:Dh c):∀F σ w k,JL c F σ w->F k->k<w.1.size/\k≠c.rb:=by
 rintro F σ w k⟨B,sl,rfl,h1,h2,E,G,I,J,l,u,K⟩ b;rcases b with⟨b,z⟩|b|b
 ·exact⟨by omega,z⟩
 ·refine⟨(h1.cz k b).2.1,λe=>?_⟩;rw[e]at b;rcases h2 _ b with h|h
  ·exact ok.Z.2.2.2.2 h
  have:=ok.lt.2;omega
 obtain⟨D,fz,y⟩:=l.cz k b;have M:=(u k b).1;have:=ok.lt.2;exact⟨cj y,by omega⟩
def JA(ok:Dh c)(l u)(z:∀(key) F s w f B D,JL c F s w->dW w c.rb u (.func (.yield c.l) #[] #[]) B D f (.int .i64 0) .nilIface->G w->key.size<=200->s.2+f<400 ->YieldAt Fence.wide 0 prog c.l #[.string key] w λe b=>e=.returned (.bool true)/\∃x i y,ij b (jL l key.1.1 s).1 (.agg #[x,i])/\dW b c.rb u (.func (.yield c.l) #[] #[]) x i f (.int .i64 0) .nilIface/\JL c y (jL l key.1.1 s).2 b/\(∀k,y k->F k\/w.1.size<=k)/\Fm 8 w b):gD (Bf c l u) where
 AW:=JL.AW ok
 Hp:=JL.Qr ok
 Ou:=λkey s=>af _
 AX:=af _
 gE:=ok.ge.2.1
 yields:=z
def rp{W:Xa}{k:Nat}{a b:Xb}{t:TypeId}(h:W.1[k]?=some (.cells #[a,b] t fz)):W.cell? ⟨k,1,none⟩=some b:=cr h rfl
def Dj{W:Xa}(e)(H:∀b,b=e->C (W.alloc (.loop b))):C (W.alloc (.loop e)):=H _ rfl
def JB{w w1 l:Xa}{j n:Nat}{s:LS}{L:Nat->Prop}(h:fI w j s L)(g:G w)(hd:jY w)(z:w.1.size=n){b:Nat}(ad:dW w1 (n+1+1) (ptr b) .nilFunc (.int .i64 0) .nilIface 400 (.int .i64 0) .nilIface)(P:Below (n+1+1) ((w.alloc (.cells #[ptr j] 29)).alloc (.cells #[.int .i64 0,.nilIface] 113)) w1)(J:w1.1.size=n+1+1+1)(E:(w1.alloc (.cells #[ptr (n+1+1)] 242)).alloc (.cells #[.slice none 0 0] 129)=l)(u)(hr:u.state=.ready)(hp:u.pending=none):∃c:Rc,c=⟨j,n+1+1,n,n+1+1+1,n+1+1+1+1,n+5+1,(l.alloc (.deferred (some []))).alloc (.loop u),L,s,u⟩/\Dh c/\(∃F,JL c F ((s,[]),0) c.w0/\∀k,F k->k<c.w0.1.size)/\G c.w0/\Below n w c.w0/\c.w0.1.size=n+7/\c.w0.1[n+5]?=some (.deferred (some []))/\c.w0.1[n+1]?=some (.cells #[.int .i64 0,.nilIface] 113 (0,0))/\dW c.w0 c.rb (ptr b) .nilFunc (.int .i64 0) .nilIface 400 (.int .i64 0) .nilIface:=by
 have K:l.1.size=n+5:=by rw[<-E];simp[J]
 have R:((l.alloc (.deferred (some []))).alloc (.loop u)).1.size=n+7:=by simp[K]
 have ab:Below n w ((w.alloc (.cells #[ptr j] 29)).alloc (.cells #[.int .i64 0,.nilIface] 113)):=((VM _ _).alloc R5 _).alloc Tc _;have aa:=ab.trans (P.mono R5);have Q:Below (n+1+1+1) w1 l:=by rw[<-E];exact((VM _ _).alloc R5 _).alloc Tc _
 have D:Below (n+5) l ((l.alloc (.deferred (some []))).alloc (.loop u)):=((VM _ _).alloc R5 _).alloc Tc _;have y:=(aa.trans (Q.mono R5)).trans (D.mono R5);have O:8<=n:=TI;have I:∀k,L k->k<n:=λk e=>by have:=(h.cz k e).2.1;omega
 have N:∀k,k<n+3->((l.alloc _).alloc _).1[k]?=w1.1[k]? := λk e=>(D.block k R5).trans (Q.block k R5);have M:∀k,k<n+2->((l.alloc _).alloc _).1[k]?=((w.alloc _).alloc _).1[k]? := λk e=>(N k R5).trans (P.block k R5);have S:((l.alloc _).alloc _).1[n]?=some _:=(M n R5).trans ((VR _ _ _ Tc).trans (by rw[<-z];exact heap_alloc_new w _));have T:((l.alloc _).alloc _).1[n+1]?=some _:=(M _ R5).trans (by have:=heap_alloc_new (w.alloc (.cells #[ptr j] 29)) (.cells #[.int .i64 0,.nilIface] 113);rw[World.size_alloc,z]at this;exact this);have U:((l.alloc _).alloc _).1[n+1+1+1]?=some _:=(D.block _ R5).trans (by rw[<-E,<-J];exact(VR _ _ _ S5).trans (heap_alloc_new w1 _));have V:((l.alloc _).alloc _).1[n+1+1+1+1]?=some _:=(D.block _ R5).trans (by have:=heap_alloc_new (w1.alloc (.cells #[ptr (n+1+1)] 242)) (.cells #[.slice none 0 0] 129);rw[World.size_alloc,J,E]at this;exact this);have X:((l.alloc _).alloc (.loop u)).1[n+5]?=some (.deferred (some [])):=(VR _ _ _ Tc).trans (by rw[<-K];exact World.alloc_heap_new l _);have Y:((l.alloc (.deferred (some []))).alloc (.loop u)).1[n+5+1]?=some (.loop u):=by have:=World.alloc_heap_new (l.alloc (.deferred (some []))) (.loop u);rw[World.size_alloc,K]at this;exact this
 have hR:=(N _ R5).trans ad;have ai:=eO.below (by change Below _ _ _;rw[z];exact y);have Z:=h.st (λk e=>y.block k (I k e)) ai;refine⟨_,rfl,⟨Y,hr,hp,S,U,?_,?_,?_,?_,hd.below y O,λk e=>(h.cz k e).1⟩,⟨_,⟨L,.slice none 0 0,rfl,Z,λk e=>.inl e,λk e=>e,af _,λ_ _ _ _ _=>rfl,V,⟨[],V8 _ _ _ _,rfl,λi n q z=>by simp at z⟩,λg hg=>(by cases hg),jk.refl _ _,af _,af _,Jy.refl _ _ _⟩,?_⟩,g.below y O,y,R,X,T,hR⟩
 ·have B:∀k,n<=k->¬L k:=λk h e=>(by have:=I _ e;omega);exact⟨B (n+5+1) R5,B n R5,B (n+1+1+1) R5,B (n+1+1+1+1) R5,B (n+1+1) R5⟩
 ·show n≠n+1+1+1+1/\n+1+1+1≠n+1+1+1+1/\n+5+1≠n+1+1+1+1/\n+5+1≠n+1+1/\n≠n+1+1/\n+1+1+1≠n+1+1/\n+1+1+1+1≠n+1+1;omega
 ·show n+1+1+1+1<_/\n+1+1<_;rw[R];omega
 ·show 8<=n+1+1+1+1/\8<=n+1+1/\8<=n+5+1;omega
 intro k e;show k<((l.alloc (.deferred (some []))).alloc (.loop u)).1.size;rcases e with⟨e,_⟩|e|e
 ·exact e
 ·have:=I k e;omega
 cases e
def NL(W b:Xa):Prop:=W.1.size<=b.1.size/\∀(k:Nat) (o:Obj),W.1[k]?=some o->(∀l c,o≠.map l c)->(∀e t fz,o=.cells e t fz->¬LT t)->b.1[k]?=some o
def NL.below{W b:Xa}(h:Xc W b):NL W b:=⟨h.size,λk o e _ _=>(h.block k (Rl.1 e).1).trans e⟩
def NL.post{W l:Xa}{s':LS}(h:fI W j s L)(B:cO W j L s' l):NL W l:=by
 obtain⟨D,_,_,_,u⟩:=B;refine⟨u.size,λk o e h1 h2=>(u.block k (Rl.1 e).1 (λz=>?_)).trans e⟩;rcases(h.cz k z).2.2 with⟨F,c,b⟩|⟨E,t,fz,b,y⟩
 ·rw[e]at b;cases b;exact h1 _ _ rfl
 rw[e]at b;cases b;exact h2 _ _ _ rfl y
structure Ps(n:Nat)(W:Xa)(x i:Xb):Prop where
 b6:W.1[n+1]?=some (.cells #[.int .i64 0,.nilIface] 113 (0,0))
 b7:W.1[n+1+1+1]?=some (.cells #[ptr (n+1+1)] 242 (0,0))
 PN:W.1[n+5]?=some (.deferred (some []))
 run:∃di y tc ti f,dW W (n+1+1) di y tc ti f x i
def Ps.nl{W l:Xa}(h:Ps n W x i)(b:NL W l):Ps n l x i:=by
 obtain⟨h1,h2,z,u,y,D,E,f,B⟩:=h;refine⟨b.2 _ _ h1 (λ_ _ e=>by cases e) (λ_ _ _ e=>by cases e;exact rm),b.2 _ _ h2 (λ_ _ e=>by cases e) (λ_ _ _ e=>by cases e;exact tt),b.2 _ _ z (λ_ _ e=>by cases e) (λ_ _ _ e=>by cases e),u,y,D,E,f,b.2 _ _ B (λ_ _ e=>by cases e) (λ_ _ _ e=>by cases e;exact nO)⟩
def cO.high{w W b:Xa}(h:cO w j L s W)(P:b.os=W.os)(S:b.tape=W.tape)(hu:b.output=W.output)(R:W.1.size<=b.1.size)(B:∀k,k<w.1.size->b.1[k]?=W.1[k]?)(G:∀(k:Nat) (o),W.1[k]?=some o->((∃E c,o=.map E c)\/∃z t fz,o=.cells z t fz/\LT t)->b.1[k]?=some o)(Q:eO W b):cO w j L s b:=by
 obtain⟨K,h1,h2,M,e⟩:=h;refine⟨K,h1.st (λk u=>?_) Q,h2,M,⟨⟨P.trans e.os,S.trans e.tape,hu.trans e.output,ah e.size R,λk u J=>(B k u).trans (e.block k u J)⟩,λk u z t fz y N=>(B k (cj y)).trans (e.k2 k u z t fz y N),λF I y=>?_⟩⟩
 ·rcases(h1.cz k u).2.2 with⟨E,c,l⟩|⟨z,t,fz,l,D⟩
  ·rw[l];exact G _ _ l (.inl ⟨_,_,rfl⟩)
  rw[l];exact G _ _ l (.inr ⟨_,_,_,rfl,D⟩)
 obtain⟨l,D⟩:=e.C9 F I y;have O:j<w.1.size:=by
  refine Sw λJ=>?_;have:w.1[j]?=none:=Sx.2 R5;simp[World.cell?,this]at y
 exact⟨(VS (B j O)).trans l,(B F I).trans D⟩
def cO.OE{w W:Xa}{l:Nat}{sl:Xb}(h:cO w j L s W)(h8:8<=w.1.size)(u:W.1[l]?=some (.cells #[x,i,sl] 131 (0,0)))(J:w.1.size<=l)(I:eA W m sl)(B:∀g,sl.ownBlock=some g->w.1.size<=g)(R:ij W r (.agg #[x,i]))(U:m.length<=401):∃e,fI W j s e/\iM W e ⟨r,m⟩ l/\∀D E,cO W j e D E->cO w j L D E:=by
 obtain⟨y,⟨S,M,Y,vr,vn,Z,h1⟩,h2,F,G⟩:=h;have K:∀k,y k->(y k\/k=l\/sl.ownBlock=some k):=λk u=>.inl u;have V:fI W j s (λk=>y k\/k=l\/sl.ownBlock=some k):=⟨S,M,Y,vr,vn,Z,{
  eb:=h1.eb
  here:=.inl h1.here
  ne:=h1.ne
  ct:=h1.ct.mono K
  done:=h1.done.mono K
  cm:=h1.cm
  cY:=h1.cY
  du:=h1.du
  jr:=h1.jr
  dQ:=λg z=>.inl (h1.dQ g z)
  apart:=h1.apart
  oS:=h1.oS
  cz:=λk b=>by
   rcases b with b|rfl|b
   ·exact h1.cz k b
   ·exact⟨by omega,.inr ⟨_,_,_,u,.inr (.inr (.inr (.inr (.inr (.inl rfl)))))⟩⟩
   ·obtain⟨cs,fz,T⟩:=I.cz k b;have:=B k b;exact⟨by omega,.inr ⟨_,_,_,T,.inr (.inr (.inr (.inr (.inr (.inr rfl)))))⟩⟩}⟩
 refine⟨_,V,⟨x,i,sl,u,.inr (.inl rfl),R,I,λg z=>.inr (.inr z),U⟩,λD E X=>?_⟩;obtain⟨e,N,O,P,Q⟩:=X;refine⟨e,N,λk b=>?_,λk b=>P k (.inl (F k b)),G.trans Q (λk b=>?_) (λk b=>.inl (F k b))⟩
 ·rcases O k b with(b|rfl|b)|b
  ·exact h2 k b
  ·exact .inr J
  ·exact .inr (B k b)
  have:=G.size;exact .inr R5
 rcases b with b|rfl|b
 ·exact h2 k b
 ·exact .inr J
 exact .inr (B k b)
def vP{w W:Xa}(hn:w.1.size=n)(K:cO w j L s W)(N:Ps n W x i)(M:ij W r (.agg #[x,i])):W.cell? ⟨n+1+1+1,0,none⟩=some (.pointer (some ⟨n+1+1,0,none⟩)) /\Calls prog 164 #[.pointer (some ⟨n+1+1,0,none⟩)] W λe b=>e=.returned (.agg #[x,i])/\b.cell? ⟨n+1,0,none⟩=some (.int .i64 0)/\b.cell? ⟨n+1,1,none⟩=some .nilIface/\b.frozen? ⟨n+1,0,none⟩=false/\b.frozen? ⟨n+1,1,none⟩=false /\∃F,(Instr.takeDeferred (n+5)).run prog ((b.setCell ⟨n+1,0,none⟩ x).setCell ⟨n+1,1,none⟩ i)=.ok [] F/\F.1[n+1]?=some (.cells #[x,i] 113 (0,0))/\cO w j L s F/\ij F r (.agg #[x,i]):=by
 have Y:=N;obtain⟨h1,h2,V,di,y,tc,ti,f,X⟩:=N;refine⟨by simp[World.cell?,h2,ptr],(sn _ _ _ _ _ _ _ _ _ _ X M).mono ?_⟩;rintro e b⟨rfl,u,hs⟩;have I:=Y.nl (NL.below u);have z:=I.b6;refine⟨rfl,by simp[World.cell?,z],by simp[World.cell?,z],by simp[World.frozen?,z],by simp[World.frozen?,z],?_⟩;have T:((b.setCell ⟨n+1,0,none⟩ x).setCell ⟨n+1,1,none⟩ i).1[n+1]?=some (.cells #[x,i] 113 (0,0)):=by
  have R:=gG z 0 x;exact gG R 1 i
 have B:=dq (dq (VQ b (some (n+1))) 0 x) 1 i;have J:=(B.block _ (Rl.1 I.PN).1 (λe=>by cases e)).trans I.PN;have G:=pU ((b.setCell ⟨n+1,0,none⟩ x).setCell ⟨n+1,1,none⟩ i) (n+5) (.deferred none);have ab:=iP B (λS t fz D=>by rw[z]at D;cases D;rintro(h|h|h)<;>cases h);have ad:=iP G (λS t fz D=>by rw[J]at D;cases D);have Q:=((eO.below u).trans ab).trans ad;have O:∀(k:Nat) (o:Obj),W.1[k]?=some o->k≠n+1->k≠n+5->(((b.setCell ⟨n+1,0,none⟩ x).setCell ⟨n+1,1,none⟩ i).putObj _ (.deferred none)).1[k]?=some o:=λk o l Z aa=>by
  have P:=(Rl.1 l).1;exact(World.putObj_heap_other aa).trans ((B.block k (aw P u.size) (λe=>Z (aB e))).trans ((u.block k P).trans l))
 have ai:W.1.size<=(((b.setCell ⟨n+1,0,none⟩ x).setCell ⟨n+1,1,none⟩ i).putObj (n+5) (.deferred none)).1.size:=by
  have:=u.size;simp[World.setCell];omega
 have ak:=K.size;refine⟨_,run_takeDeferred J,(World.putObj_heap_other R5).trans T,K.high ((G.os.trans B.os).trans u.os) ((G.tape.trans B.tape).trans u.tape) ((G.output.trans B.output).trans u.output) ai (λk l=>?_) (λk o l E=>?_) Q,M.st Q⟩
 ·obtain⟨o,E⟩:∃o,W.1[k]?=some o:=⟨_,RV R5⟩;rw[E];exact O k o E R5 R5
 refine O k o l (λe=>?_) (λe=>?_)
 ·subst e;rw[h1]at l;cases l;rcases E with⟨_,_,h⟩|⟨_,_,_,h,U⟩
  ·cases h
  cases h;exact rm U
 subst e;rw[V]at l;cases l;rcases E with⟨_,_,h⟩|⟨_,_,_,h,_⟩<;>cases h
def kN(w:Xa)(j:Nat)(key:a_)(p:Nat):Prop:=∃e b,w.cell? ⟨j,0,none⟩=some (.map (some e))/\fQ w e b/\bY.cv b key=some (ptr p)
def kN.I_{w W:Xa}(h:kN w j key p)(z:vh j L w W):kN W j key p:=by
 obtain⟨b,e,h1,h2,l⟩:=h;obtain⟨u,y⟩:=z.C9 b h2.lt h1;exact⟨b,e,u,h2.same y,l⟩
def kN.thing{W:Xa}(h:kN W j key p)(z:fI W j s L)(l:key.length<=maxLen)(D:bY.cv s.ct key=some th):ft W L th p:=by
 obtain⟨J,I,h1,h2,y⟩:=h;obtain⟨B,G,M,O,vn,N,h⟩:=z;have e:W.cell? ⟨j,0,none⟩=some (.map (some B)):=cr h.eb rfl;rw[h1]at e;cases e;obtain⟨K,F,E⟩:=h.ct.at D;have u:=E false l;have b:=h2.Ey underlying104 (k:=key) l (z:=.pointer none) S8;rw[u,y]at b;simp[ptr]at b;rw[<-b];exact F
def fI.JC{w:Xa}(h:fI w j s L)(b:bY.cv s.ct key=some th):∃p,kN w j key p/\ft w L th p:=by
 obtain⟨l,y,E,G,vn,F,h⟩:=h;obtain⟨u,h1,h2,z,e,B,D⟩:=h.ct;rw[h1,pw]at b;cases hx:bY.cv u key with
 |none=>rw[hx]at b;cases b
 |some x =>
  rw[hx]at b;cases b;refine⟨x.2,⟨l,_,by simp[World.cell?,h.eb],h2,by rw[vH,hx];rfl⟩,?_⟩;exact e _ (kj hx)
def Mi{w w0 W:Xa}{j n f:Nat}{s:LS}{L F:Nat->Prop}{lp:Loop}{N tc U x i:Xb}{r:Wo}{σ:Sg}{c:Rc}(u:c=⟨j,n+1+1,n,n+1+1+1,n+1+1+1+1,n+5+1,w0,L,s,lp⟩)(ok:Dh c)(hn:w.1.size=n)(h8:8<=n)(z:Below n w w0)(bd:w0.1.size=n+7)
  (P:fI w j s L) (hD:w0.1[n+5]?=some (.deferred (some []))) (h6:w0.1[n+1]?=some (.cells #[.int .i64 0,.nilIface] 113 (0,0))) (hJ:JL c F σ W) (J:Fm 8 w0 W) (hR:dW W (n+1+1) N .nilFunc tc U f x i) (hW:ij W r (.agg #[x,i])) (X:G W) :
  ∃y,(Instr.endLoop (n+5+1)).run prog W=.ok none y/\∃sl,cO w j L σ.1.1 y/\Ps n y x i/\y.1[n]?=some (.cells #[ptr j] 29 (0,0))/\y.1[n+1+1+1+1]?=some (.cells #[sl] 129 (0,0))/\eA y σ.1.2 sl/\(∀g,sl.ownBlock=some g->n<=g)/\ij y r (.agg #[x,i])/\G y/\jY y/\σ.1.2.length<=σ.2/\jk s σ.1.1 σ.2/\gh σ.1.1<=gh s:=by
 subst u;obtain⟨V,sl,_,h1,h2,ab,h3,I,h5,ad,h7,ai,h9,Y,O⟩:=hJ;have R:∀k,L k->k<n:=λk l=>by have:=(P.cz k l).2.1;omega
 have a6:∀k,n<=k->¬L k:=λk l D=>by have:=R k D;omega
 have a0:∀b,w.cell? ⟨j,0,none⟩=some (.map (some b))->L b:=λb u=>by
  obtain⟨ak,db,vb,vr,vn,vj,h⟩:=P;have I:w.cell? ⟨j,0,none⟩=some (.map (some ak)):=cr h.eb rfl;rw[I]at u;cases u;obtain⟨_,_,_,_,_,_,D⟩:=h.ct;exact D
 have E:∀k,n<=k->k<n+7->k≠n+1+1+1+1->k≠n+1+1->W.1[k]?=w0.1[k]? := λk l a9 ha b=>I k (by show k<w0.1.size;omega) (a6 k l) ha b;have D:W.1[n+5+1]?=some _:=(E _ R5 R5 R5 R5).trans ok.loop;have am:W.1[n]?=some _:=(E _ R5 R5 R5 R5).trans ok.c3;have ap:W.1[n+1+1+1]?=some _:=(E _ R5 R5 R5 R5).trans ok.c7;have ao:=(E _ R5 R5 R5 R5).trans h6;have av:=(E _ R5 R5 R5 R5).trans hD;have a8:(Instr.endLoop (n+5+1)).run prog W=.ok none (W.putObj (n+5+1) (.loop {lp with state:=.exhausted})):=by
  have Z:=ok.ready;have aa:=ok.PM;have:=run_endLoop (P:=prog) D (λe=>by rw[show lp.state=.ready from Z]at e;cases e);rw[this,show lp.pending=none from aa]
 refine⟨_,a8,sl,?_⟩;have aC:=pU W (n+5+1) (.loop {lp with state:=.exhausted});have B:∀(k:Nat) (o:Obj),W.1[k]?=some o->k≠n+5+1->(W.putObj _ (.loop {lp with state:=.exhausted})).1[k]?=some o:=λk o l a4=>(World.putObj_heap_other a4).trans l;have M:eO W (W.putObj _ (.loop {lp with state:=.exhausted})):=iP aC (λK t fz b=>by rw[D]at b;cases b);have Q:Below 8 W (W.putObj (n+5+1) (.loop {lp with state:=.exhausted})):=⟨rfl,rfl,rfl,by simp,λk l=>World.putObj_heap_other R5⟩;have ay:=jY.below (show jY w0 from ok.uc) J.eD (af _);have ax:∀b,b<n->w.cell? ⟨j,0,none⟩=some _->L b->W.cell? ⟨j,0,none⟩=some _/\W.1[b]?=w.1[b]? := λb T u hL=>by
  have a3:j<n:=by
   refine Sw λbc=>?_;have:w.1[j]?=none:=Sx.2 R5;simp[World.cell?,this]at u
  obtain⟨q1,q2⟩:=O.2 b hL ((VS (z.block j a3)).trans u);exact⟨q1,q2.trans (z.block b T)⟩
 have a7:cO w j L σ.1.1 W:=by
  refine⟨V,h1,λk l=>?_,ab,⟨⟨J.eD.os.trans z.os,J.eD.tape.trans z.tape,J.eD.output.trans z.output,ah z.size h3,λk l a5=>?_⟩,λk l K t fz u a2=>?_,λb T u=>?_⟩⟩
  ·rcases h2 k l with h|h
   ·exact .inl h
   have:w0.1.size<=k:=h;exact .inr R5
  ·exact(I k (by show k<w0.1.size;omega) a5 (by show k≠n+1+1+1+1;omega) (by show k≠n+1+1;omega)).trans (z.block k R5)
  ·exact O.1 k l K t fz ((z.block k (R k l)).trans u) a2
  exact ax b R5 u (a0 b u)
 refine⟨a7.high rfl rfl rfl S5 (λk l=>World.putObj_heap_other R5) (λk o l ho=>B k o l (λe=>?_)) M,⟨B _ _ ao R5,B _ _ ap R5,B _ _ av R5,N,.nilFunc,tc,U,f,B _ _ hR R5⟩,B _ _ am R5,B _ _ h5 (by show n+1+1+1+1≠n+5+1;omega),ad.st (λg S K fz b=>B _ _ b (λe=>?_)) M,λg S=>?_,hW.st M,X.below Q (af _),ay.below Q (af _),h9,ai,Y⟩
 ·subst e;rw[D]at l;cases l;rcases ho with⟨_,_,h⟩|⟨_,_,_,h,_⟩<;>cases h
 ·subst e;rw[D]at b;cases b
 have:w0.1.size<=g:=(h7 g S).1;omega
end
section
open bY
open Tryz
variable{s:LS}{key:a_}{th:cC}{lb n:Nat}{L:Nat->Prop}{x i sl:Xb}{r:Wo}{ns:List (a_×Wo)}
attribute [local go_sem] Oper.semAt_some
def Mj{α:Type}(b)(p:Pg α):∀σ c,(p.run (jL b) (σ,c)).1=(p.run (ep b) σ).1/\(p.run (jL b) (σ,c)).2.1=(p.run (ep b) σ).2 :=Pg.ind (P:=λp=>∀σ c,(p.run (jL b) (σ,c)).1=(p.run (ep b) σ).1/\(p.run (jL b) (σ,c)).2.1=(p.run (ep b) σ).2) (λa σ c=>⟨rfl,rfl⟩) (λk f e σ c=>e _ _ _) p
def Mk(b t s):(ev (jL b) (hM t) t none (400,((s,[]),0))).1=((bY.prog t).run (ep b) (s,[])).1/\(ev (jL b) (hM t) t none (400,((s,[]),0))).2.2.1=((bY.prog t).run (ep b) (s,[])).2:=by
 have h:=Mj b (tr (hM t) t none 400) (s,[]) 0;rw[pg];unfold bY.flat bY.prog;rw[Pg.sf];exact⟨by rw[h.1],h.2⟩
def Bg{s':LS}{c:Nat}(h:jk s s' c)(e:bY.cv s.ct key=some th):∃b,bY.cv s'.ct key=some b/\b.di=th.di:=by
 have h1:=nL s'.ct key;rw[h.dd,nL,e]at h1;cases hx:bY.cv s'.ct key with
 |none=>rw[hx]at h1;cases h1
 |some b =>
  rw[hx]at h1;simp only[R0,Option.some.injEq]at h1;refine⟨b,rfl,?_⟩;have:=congrArg cC.di h1;exact this.symm
def JD(w:Xa)(lb n:Nat)(L:Nat->Prop)(x i:Xb)(r:Wo)(s:LS)(W:Xa):Prop :=W.cell? ⟨n+1+1+1,0,none⟩=some (.pointer (some ⟨n+1+1,0,none⟩)) /\Calls prog 164 #[.pointer (some ⟨n+1+1,0,none⟩)] W λe b=>e=.returned (.agg #[x,i])/\b.cell? ⟨n+1,0,none⟩=some (.int .i64 0)/\b.cell? ⟨n+1,1,none⟩=some .nilIface/\b.frozen? ⟨n+1,0,none⟩=false/\b.frozen? ⟨n+1,1,none⟩=false /\∃j,(Instr.takeDeferred (n+5)).run prog ((b.setCell ⟨n+1,0,none⟩ x).setCell ⟨n+1,1,none⟩ i)=.ok [] j/\j.1[n+1]?=some (.cells #[x,i] 113 (0,0))/\cO w lb L s j/\ij j r (.agg #[x,i])
structure RE(w:Xa)(lb n:Nat)(L:Nat->Prop)(x i sl:Xb)(r:Wo)(ns:List (a_×Wo))(s:LS)(W:Xa):Prop where
 post:cO w lb L s W
 eb:Ps n W x i
 b3:W.1[n]?=some (.cells #[ptr lb] 29 (0,0))
 b8:W.1[n+1+1+1+1]?=some (.cells #[sl] 129 (0,0))
 cH:eA W ns sl
 own:∀g,sl.ownBlock=some g->n<=g
 N5:ij W r (.agg #[x,i])
 g:G W
 uc:jY W
def RE.below{w:Xa}{W e:Xa}(h:RE w lb n L x i sl r ns s W)(b:Xc W e):RE w lb n L x i sl r ns s e where
 post:=h.post.trans (λm l=>cO.below l b)
 eb:=h.eb.nl (NL.below b)
 b3:=(b.block _ (cj h.b3)).trans h.b3
 b8:=(b.block _ (cj h.b8)).trans h.b8
 cH:=h.cH.st (λg _ p u j=>(b.block g (cj j)).trans j) (eO.below b)
 own:=h.own
 N5:=h.N5.st (eO.below b)
 g:=h.g.below b h.g.size
 uc:=h.uc.below b h.g.size
def RE.tail{w:Xa}{W:Xa}(h:RE w lb n L x i sl r ns s W)(b:w.1.size=n):JD w lb n L x i r s W:=vP b h.post h.eb h.N5
def RE.keep{w:Xa}{W:Xa}(h:RE w lb n L x i sl r ns s W)(G:w.1.size=n)(K:8<=n)(hlen:ns.length<=401)(key)(p:key.size<=200)(F:bY.cv s.ct key.1.1=some th)(J:th.di≠none)(M:(dc s.jr).length<=70368744177664):Calls prog 143 #[ptr lb,.string key,ptr W.1.size] (W.alloc (.cells #[x,i,sl] 131)) λe b=>e=.returned (.tuple #[])/\JD w lb n L x i r (s.keep key.1.1 ⟨r,ns⟩) b/\(b.1[n]?=some (.cells #[ptr lb] 29 (0,0))/\b.1[n+1+1+1+1]?=some (.cells #[sl] 129 (0,0))):=by
 have y:Below _ W (W.alloc (.cells #[x,i,sl] 131)):=(VM _ _).alloc (af _) _;have h1:=h.below y;have D:=heap_alloc_new W (.cells #[x,i,sl] 131);obtain⟨u,j,z,I⟩:=h1.post.OE R5 D h.post.size h1.cH (λg B=>by have:=h.own g B;omega) h1.N5 hlen;have E:=kB (kY:=key.1.1) Tw h1.N5 h1.cH _ (af _);rw[SC]at E;have C:(dc (s.keep key.1.1 ⟨r,ns⟩).jr).length<=140737488355328:=by
  show(dc (s.jr++[dA key.1.1 ⟨r,ns⟩])).length<=_;rw[eB,aj,jK];have:=Rt 100202 hlen;omega
 refine b_ (Jv _ lb s u key th ⟨r,ns⟩ _ j h1.g h1.uc F J z p C) λb m=>?_;have l:=NL.post j m;exact⟨rfl,vP G (I _ _ m) (h1.eb.nl l) (h1.N5.keeps (m.keeps j)),l.2 _ _ h1.b3 (λ_ _ e=>by cases e) (λ_ _ _ e=>by cases e;exact Di),l.2 _ _ h1.b8 (λ_ _ e=>by cases e) (λ_ _ _ e=>by cases e;exact nP)⟩
def RE.lX{w:Xa}{W:Xa}(h:RE w lb n L x i sl r ns s W)(y:w.1.size=n)(key)(l:key.size<=200)(u:bY.cv s.ct key.1.1=some th)(B:(dc s.jr).length<=70368744177664):Calls prog 114 #[ptr lb,.string key] W λe m=>e=.returned (.tuple #[])/\JD w lb n L x i r (s.lX key.1.1) m:=by
 obtain⟨L1,b,_,z⟩:=h.post.then;have C:key.1.1.length<=200:=by simpa using l
 have p:(dc (s.lX key.1.1).jr).length<=140737488355328:=by
  show(dc (s.jr++[[108,111,115,101,32]++key.1.1])).length<=_;rw[eB,aj,jK,aj];simp only[aM,Ra];omega
 refine b_ (Bd _ lb s L1 key th b h.g h.uc u l p) λm j=>?_;exact⟨rfl,vP y (z _ _ j) (h.eb.nl (NL.post b j)) (h.N5.keeps (j.keeps b))⟩
def RE.kept{w:Xa}{p:Nat}{W:Xa}(h:RE w lb n L x i sl r ns s W)(C:key.length<=200)(j:bY.cv s.ct key=some th)(u:kN w lb key p):(th.kept=none/\W.cell? ⟨p,3,none⟩=some (.pointer none))\/((cK s.ct key).isSome=true/\∃a,W.cell? ⟨p,3,none⟩=some (.pointer (some a))):=by
 obtain⟨z,h1,h2,B,l⟩:=h.post;obtain⟨v,E,k,e,_,_,_,m⟩:=(u.I_ l).thing h1 Th j;rcases m with⟨b,rfl⟩|⟨D,y,b,rfl,_⟩
 ·exact .inl ⟨b,by simp[World.cell?,e]⟩
 exact .inr ⟨by simp[cK,j,b],⟨y,0,none⟩,by simp[World.cell?,e]⟩
end
section
open bY
open Tryz
variable{Q:Exit->Act->Xa->Prop}
attribute [local go_sem] Oper.semAt_some
def ER(K:Act->Xa->Prop):Exit->Act->Xa->Prop
 |.normal,a,w=>K a w
 |_,_,_=>False
def kO{P:Program}{C:Code}{a:Act}{w:Xa}(K)(j:∀a w,K a w->Q .normal a w)(h:C.wp P (ER K) a w):C.wp P Q a w :=wp_mono h (λe a w b=>by
  cases e with
  |normal=>exact j _ _ b
  |_=>exact b.elim)
def Ml(w lb p b key j P)(HB:qg lb j P)(s L)(h:fI w lb s L)(g:G w)(hd:jY w)(hk:key.size<=200)(hP:∀s' c,jk s s' c->c<=400->gh s'<=gh s->P s')(dr:gh s<=70368744177664)(t th)(hl:bY.cv s.ct key.1.1=some th)(c5:th.di=some t)(hp:kN w lb key.1.1 p)(cV:iy (hM t) false t=true)(hx:dN w (hM t) t (ptr b))(c1:w.cell? ⟨p,1,none⟩=some (ptr b)):Calls prog 125 #[ptr lb,.string key,ptr p] w λe D=>∃x,e=.returned x/\ij D (ia key.1.1 ((bY.prog t).run (ep j) (s,[]))).1 x/\cO w lb L (ia key.1.1 ((bY.prog t).run (ep j) (s,[]))).2 D/\gh ((bY.prog t).run (ep j) (s,[])).2.1<=gh s:=by
 have cY:p<w.1.size:=by
  refine Sw λC=>?_;have:w.1[p]?=none:=Sx.2 R5;simp[World.cell?,this]at c1
 have cc:∀o,(w.alloc o).cell? ⟨p,1,none⟩=some (ptr b):=λo=>(VS (VR w o p cY)).trans c1;have cI:∀o o',((w.alloc o).alloc o').cell? ⟨p,1,none⟩=some (ptr b):=λo o'=>(VS (VR (w.alloc o) o' p Tc)).trans (cc o);have du:w.1.size=w.1.size:=rfl;have cw:=bZ hp;have HX:=bZ hx;generalize a6:(λ(e:Ending) (D:Xa)=>∃x,e=.returned x/\ij D (ia key.1.1 ((bY.prog t).run (ep j) (s,[]))).1 x/\cO w lb L (ia key.1.1 ((bY.prog t).run (ep j) (s,[]))).2 D/\gh ((bY.prog t).run (ep j) (s,[])).2.1<=gh s)=RR;have dp:∀(fn:Fn) (first bL:Array Xb) (w:Xa),(Instr.makeFunc fn first bL).run prog w=.ok (.func fn first bL) w:=λ_ _ _ _=>rfl;have ay:=@JB w;unfold ptr at c1 cc cI ay ⊢;obtain⟨n,C⟩:∃n,w.1.size=n:=⟨_,rfl⟩;refine(callsIn_wide (n:=0)).1 ?_;refine callsIn_of_wp_marks func125 rfl trivial ?_;simp only[ntmps125,S7,aM,Ra,Nat.reduceAdd,Nat.reduceSub,Array.replicate_succ,Array.replicate_zero,List.push_toArray,List.append_toArray,Rz,RC]
 gi_wp2_with fail
 refine⟨trivial,rfl,(callsIn_wide.2 (mF _ _)).mono ?_⟩;rintro e w1⟨rfl,bp,aC,bj⟩;change Below _ _ _ at aC;simp only[World.size_alloc,C]at bp aC bj
 gi_wp2_with fail
 obtain⟨Wb,a7⟩:∃Wb,((w1.alloc (Obj.cells #[Value.pointer (some {block:=n+1+1,off:=0})] 242)).alloc (Obj.cells #[Value.slice none 0 0] 129))=Wb:=⟨_,rfl⟩;have cp:Wb.1.size=n+5:=by rw[<-a7];simp[bj]
 rw[a7];refine wpIn_rangeFunc ?_;intro fn dn;refine⟨_,_,_,_,_,_,_,_,run_enterLoop_outer _ _ _ _ _,(by simp[resolve,go_sem];exact⟨rfl,rfl⟩),(λ_ _=>trivial),(by simp[invoke,go_sem];exact⟨⟨rfl,rfl⟩,rfl⟩),(λh=>by cases h),?_⟩;simp only[cp];refine Dj (C:=λx=>CallsIn _ _ _ _ _ x _) _ ?_;intro lp ai;obtain⟨c,B,ok,⟨F0,bR,cF⟩,g0,bn,co,bP,bN,bW⟩:=ay h g hd C bp aC bj a7 lp (by rw[ai]) (by rw[ai]);have R:c.w0=(Wb.alloc (.deferred (some []))).alloc (.loop lp):=TE;have a8:c.l=n+5+1:=TE;have bc:c.rb=n+1+1:=TE;have ap:c.lb=lb:=TE;have bu:c.b3=n:=TE;have bv:c.b7=n+1+1+1:=TE;have bw:c.b8=n+1+1+1+1:=TE;have bd:c.s0=s:=TE;have a9:c.lp=lp:=TE;have bC:=bZ B;clear B;have hE:gD (Bf c j (.pointer (some ⟨b,0,none⟩))):=JA ok j _ (λk2 F σ W f tc ti hJ hR gW ck bx=>by
  obtain⟨L',sl,q1,q2,q3,q4,q5,q6⟩:=JL.round ok hJ hR gW (busy:={c.lp with state:=.busy});have hN:jk c.s0 σ.1.1 σ.2/\gh σ.1.1<=gh c.s0/\σ.1.2.length<=σ.2/\W.1[c.b3]?=some (.cells #[ptr c.lb] 29 (0,0)):=by
   obtain⟨L',sl,_,h1,h2,dj,h3,h4,h5,h6,h7,h8,h9,cA,di⟩:=hJ;exact⟨h8,cA,h9,(h4 c.b3 (cj ok.c3) ok.Z.2.1 ok.ne.1 ok.ne.2.2.2.2.1).trans ok.c3⟩
  have cH:P σ.1.1:=hP _ σ.2 (bd▸hN.1) R5 (bd▸hN.2.1);have HC:=HB _ _ _ k2 (ap▸q1) q2 q3 cH ck;refine⟨_,_,_,_,run_yield q4 (by rw[a9,ai];rfl),roundIn_of_wpIn trivial ?_⟩;have cb:=run_beginRound (P:=prog) q4 ok.ready;have cm:∀W:Xa,W.1[c.l]?=some (.loop {c.lp with state:=.busy})->(Instr.endRound c.l none).run prog W=.ok (.bool true) (W.putObj c.l (.loop c.lp)):=λW hW=>by
   have:=run_endRound (P:=prog) none hW;rw[this];have h1:=ok.ready;have h2:=ok.PM;generalize c.lp=z at h1 h2;cases z;cases h1;cases h2;rfl
  have e3:(W.putObj c.l (.loop {c.lp with state:=.busy})).cell? ⟨n,0,none⟩=some (.pointer (some ⟨lb,0,none⟩)):=by
   have:=hN.2.2.2;rw[bu,ap]at this;have h':(W.putObj c.l (.loop {c.lp with state:=.busy})).1[n]?=_:=(World.putObj_heap_other (by rw[a8];omega)).trans this;simp[World.cell?,h',ptr]
  rw[bv,bw]at q6;unfold ptr at HC q6;rw[ap]at q6;simp only[a9,ai];obtain⟨Wy,b8⟩:∃Wy,W.putObj c.l (.loop {c.lp with state:=.busy})=Wy:=⟨_,rfl⟩;rw[b8]at HC e3 q6 cb;have HQ:=bZ q6;have HE:=bZ cm;have bD:=bZ HC;have hlen:σ.1.2.length<=500:=by have:=hN.2.2.1;omega
  clear q6 HC cm hN q1 q2 q3 q4 hJ b8 ai ay a8 bc ap bu bv bw bd a9 R;simp only[List.zip_toArray,List.zip_cons_cons,List.zip_nil_right,S7,List.foldl_toArray,List.foldl_cons,List.foldl_nil,au,Xe,Xd]
  gi_wp2_with fail
  refine⟨trivial,rfl,CallsIn.inRound c.l ((callsIn_wide.2 bD.Z).mono ?_)⟩;rintro e w2⟨x0,rfl,br,bT,bU,bS⟩;obtain⟨U,ix,rfl,bz⟩:=br.form;obtain⟨r1,r2,r3,r4⟩:=HQ.Z _ _ w2 _ _ bT br bS bU;have k7:∀o,(w2.alloc o).cell? ⟨n+1+1+1,0,none⟩=some (.pointer (some ⟨c.rb,0,none⟩)):=λo=>by
   have:=(VR w2 o _ (cj r3)).trans r3;simp[World.cell?,this]
  have HT:=bZ (I9 c.rb f _ _ tc ti _ _ _ _ _ (r1 _) r2);have bG:=bZ r4;clear r4 r1 r2 r3 bT bS bU br;rcases bz with rfl|⟨tx,ax,rfl⟩
  all_goals
   gi_wp2_with fail
   refine⟨trivial,rfl,CallsIn.inRound c.l ((callsIn_wide.2 HT.Z).mono ?_)⟩;rintro e w4⟨rfl,dg,dv,he,bX,ce,c0⟩;cases he;obtain⟨g4,n4,i4,bK,bm,r5⟩:=bG.Z w4 ce bX;have k8:w4.cell? ⟨n+1+1+1+1,0,none⟩=some sl:=cr bK rfl;have dx:w4.cell? ⟨w2.1.size,0,none⟩=some (.int .i64 U):=cr bm rfl;have dy:=rp bm;have bJ:=bZ (zF w4 _ sl k2 _ _ g4 n4 hlen ck i4);obtain⟨so,sc,bA⟩:=n4.len;have bH:=bZ r5;clear r5 g4 n4 i4 bK bm bG HT bD HQ bX ce c0;subst bA
   gi_wp2_with fail
   refine⟨trivial,rfl,CallsIn.inRound c.l ((callsIn_wide.2 bJ.Z).mono ?_)⟩;rintro e Z⟨sl',rfl,bo,b4⟩;obtain⟨s1,s2,E,s3,m,s5,s6,s7⟩:=bH.Z _ Z sl' bo b4;obtain⟨dQ,dz,c4⟩:=bo.len;have m8:Z.cell? ⟨n+1+1+1+1,0,none⟩=some (.slice so σ.1.2.length sc):=cr s1 rfl;have z8:Z.frozen? ⟨n+1+1+1+1,0,none⟩=false:=fq s1;have ad:=HE.Z _ s2;have bB:(Ending.returned (Value.bool true)=Ending.returned (Value.bool true))/\∃x i E,ij ((Z.setCell ⟨n+1+1+1+1,0,none⟩ sl').putObj c.l (.loop c.lp)) (jL j k2.1.1 σ).1 (.agg #[x,i])/\dW ((Z.setCell ⟨n+1+1+1+1,0,none⟩ sl').putObj c.l (.loop c.lp)) c.rb (.pointer (some ⟨b,0,none⟩)) (.func (.yield c.l) #[] #[]) x i f (.int .i64 0) .nilIface/\JL c E (jL j k2.1.1 σ).2 ((Z.setCell ⟨n+1+1+1+1,0,none⟩ sl').putObj c.l (.loop c.lp))/\(∀k,E k->F k\/W.1.size<=k)/\Fm 8 W ((Z.setCell ⟨n+1+1+1+1,0,none⟩ sl').putObj c.l (.loop c.lp)):=⟨rfl,_,_,E,s3,m,s5,s6,s7⟩;have HF:=bZ (And.intro ad bB);subst c4;clear bB ad s1 s2 s3 m s5 s6 s7 b4 bo bH bJ HE cb
   gi_wp2_with fail
   obtain⟨ad,-,x,i,E,t1,t2,t3,t4,t5⟩:=HF.Z;exact⟨_,_,ad,rfl,x,i,t1,t2,E,t3,t4,t5⟩)
 have cq:dN c.w0 (hM t) t (.pointer (some ⟨b,0,none⟩)):=(show dN w (hM t) t (ptr b)from HX.Z).keeps (cT.below (by change Below _ _ _;rw[C];exact bn));have HN:=sj (Bf c j (.pointer (some ⟨b,0,none⟩))) hE (hM t) t b F0 400 ((s,[]),0) .nilFunc (.int .i64 0) .nilIface c.w0 cV rfl cq bW bR g0 (by show 0+400<=400;omega);have hq:=Mk j t s;have bF:Calls prog 161 #[.pointer (some ⟨n+1+1,0,none⟩),.func (.yield (n+5+1)) #[] #[]] ((Wb.alloc (.deferred (some []))).alloc (.loop lp)) (lA (Bf c j (.pointer (some ⟨b,0,none⟩))) F0 c.w0 (ev (jL j) (hM t) t none (400,((s,[]),0)))):=by
  have this:Calls prog 161 #[.pointer (some ⟨c.rb,0,none⟩),.func (.yield c.l) #[] #[]] c.w0 (lA (Bf c j (.pointer (some ⟨b,0,none⟩))) F0 c.w0 (ev (jL j) (hM t) t none (400,((s,[]),0)))):=HN;rw[bc,a8]at this;rw[<-R];exact this
 refine(callsIn_wide.2 bF).mono ?_;rintro e W⟨rfl,E,x,i,tc,ti,hW,hR,hJ,bx,hF,cd,gW⟩;have bV:dW W (n+1+1) (.pointer (some ⟨b,0,none⟩)) .nilFunc tc ti (ev (jL j) (hM t) t none (400,((s,[]),0))).2.1 x i:=bc▸hR;have b7:ij W (ev (jL j) (hM t) t none (400,((s,[]),0))).1 (.agg #[x,i]):=hW;have bQ:JL c E (ev (jL j) (hM t) t none (400,((s,[]),0))).2.2 W:=hJ;have cL:(ev (jL j) (hM t) t none (400,((s,[]),0))).2.2.2<=400:=by
  have:(ev (jL j) (hM t) t none (400,((s,[]),0))).2.2.2+(ev (jL j) (hM t) t none (400,((s,[]),0))).2.1<=400:=bx;omega
 obtain⟨W4,ad,sl,a3,bt,b9,ca,a0,cn,V,g4,d4,bf,a2,ao⟩:=Mi bC.Z ok C TI (R▸bn) (R▸co) h (R▸bP) (R▸bN) bQ (R▸cd) bV b7 gW;rw[hq.1]at V;rw[hq.2]at a3 a0 a2 ao bf;generalize ((bY.prog t).run (ep j) (s,[]))=q at V a3 a0 a2 ao bf a6;obtain⟨r,m,X⟩:=q;have bq:RE w lb n L x i sl r X m W4:=⟨a3,bt,b9,ca,a0,cn,V,g4,d4⟩;have h8:8<=n:=TI;have hlen:X.length<=401:=by have:X.length<=_:=bf;omega
 have ch:(dc m.jr).length<=70368744177664:=by
  have h1:gh m<=gh s:=ao;have h2:(dc m.jr).length<=gh m:=aI _ _;omega
 obtain⟨c9,bg,c6⟩:=Bg a2 hl;have c7:c9.di≠none:=by rw[c6,c5];exact λe=>by cases e
 rename_i K HK;refine⟨none,W4,ad,?_⟩;show K _ W4;refine HK _ _ (wpIn_wide.2 ?_);obtain⟨U,ix,c8,bz⟩:=V.form;cases c8;have cM:((U != 12)=true/\gT r=false)\/((U != 12)=false/\gT r=true):=by
  rcases V with⟨v,y,rfl,he,_⟩|⟨c',rfl,he,h0,h1⟩
  ·cases he;exact .inl ⟨rfl,rfl⟩
  cases he;by_cases bM:c'=12
  ·subst bM;exact .inr ⟨rfl,rfl⟩
  refine .inl ⟨?_,?_⟩
  ·simp;omega
  simp[gT,bM]
 have bl:Hid (gh m<=gh s):=bZ ao;have bI:=bZ bq;obtain⟨bk,ct⟩:=bq.tail C;have am:=bZ ct;have HW:=bZ (sn _ _ _ _ _ _ _ _ _ _ (bt.run.choose_spec.choose_spec.choose_spec.choose_spec.choose_spec) V);clear ct bq a3 bt b9 ca a0 cn V bf a2 ao hJ bQ hR bV hW b7 cd gW bx cL hq HN bF hE ay HB hP bC hF bR cF g0 bn co bP bN bW ok R a8 bc ap bu bv bw bd a9 cq ai a7 cp bp aC bj;have dk:∀(a b:Xb) (w:Xa),(Instr.field 113 (.agg #[a,b]) 0).run prog w=.ok a w:=λ_ _ _=>by kernel_rfl
 rcases bz with cg|⟨tx,ax,cg⟩
 all_goals
  subst cg;go_wp2_with fail;refine HW.Z.mono ?_;rintro e W5⟨rfl,bO,c3⟩;have aa:=bI.Z.below bO;have k3:W5.cell? ⟨n,0,none⟩=some (.pointer (some ⟨lb,0,none⟩)):=by simp[World.cell?,aa.b3,ptr]
  have k7:W5.cell? ⟨n+1+1+1,0,none⟩=some (.pointer (some ⟨n+1+1,0,none⟩)):=by simp[World.cell?,aa.eb.b7,ptr]
  have k8:W5.cell? ⟨n+1+1+1+1,0,none⟩=some sl:=cr aa.b8 rfl;have cl:=aa.kept (by simpa using hk) bg cw.Z;have T:=bZ aa;clear aa bI HW am bk bO c3;rcases cM with⟨cN,bh⟩|⟨cN,bh⟩
  ·clear cl;have S:∀l,cO w lb L (m.keep key.1.1 ⟨r,X⟩) l->∀v,ij l r v->RR (.returned v) l:=λl h1 v h2=>by
    rw[<-a6];refine⟨v,rfl,h2,?_,bl.Z⟩;simp only[ia,bh];exact h1
   have I:=bZ S;clear S;obtain⟨so,sc,bA⟩:=T.Z.cH.len;subst bA;go_wp2_with fail;rename_i K5 df;refine kO K5 (λa w h=>h) ?_;refine wp_region_held_drew (S:=λD=>D.cell? ⟨n,0,none⟩=some (.pointer (some ⟨lb,0,none⟩))/\D.cell? ⟨n+1+1+1,0,none⟩=some (.pointer (some ⟨n+1+1,0,none⟩))/\D.cell? ⟨n+1+1+1+1,0,none⟩=some (.slice so X.length sc)) S8 ⟨k3,k7,k8⟩ (λhHeld=>?_);refine dP 0 rfl ⟨k3,k7,k8⟩ ?_;simp only[Act.put,au,Xd,Xe];refine dP 1 rfl ⟨k3,k7,k8⟩ ?_;simp only[Act.put,au,Xd,Xe];refine dP 2 rfl ⟨k3,k7,k8⟩ ?_;simp only[Act.put,au,Xd,Xe];refine dP 4 rfl ⟨k3,k7,k8⟩ ?_;simp only[Act.put,au,Xd,Xe];have a4:=T.Z.below ((VM _ W5).drew);obtain⟨d3,y6,dR,d0,f6,b3⟩:=a4.eb.run;refine wpAnyH_ready (rs:=[3]) S8 S5 ?_;refine AllReadyH.cons rfl (λK u=>?_) AllReadyH.nil;go_simp;refine(sn _ _ _ _ _ _ _ _ _ _ b3 a4.N5).mono ?_;rintro e J⟨rfl,cB,-⟩;have ab:=a4.below cB;have b5:J.cell? ⟨n,0,none⟩=some (.pointer (some ⟨lb,0,none⟩))/\J.cell? ⟨n+1+1+1,0,none⟩=some (.pointer (some ⟨n+1+1,0,none⟩))/\J.cell? ⟨n+1+1+1+1,0,none⟩=some (.slice so X.length sc):=⟨by simp[World.cell?,ab.b3,ptr],by simp[World.cell?,ab.eb.b7,ptr],by simp[World.cell?,ab.b8]⟩;refine u.out _ _ b5 (λ_=>?_);clear u hHeld
   have bE:=bZ (ab.keep C h8 hlen key hk bg c7 ch);have a5:=λo=>ab.below ((VM _ J).alloc (af _) o);have b6:∀o,(J.alloc o).cell? ⟨n,0,none⟩=some (.pointer (some ⟨lb,0,none⟩))/\(J.alloc o).cell? ⟨n+1+1+1,0,none⟩=some (.pointer (some ⟨n+1+1,0,none⟩))/\(J.alloc o).cell? ⟨n+1+1+1+1,0,none⟩=some (.slice so X.length sc):=λo=>⟨by simp[World.cell?,(a5 o).b3,ptr],by simp[World.cell?,(a5 o).eb.b7,ptr],by simp[World.cell?,(a5 o).b8]⟩;clear a5 ab a4 b3 T;refine wpAnyH_ready (rs:=[5]) S8 S5 ?_;refine AllReadyH.cons rfl (λK u=>?_) AllReadyH.nil;go_simp;refine u.out _ _ b5 (λ_=>?_);clear u;refine wpAnyH_ready (rs:=[6]) S8 S5 ?_;refine AllReadyH.cons rfl (λK u=>?_) AllReadyH.nil;go_simp;refine u.out _ _ (b6 _) (λ_=>?_);clear u b6;refine wpAnyH_ready (rs:=[7]) S8 S5 ?_;refine AllReadyH.cons rfl (λK u=>?_) AllReadyH.nil;go_simp;refine bE.Z.mono ?_;rintro e W9⟨rfl,⟨bk,Y⟩,cy,cz⟩;refine u.out _ _ ⟨by simp[World.cell?,cy,ptr],bk,by simp[World.cell?,cz]⟩ (λ_=>?_);clear u bE;refine wpAnyH_done S8 ?_ _;show K5 _ W9;have am:=bZ Y;clear Y;go_wp2_with fail;refine am.Z.mono ?_;rintro e W6⟨rfl,m0,m1,z0,z1,l,av,O,M,N⟩;have HR:=bZ (I.Z _ M _ N);have f0:l.cell? ⟨n+1,0,none⟩=some (.int .i64 U):=cr O rfl;have f1:=rp O;clear M N I;go_wp2_with fail;refine⟨(λe=>by cases e),.inl ⟨n+5,l,rfl,av,?_⟩⟩;refine⟨_,?_,HR.Z⟩;simp[results,results125,go_sem,f0,f1]
  rcases cl with⟨cP,cQ⟩|⟨cU,ak,cQ⟩
  ·have S:∀l,cO w lb L m l->∀v,ij l r v->RR (.returned v) l:=λl h1 v h2=>by
    rw[<-a6];refine⟨v,rfl,h2,?_,bl.Z⟩;have cR:(cK m.ct key.1.1).isSome=false:=by simp[cK,bg,cP]
    simp only[ia,bh,cR];exact h1
   have I:=bZ S;clear S;go_wp2_with fail;obtain⟨_,Y⟩:=T.Z.tail C;refine Y.mono ?_;rintro e W6⟨rfl,m0,m1,z0,z1,l,av,O,M,N⟩;have HR:=bZ (I.Z _ M _ N);have f0:l.cell? ⟨n+1,0,none⟩=some (.int .i64 U):=cr O rfl;have f1:=rp O;clear M N I T;go_wp2_with fail;refine⟨(λe=>by cases e),.inl ⟨n+5,l,rfl,av,?_⟩⟩;refine⟨_,?_,HR.Z⟩;simp[results,results125,go_sem,f0,f1]
  have S:∀l,cO w lb L (m.lX key.1.1) l->∀v,ij l r v->RR (.returned v) l:=λl h1 v h2=>by
   rw[<-a6];refine⟨v,rfl,h2,?_,bl.Z⟩;simp only[ia,bh,cU];exact h1
  have I:=bZ S;clear S;go_wp2_with fail;refine(T.Z.lX C key hk bg ch).mono ?_;rintro e J⟨rfl,bk,Y⟩;have am:=bZ Y;clear Y;go_wp2_with fail;refine am.Z.mono ?_;rintro e W6⟨rfl,m0,m1,z0,z1,l,av,O,M,N⟩;have HR:=bZ (I.Z _ M _ N);have f0:l.cell? ⟨n+1,0,none⟩=some (.int .i64 U):=cr O rfl;have f1:=rp O;clear M N I T;go_wp2_with fail;refine⟨(λe=>by cases e),.inl ⟨n+5,l,rfl,av,?_⟩⟩;refine⟨_,?_,HR.Z⟩;simp[results,results125,go_sem,f0,f1]
end
