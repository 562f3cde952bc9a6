/- Out of L4. -/
import Derived.Test.YtpekpdimdelncaaGreatDoorP13
import Derived.Test.YtpekpdimdelncaaGreatDoorP10
import Derived.Test.YtpekpdimdelncaaGreatDoorPS3
set_option linter.unusedVariables false
set_option linter.unusedSimpArgs false
set_option maxRecDepth 100000
set_option maxHeartbeats 4000000
set_option linter.defProp false
namespace Go.Proofs.YtpekpdimdelncaaGreatDoor
open Go.RowKit Go.Shelf
section
open bY
variable{v x:Xb}{r:Except Nat V}{o:Option V}{s s':LS}{z xs:List Xb}{a b c:Xa}{m:List (a_×Wo)}{L L':Nat->Prop}{q hb db lb:Nat}{th:cC}{ct:List (a_×cC)}
def LT(t:TypeId):Prop:=t=108\/t=9\/t=61\/t=5\/t=124\/t=131\/t=133
def LT.si{t:TypeId}(h:LT t):¬I1 t:=by
 rcases h with rfl|rfl|rfl|rfl|rfl|rfl|rfl<;>(rintro((h|h|h)|h|h)<;>cases h)
def cZ.st{w w':Xa}(h:eO w w'){n:Nat}{v:V}(hx:cZ w n v x):cZ w' n v x:=h.val n v x hx
def ij.st{w w':Xa}(h:eO w w')(hx:ij w r x):ij w' r x:=by
 rcases hx with⟨v,y,h1,h2,e⟩|hx
 ·exact .inl ⟨v,y,h1,h2,e.st h⟩
 exact .inr hx
def hC.st{w w':Xa}(h:eO w w')(hx:hC w o x):hC w' o x:=by
 rcases hx with hx|⟨v,h1,h2⟩
 ·exact .inl hx
 exact .inr ⟨v,h1,h2.st h⟩
def kT.st{w w':Xa}(h:eO w w'){s:Xb}(hx:kT w s z):kT w' s z:=by
 rcases hx with hx|⟨b,e,j,l,h1,h2,n,p,u⟩
 ·exact .inl hx
 exact .inr ⟨b,e,j,l,h1,h2,h.node _ _ _ _ n (.inr rfl),p,u⟩
def dN.st{w w':Xa}(h:eO w w'):∀{n:Nat}{t:bY.T}{x:Xb},dN w n t x->dN w' n t x
 |0,_,_,hx=>hx
 |_+1,_,_,⟨b,i,s,D,l,h1,h2,e,p,y,B⟩ =>
  ⟨b,i,s,D,l,h1,h.node _ _ _ _ h2 (.inl rfl),⟨e.1.st h,e.2⟩,p.st h,y,λj u q hu C=>dN.st h (B j u q hu C)⟩
def eO.trans(h:eO a b)(l:eO b c):eO a c:=⟨λn v x hx=>l.val n v x (h.val n v x hx),λk e t j u p=>l.node k e t j (h.node k e t j u p) p⟩
def eO.below{w w':Xa}(h:Xc w w'):eO w w':=(cT.below h).stay
def K2(L:Nat->Prop)(w w':Xa):Prop:=∀k,L k->∀(e:Array Xb) (t:TypeId) (j:Nat×Nat),w.1[k]?=some (.cells e t j)->t=131\/t=133->w'.1[k]?=some (.cells e t j)
def cJ{w w':Xa}{base n size:Nat}{e:TypeId}(h:w.ownsRow base e size v n xs)(C:∀g,v.ownBlock=some g->∀(j) (l),w.1[g]?=some (.cells j e l)->w'.1[g]?=some (.cells j e l)):w'.ownsRow base e size v n xs:=by
 refine⟨h.1,?_⟩;rcases h.2 with h2|⟨g,p,u,h1,h2,y,B⟩
 ·exact .inl h2
 exact .inr ⟨g,p,u,h1,h2,C g (by rw[h1];rfl) _ _ y,B⟩
def iL(q:Xb×Xb×Xb):List Xb:=[q.1,q.2.1,q.2.2]
def eA(w:Xa)(m:List (a_×Wo))(sl:Xb):Prop :=∃e:List (Xb×Xb×Xb),w.ownsRow 8 133 3 sl m.length (e.flatMap iL)/\e.length=m.length /\∀(i:Nat) n q,m[i]?=some n->e[i]?=some q->q.1=str n.1/\n.1.length<=200/\ij w n.2 (.agg #[q.2.1,q.2.2])
def iM(w:Xa)(L:Nat->Prop)(kp:gl)(q:Nat):Prop :=∃c i sl,w.1[q]?=some (.cells #[c,i,sl] 131 (0,0))/\L q/\ij w kp.dR (.agg #[c,i])/\eA w kp.cH sl/\(∀g,sl.ownBlock=some g->L g)/\kp.cH.length<=401
def ft(w:Xa)(L:Nat->Prop)(th:cC)(q:Nat):Prop :=∃v r k,w.1[q]?=some (.cells #[v,r,str th.came,k] 124 (0,0))/\L q/\th.came.length<=200 /\((th.di=none/\r=.pointer none/\cZ w 3 th.value v/\th.kept=none)\/∃t a,th.di=some t/\r=.pointer (some a)/\v=.nilIface/\iy (hM t) false t=true/\dN w (hM t) t (.pointer (some a))) /\((th.kept=none/\k=.pointer none)\/∃j e,th.kept=some j/\k=.pointer (some ⟨e,0,none⟩)/\iM w L j e)
def ptr(p:Nat):Xb:=.pointer (some ⟨p,0,none⟩)
def jc(w:Xa)(L:Nat->Prop)(hb:Nat)(ct:List (a_×cC)):Prop :=∃e:List (a_×(cC×Nat)),ct=e.map (λx=>(x.1,x.2.1))/\fQ w hb (e.map λx=>(x.1,ptr x.2.2))/\(e.map (·.2.2)).Nodup/\(∀x∈e,ft w L x.2.1 x.2.2)/\(∀x∈e,x.1.length<=8)/\L hb
def je(w:Xa)(L:Nat->Prop)(db:Nat)(done:List (a_×Wo)):Prop :=∃e:List (a_×(Wo×Xb)),done=e.map (λx=>(x.1,x.2.1))/\fQ w db (e.map λx=>(x.1,x.2.2))/\(∀x∈e,ij w x.2.1 x.2.2)/\L db
def dY:Wo->List Xb
 |.ok v=>[.int .i64 0,str (wr 3 v)]
 |.error c=>[.int .i64 (c:Int),str []]
def dm(y:rS):List Xb:=str y.key::str y.need::(dY y.was++dY y.now)
def dX(w:Xa)(v:Xb)(l:List (a_)):Prop:=w.ownsRow 8 9 1 v l.length (l.map str)
def dc(e:List (a_)):a_:=e.flatMap bY.line
structure LP(w:Xa)(lb:Nat)(s:LS)(L:Nat->Prop)(hb db:Nat)(vb vr vn vj:Xb):Prop where
 eb:w.1[lb]?=some (.cells #[.map (some hb),.map (some db),vb,vr,vn,vj] 108 (0,0))
 here:L lb
 ne:hb≠db
 ct:jc w L hb s.ct
 done:je w L db s.done
 cm:dX w vb s.cm
 cY:dX w vr s.cY
 du:w.ownsRow 8 61 6 vn s.du.length (s.du.flatMap dm)
 jr:w.ownsRow 8 5 1 vj (dc s.jr).length (Lib.strCells ⟨(dc s.jr).toArray⟩)
 dQ:∀g,vb.ownBlock=some g\/vr.ownBlock=some g\/vn.ownBlock=some g\/vj.ownBlock=some g->L g
 apart:∀g,vb.ownBlock=some g->vr.ownBlock≠some g
 oS:s.cY=[]->vr=.slice none 0 0
 cz:∀k,L k->8<=k/\((∃es c,w.1[k]?=some (.map es c))\/∃cs t fz,w.1[k]?=some (.cells cs t fz)/\LT t)
def fI(w:Xa)(lb:Nat)(s:LS)(L:Nat->Prop):Prop:=∃hb db e l vn j,LP w lb s L hb db e l vn j
/-! What stays. -/
def eA.st{w w':Xa}{sl:Xb}(h:eA w m sl)(y:∀g,sl.ownBlock=some g->∀(p) (u),w.1[g]?=some (.cells p 133 u)->w'.1[g]?=some (.cells p 133 u))(B:eO w w'):eA w' m sl:=by
 obtain⟨C,h1,h2,e⟩:=h;exact⟨C,cJ h1 y,h2,λi n q j l=>⟨(e i n q j l).1,(e i n q j l).2.1,(e i n q j l).2.2.st B⟩⟩
def iM.st{w w':Xa}{kp:gl}(h:iM w L kp q)(j:K2 L w w')(l:eO w w'):iM w' L kp q:=by
 obtain⟨c,i,sl,h1,h2,n,p,e,u⟩:=h;exact⟨c,i,sl,j q h2 _ _ _ h1 (.inl rfl),h2,n.st l,p.st (λg y B C hb=>j g (e g y) _ _ _ hb (.inr rfl)) l,e,u⟩
def iM.mono{w:Xa}{kp:gl}(h:iM w L kp q)(e:∀k,L k->L' k):iM w L' kp q:=by
 obtain⟨c,i,sl,h1,h2,j,l,n,p⟩:=h;exact⟨c,i,sl,h1,e _ h2,j,l,λg u=>e g (n g u),p⟩
def ft.st{w w':Xa}(h:ft w L th q)(hb:w'.1[q]?=w.1[q]?)(u:K2 L w w')(l:eO w w'):ft w' L th q:=by
 obtain⟨v,r,k,h1,h2,n,p,j⟩:=h;refine⟨v,r,k,hb.trans h1,h2,n,?_,?_⟩
 ·rcases p with⟨a,b,c,d⟩|⟨t,a,b,c,d,e,f⟩
  ·exact .inl ⟨a,b,c.st l,d⟩
  exact .inr ⟨t,a,b,c,d,e,f.st l⟩
 rcases j with j|⟨B,y,a,b,c⟩
 ·exact .inl j
 exact .inr ⟨B,y,a,b,c.st u l⟩
def ft.mono{w:Xa}(h:ft w L th q)(j:∀k,L k->L' k):ft w L' th q:=by
 obtain⟨v,r,k,h1,h2,l,n,e⟩:=h;refine⟨v,r,k,h1,j _ h2,l,n,?_⟩;rcases e with e|⟨u,p,a,b,c⟩
 ·exact .inl e
 exact .inr ⟨u,p,a,b,c.mono j⟩
def ft.block{w:Xa}(h:ft w L th q):L q/\∃e,w.1[q]?=some (.cells e 124 (0,0)):=by
 obtain⟨v,r,k,h1,h2,_⟩:=h;exact⟨h2,_,h1⟩
def jc.st{w w':Xa}(h:jc w L hb ct)(D:w'.1[hb]?=w.1[hb]?)(G:∀k,L k->∀(e) (j),w.1[k]?=some (.cells e 124 j)->w'.1[k]?=some (.cells e 124 j))(B:K2 L w w')(F:eO w w'):jc w' L hb ct:=by
 obtain⟨E,h1,h2,p,l,u,y⟩:=h;refine⟨E,h1,h2.same D,p,λx hx=>?_,u,y⟩;obtain⟨C,e,n⟩:=(l x hx).block;exact(l x hx).st ((G _ C _ _ n).trans n.symm) B F
def jc.mono{w:Xa}(h:jc w L hb ct)(e:∀k,L k->L' k):jc w L' hb ct:=by
 obtain⟨u,h1,h2,j,l,n,p⟩:=h;exact⟨u,h1,h2,j,λx hx=>(l x hx).mono e,n,e _ p⟩
def je.st{w w':Xa}{done:List (a_×Wo)}(h:je w L db done)(n:w'.1[db]?=w.1[db]?)(p:eO w w'):je w' L db done:=by
 obtain⟨e,h1,h2,j,l⟩:=h;exact⟨e,h1,h2.same n,λx hx=>(j x hx).st p,l⟩
def je.mono{w:Xa}{done:List (a_×Wo)}(h:je w L db done)(n:∀k,L k->L' k):je w L' db done:=by
 obtain⟨e,h1,h2,j,l⟩:=h;exact⟨e,h1,h2,j,n _ l⟩
def LP.st{w w':Xa}{C E vn D:Xb}(h:LP w lb s L hb db C E vn D)(j:∀k,L k->w'.1[k]?=w.1[k]?)(B:eO w w'):LP w' lb s L hb db C E vn D where
 eb:=(j lb h.here).trans h.eb
 here:=h.here
 ne:=h.ne
 ct:=by
  have y:L hb:=by obtain⟨_,_,_,_,_,_,G⟩:=h.ct;exact G
  exact h.ct.st (j hb y) (λk n p u e=>(j k n).trans e) (λk n p t u e _=>(j k n).trans e) B
 done:=by
  have y:L db:=by obtain⟨_,_,_,_,F⟩:=h.done;exact F
  exact h.done.st (j db y) B
 cm:=cJ h.cm (λg l p u e=>(j g (h.dQ g (.inl l))).trans e)
 cY:=cJ h.cY (λg l p u e=>(j g (h.dQ g (.inr (.inl l)))).trans e)
 du:=cJ h.du (λg l p u e=>(j g (h.dQ g (.inr (.inr (.inl l))))).trans e)
 jr:=cJ h.jr (λg l p u e=>(j g (h.dQ g (.inr (.inr (.inr l))))).trans e)
 dQ:=h.dQ
 apart:=h.apart
 oS:=h.oS
 cz k n:=by rw[j k n];exact h.cz k n
def fI.st{w w':Xa}(h:fI w lb s L)(e:∀k,L k->w'.1[k]?=w.1[k]?)(j:eO w w'):fI w' lb s L:=by
 obtain⟨hb,db,l,p,vn,n,h⟩:=h;exact⟨hb,db,l,p,vn,n,h.st e j⟩
def LP.lt{w:Xa}{j n vn l:Xb}(h:LP w lb s L hb db j n vn l){k:Nat}(e:L k):k<w.1.size:=by
 rcases(h.cz k e).2 with⟨u,c,h⟩|⟨p,t,y,h,_⟩
 ·exact(Rl.1 h).1
 exact cj h
structure eu(L:Nat->Prop)(w w':Xa):Prop where
 os:w'.os=w.os
 tape:w'.tape=w.tape
 output:w'.output=w.output
 size:w.1.size<=w'.1.size
 block:∀k,k<w.1.size->¬L k->w'.1[k]?=w.1[k]?
def eu.refl(L w):eu L w w:=⟨rfl,rfl,rfl,af _,λ_ _ _=>rfl⟩
def eu.below{w w':Xa}(h:Xc w w'):eu L w w':=⟨h.os,h.tape,h.output,h.size,λk e _=>h.block k e⟩
def eu.grown{w w':Xa}{b:Nat}(h:w.grownBy w' (some b))(hb:L b):eu L w w':=⟨h.os,h.tape,h.output,h.size,λk j l=>h.block k j (λe=>by cases e;exact l hb)⟩
def eu.trans(h:eu L a b)(j:eu L' b c)(p:∀k,L' k->L k\/a.1.size<=k):eu L a c :=⟨j.os.trans h.os,j.tape.trans h.tape,j.output.trans h.output,ah h.size j.size,λk l n=>(j.block k (aw l h.size) (λe=>by rcases p k e with h|h;exact n h;omega)).trans (h.block k l n)⟩
structure vh(lb:Nat)(L:Nat->Prop)(w w':Xa):Prop extends eu L w w' where
 k2:K2 L w w'
 C9:∀hb,hb<w.1.size->w.cell? ⟨lb,0,none⟩=some (.map (some hb))->w'.cell? ⟨lb,0,none⟩=some (.map (some hb))/\w'.1[hb]?=w.1[hb]?
def vh.refl(lb L w):vh lb L w w:=⟨eu.refl _ _,λ_ _ _ _ _ h _=>h,λ_ _ h=>⟨h,rfl⟩⟩
def vh.below{w w':Xa}(h:Xc w w'):vh lb L w w' :=⟨eu.below h,λk _ p t u j _=>(h.block k (cj j)).trans j,λhb n e=>⟨by
  have l:lb<w.1.size:=by
   refine Sw λy=>?_;have:w.1[lb]?=none:=Sx.2 R5;simp[World.cell?,this]at e
  rw[<-e];exact VS (h.block lb l),h.block hb n⟩⟩
def vh.trans(h:vh lb L a b)(e:vh lb L' b c)(D:∀k,L' k->L k\/a.1.size<=k)(E:∀k,L k->L' k):vh lb L a c :=⟨h.toeu.trans e.toeu D,λk p l t n j y=>e.k2 k (E k p) l t n (h.k2 k p l t n j y) y,λhb u j=>by
  obtain⟨h1,h2⟩:=h.C9 hb u j;obtain⟨B,C⟩:=e.C9 hb (aw u h.size) h1;exact⟨B,C.trans h2⟩⟩
def eF(w:Xa)(lb:Nat)(L:Nat->Prop)(s:LS)(w':Xa):Prop :=∃L',fI w' lb s L'/\(∀k,L' k->L k\/w.1.size<=k)/\(∀k,L k->L' k)/\eu L w w'
def cO(w:Xa)(lb:Nat)(L:Nat->Prop)(s:LS)(w':Xa):Prop :=∃L',fI w' lb s L'/\(∀k,L' k->L k\/w.1.size<=k)/\(∀k,L k->L' k)/\vh lb L w w'
def cO.Qk{w w':Xa}(h:cO w lb L s w'):eF w lb L s w':=by
 obtain⟨L',h1,h2,e,j⟩:=h;exact⟨L',h1,h2,e,j.toeu⟩
def LP.I_{w w':Xa}{j:Nat}{y F vn C B G E D:Xb}(h:LP w lb s L hb db y F vn C)(l:LP w' lb s' L' hb j B G E D)(n:eu L w w')(p:K2 L w w')(u:w'.1[hb]?=w.1[hb]?):vh lb L w w' :=⟨n,p,λI _ e=>by
  have h1:w.cell? ⟨lb,0,none⟩=some (.map (some hb)):=cr h.eb rfl;have h2:w'.cell? ⟨lb,0,none⟩=some (.map (some hb)):=cr l.eb rfl;rw[h1]at e;cases e;exact⟨h2,u⟩⟩
def xW{w w':Xa}(h:fI w lb s L)(l:eu L w w'):cT w w':=by
 obtain⟨hb,db,E,G,vn,F,h⟩:=h;intro k p t B e n;by_cases j:L k
 ·rcases(h.cz k j).2 with⟨y,c,h1⟩|⟨u,D,C,h1,h2⟩
  ·rw[e]at h1;cases h1
  rw[e]at h1;cases h1;exact(h2.si (.inl n)).elim
 exact(l.block k (cj e) j).trans e
def EB{w w':Xa}(h:fI w lb s L)(e:eu L w w')(g:G w):G w':=by
 obtain⟨hb,db,p,y,vn,u,h⟩:=h;have j:Below 8 w w':=⟨e.os,e.tape,e.output,e.size,λk l=>e.block k (aw l g.size) (λn=>by have:=(h.cz k n).1;omega)⟩;exact g.below j (af _)
def cO.refl{w:Xa}(h:fI w lb s L):cO w lb L s w:=⟨L,h,λ_ h=>.inl h,λ_ h=>h,vh.refl _ _ _⟩
def cO.trans(h:cO a lb L s b)(C:∀L',fI b lb s L'->cO b lb L' s' c):cO a lb L s' c:=by
 obtain⟨L1,h1,h2,j,l⟩:=h;obtain⟨n,p,u,y,B⟩:=C L1 h1;refine⟨n,p,λk e=>?_,λk e=>y k (j k e),l.trans B h2 j⟩;rcases u k e with h|h
 ·exact h2 k h
 have:=l.size;exact .inr R5
def cO.below{w w':Xa}(h:fI w lb s L)(e:Xc w w'):cO w lb L s w':=by
 refine⟨L,h.st (λk j=>?_) (eO.below e),λ_ h=>.inl h,λ_ h=>h,vh.below e⟩;obtain⟨hb,db,l,p,vn,n,h⟩:=h;exact e.block k (h.lt j)
end
section
open Tryz
variable{B:Array Oper}{o:Oper}{a:Act}{K:Act->Xa->Prop}{Q:Exit->Act->Xa->Prop}{E:Prop}{k b p r:Nat}{cs:Array Xb}{fz:Nat×Nat}{l:List (a_×Xb)}{L:Nat->Prop}{ct:List (a_×bY.cC)}{v:Xb}{xs:List Xb}
def jn{P:Program}{w:Xa}(y:o.guard=none)(s x t u)(z:o.op=Op.call {callee:=Callee.builtin Builtin.append,args:=#[s,x],argTypes:=#[t,u]})(j m e w')(D:a.eval s=j)(hx:a.eval x=m)(C:(Builtin.append_ #[t,u] o.type #[j,m]).run P w=.ok e w')(n:K (a.put o.dst e) w'):if Region.wanted o (yielded B a.tmps)=true then Oper.wp P o a w K Q else E:=by
 have F:Region.wanted o (yielded B a.tmps)=true:=by simp[Region.wanted,y]
 rw[ag F];unfold Oper.wp;simp[execOp,z,resolve,invoke,builtin,D,hx,C,Result.andThen];exact n
def zn{P:Program}{w:Xa}(z:o.guard=none)(m x y t)(D:o.op=Op.mapUpdate t m x y)(e j n w')(C:a.eval m=e)(hx:a.eval x=j)(I:a.eval y=n)(F:(Instr.mapUpdate t e j n).run P w=.ok () w')(u:K (a.put o.dst undef) w'):if Region.wanted o (yielded B a.tmps)=true then Oper.wp P o a w K Q else E:=by
 have G:Region.wanted o (yielded B a.tmps)=true:=by simp[Region.wanted,z]
 rw[ag G];unfold Oper.wp;simp[execOp,D,C,hx,I,F,Result.andThen];exact u
def cW{P:Program}(w){rest:List Oper}(z:o.guard=none)(s x t u)(C:o.op=Op.call {callee:=Callee.builtin Builtin.append,args:=#[s,x],argTypes:=#[t,u]})(j m e w')(F:a.eval s=j)(hx:a.eval x=m)(D:(Builtin.append_ #[t,u] o.type #[j,m]).run P w=.ok e w')(n:wpList P B Q rest (a.put o.dst e) w'):wpList P B Q (o::rest) a w:=by
 refine wpList_plain z λG y=>?_;unfold Oper.wp;simp[execOp,C,resolve,invoke,builtin,F,hx,D,Result.andThen];exact y _ _ n
structure Tn(e0:TypeId)(w w':Xa)(row:Option Nat):Prop where
 g:w.grownBy w' row
 ty:∀b,row=some b->∃cs fz,w.1[b]?=some (.cells cs e0 fz)
def Tn.kept{e0:TypeId}{w w':Xa}{row:Option Nat}(h:Tn e0 w w' row){o:Obj}(j:w.1[k]?=some o)(m:∀cs fz,o≠.cells cs e0 fz):w'.1[k]?=some o:=by
 refine(h.g.block k (Rl.1 j).1 (λe=>?_)).trans j;obtain⟨cs,fz,h1⟩:=h.ty k e.symm;rw[j]at h1;cases h1;exact m _ _ rfl
def Tn.cells{e0:TypeId}{w w':Xa}{row:Option Nat}(h:Tn e0 w w' row){t:TypeId}(j:w.1[k]?=some (.cells cs t fz))(m:t≠e0):w'.1[k]?=some (.cells cs t fz) :=h.kept j (λ_ _ e=>by cases e;exact m rfl)
def Tn.stay{e0:TypeId}{w w':Xa}{row:Option Nat}(h:Tn e0 w w' row)(j:LT e0):eO w w' :=cT.stay (λk cs t fz m n=>h.cells m (λe=>j.si (.inl (e▸n))))
def Tn.map{e0:TypeId}{w w':Xa}{row:Option Nat}(h:Tn e0 w w' row)(j:fQ w b l):w'.1[b]?=w.1[b]? := by
 obtain⟨m,c,p⟩:=j.isMap;rw[h.kept p (λ_ _ e=>by cases e),p]
def jc.tn{e0:TypeId}{w w':Xa}{row:Option Nat}(h:jc w L p ct)(m:Tn e0 w w' row)(z:LT e0)(h1:e0≠124)(h2:e0≠131)(y:e0≠133):jc w' L p ct:=by
 have u:w'.1[p]?=w.1[p]? := by obtain⟨_,_,u,_⟩:=h;exact m.map u
 exact h.st u (λk _ cs fz n=>m.cells n h1.symm) (λk _ cs t fz n j=>m.cells n (λe=>by rcases j with j|j;exact h2 (e▸j);exact y (e▸j))) (m.stay z)
def je.tn{e0:TypeId}{w w':Xa}{row:Option Nat}{done:List (a_×bY.Wo)}(h:je w L r done)(j:Tn e0 w w' row)(m:LT e0):je w' L r done:=by
 have e:w'.1[r]?=w.1[r]? := by obtain⟨_,_,e,_⟩:=h;exact j.map e
 exact h.st e (j.stay m)
def jf{e0:TypeId}{w w':Xa}{row:Option Nat}{n size:Nat}{e:TypeId}(h:w.ownsRow 8 e size v n xs)(u:Tn e0 w w' row)(m:e≠e0):w'.ownsRow 8 e size v n xs :=cJ h (λg _ cs fz j=>u.cells j m)
def cE{w:Xa}{n size:Nat}{e:TypeId}(h:w.ownsRow 8 e size v n xs){g:Nat}(j:v.ownBlock=some g):∃cs fz,w.1[g]?=some (.cells cs e fz):=by
 rcases h.2 with⟨rfl,_⟩|⟨z,u,y,rfl,_,m,_⟩
 ·cases j
 cases j;exact⟨_,_,m⟩
def vk{e0:TypeId}{w w':Xa}{row:Option Nat}(h:∀k,L k->8<=k/\((∃j c,w.1[k]?=some (.map j c))\/∃cs t fz,w.1[k]?=some (.cells cs t fz)/\LT t))(n:Tn e0 w w' row)(D:LT e0)(G:∀b,row=some b->∃cs fz,w'.1[b]?=some (.cells cs e0 fz)):∀k,L k->8<=k/\((∃j c,w'.1[k]?=some (.map j c))\/∃cs t fz,w'.1[k]?=some (.cells cs t fz)/\LT t):=by
 intro k F;obtain⟨C,h1⟩:=h k F;refine⟨C,?_⟩;rcases h1 with⟨j,c,h1⟩|⟨cs,t,fz,h1,h2⟩
 ·exact .inl ⟨j,c,n.kept h1 (λ_ _ e=>by cases e)⟩
 by_cases m:row=some k
 ·obtain⟨u,y,z⟩:=G k m;exact .inr ⟨u,e0,y,z,D⟩
 exact .inr ⟨cs,t,fz,(n.g.block k (cj h1) (λe=>m e.symm)).trans h1,h2⟩
def gG{w:Xa}{t:TypeId}(h:w.1[b]?=some (.cells cs t fz))(i v):(w.setCell ⟨b,i,none⟩ v).1[b]?=some (.cells (cs.setIfInBounds i v) t fz):=by
 simp[World.setCell,Rq,h]
def zo{w:Xa}{t:TypeId}(h:w.1[b]?=some (.cells cs t fz))(i v):Tn t w (w.setCell ⟨b,i,none⟩ v) (some b) :=⟨dq (VQ w (some b)) i v,λe p=>by cases p;exact⟨_,_,h⟩⟩
def Ja:(prog.info? 5).map (λi=>(i.zero,i.size,i.bytes))=some (some (.int .u8 0),1,1):=S8
def A2(w ty v n xs)(D:w.ownsRow 8 5 1 v n xs)(s)(U:0<s.size)(X:n+s.size<=140737488355328)(V:8<=w.1.size):∃g z y,(Builtin.append_ #[106,9] ty #[v,.string s]).run prog w=.ok (.slice (some ⟨g,0,none⟩) (n+s.size) z) y/\y.ownsRow 8 5 1 (.slice (some ⟨g,0,none⟩) (n+s.size) z) (n+s.size) (xs++Lib.strCells s)/\w.grownBy y v.ownBlock/\(v.ownBlock=some g\/g=w.1.size)/\(∀b,v.ownBlock=some b->∃cs fz,y.1[b]?=some (.cells cs 5 fz)):=by
 obtain⟨G,C,P,R,S⟩:=VW Ja;obtain⟨v',y,F,O,Y,_⟩:=Lib.run_append_own_string (P:=prog) w 8 106 9 ty 5 G underlying106 underlying9 C P R S v n xs D s Th X V;obtain⟨g,z,rfl,_,ai⟩:=O.form R5;refine⟨g,z,y,F,O,Y,?_⟩;rcases D.2 with⟨rfl,rfl⟩|⟨M,I,T,rfl,aa,N,ak,ab,ad,am⟩
 ·have m:=run_append_nil_string (P:=prog) w 106 9 ty 5 G _ underlying106 underlying9 C P s U R5 (by rw[S];omega);rw[F]at m;injection m with e J
  injection e with e _ _
  injection e with e
  injection e with e
  exact⟨.inr e,λb p=>by cases p⟩
 by_cases Z:n+s.size<=I
 ·have m:=Lib.run_append_room_string (P:=prog) w 106 9 ty 5 G underlying106 underlying9 C R M n I T N s Z R5;rw[F]at m;injection m with e J
  injection e with e _ _
  injection e with e
  injection e with e
  subst e;exact⟨.inl rfl,λb p=>by cases p;exact cE O rfl⟩
 have holds:∀j u,xs[j]?=some u->w.cell? _=some u:=D.cells (g:=M) rfl;have m:=Lib.run_append_grow_string (P:=prog) w 106 9 ty 5 G _ underlying106 underlying9 C P ⟨M,0,none⟩ n I xs (by rw[R];exact D.1) holds s R5 R5 (by rw[S];exact growslice_fits R5 R5);rw[F]at m;injection m with e J
 injection e with e _ _
 injection e with e
 injection e with e
 refine⟨.inr e,λb p=>?_⟩;cases p;rw[J];exact⟨_,_,(heap_alloc_old w.drew _ (cj N)).trans N⟩
def iN{w:Xa}(t ty e z size bytes)(T:prog.underlying t=some (.slice e))(ao:(prog.info? e).map (λi=>(i.zero,i.size,i.bytes))=some (some z,size,bytes))(ax:z.cells.size=size)(av:0<size)(v n xs)(J:w.ownsRow 8 e size v n xs)(D c y)(hl:y.length=size)(R:∀j u,y[j]?=some u->w.cell? (D.add j)=some u)(h1:∀u∈y,u.oneCell'=true)(ak:(n+1)*bytes<=140737488355328)(X:n+1<=maxLen)(h8:8<=w.1.size):∃g I C,(Builtin.append_ #[t,t] ty #[v,.slice (some D) 1 c]).run prog w=.ok (.slice (some ⟨g,0,none⟩) (n+1) I) C/\C.ownsRow 8 e size (.slice (some ⟨g,0,none⟩) (n+1) I) (n+1) (xs++y)/\w.grownBy C v.ownBlock/\(v.ownBlock=some g\/g=w.1.size)/\(∀b,v.ownBlock=some b->∃cs fz,C.1[b]?=some (.cells cs e fz)):=by
 obtain⟨U,P,aa,G,ab⟩:=VW ao;obtain⟨g,I,C,S,Y,hg,ap,a0⟩:=run_append_lies (P:=prog) w t ty 8 e U z size bytes T P aa G ab ax av v n xs J D 1 c y R5 R h1 R5 X ak h8 _ rfl;refine⟨g,I,C,S,Y,hg,ap,?_⟩;rcases J.2 with⟨rfl,rfl⟩|⟨N,M,ai,rfl,ay,O,a2,aC,am,a3⟩
 ·exact λb p=>by cases p
 intro b p;cases p;by_cases Z:n+1<=M
 ·have F:=V0 (P:=prog) w t ty e U T P N n M ai O D 1 c y (by rw[G];omega) R h1 Z (by
   rw[G,hl,am];have:=Rt size Z;rw[SU,Nat.one_mul]at this;exact this)
  rw[S]at F;injection F with m V
  injection m with m _ _
  injection m with m
  injection m with m
  subst m;exact cE Y rfl
 have holds:∀j u,xs[j]?=some u->w.cell? _=some u:=J.cells (g:=N) rfl;have F:=run_append_grow (P:=prog) w t ty e U z T P aa ⟨N,0,none⟩ n M xs (by rw[G];exact J.1) holds D 1 c y (by rw[G];omega) R R5 (by simp only[maxLen]at X;omega) (by rw[ab];exact growslice_fits R5 R5);rw[S]at F;injection F with m V
 rw[V];exact⟨_,_,(heap_alloc_old w.drew _ (cj O)).trans O⟩
def eB(e)(t:a_):dc (e++[t])=dc e++bY.line t:=by
 simp[dc]
def tK(a b:a_):Lib.strCells ⟨a.toArray⟩++Lib.strCells ⟨b.toArray⟩=Lib.strCells ⟨(a++b).toArray⟩:=by
 simp[Lib.strCells]
def LP.turned{w w1:Xa}{I:Nat}{s s':bY.LS}{vb vr vn vj y u D C:Xb}(h:LP w I s L p r vb vr vn vj)(e0 row)(m:Tn e0 w w1 row)(F:LT e0)(h1:e0≠108)(h2:e0≠124)(P:e0≠131)(R:e0≠133)(X:∀b,row=some b->L b/\∃cs fz,w1.1[b]?=some (.cells cs e0 fz))(z:Nat->Prop)(S:∀k,z k->w.1.size<=k/\∃cs fz,w1.1[k]?=some (.cells cs e0 fz))(g:G w)(i v)(am:(#[.map (some p),.map (some r),vb,vr,vn,vj]:Array Xb).setIfInBounds i v=#[.map (some p),.map (some r),y,u,D,C])(ad:s'.ct=s.ct)(ab:s'.done=s.done)(r1:dX w1 y s'.cm)(r2:dX w1 u s'.cY)(r3:w1.ownsRow 8 61 6 D s'.du.length (s'.du.flatMap dm))(r4:w1.ownsRow 8 5 1 C (dc s'.jr).length (Lib.strCells ⟨(dc s'.jr).toArray⟩))(ai:∀k,y.ownBlock=some k\/u.ownBlock=some k\/D.ownBlock=some k\/C.ownBlock=some k->L k\/z k)(aa:∀k,y.ownBlock=some k->u.ownBlock≠some k)(ak:s'.cY=[]->u=.slice none 0 0):cO w I L s' (w1.setCell ⟨I,i,none⟩ v):=by
 have J:LT 108:=.inl rfl;have T:=m.cells h.eb h1.symm;have n:=zo T i v;have M:=gG T i v;rw[am]at M;have N:∀k,L k->L k\/z k:=λk j=>.inl j;have V:LP _ I s' (λk=>L k\/z k) p r y u D C:={
   eb:=M
   here:=.inl h.here
   ne:=h.ne
   ct:=by rw[ad];exact((h.ct.tn m F h2 P R).tn n J S4 S4 S4).mono N
   done:=by rw[ab];exact((h.done.tn m F).tn n J).mono N
   cm:=jf r1 n S4
   cY:=jf r2 n S4
   du:=jf r3 n S4
   jr:=jf r4 n S4
   dQ:=ai
   apart:=aa
   oS:=ak
   cz:=vk (λk j=>by
    rcases j with j|j
    ·exact vk h.cz m F (λb p=>(X b p).2) k j
    ·obtain⟨h5,cs,fz,h6⟩:=S k j;exact⟨ah g.size h5,.inr ⟨cs,e0,fz,h6,F⟩⟩) n J (λb p=>by cases p;exact⟨_,_,M⟩)}
 have f1:eu L w w1:=by
  refine⟨m.g.os,m.g.tape,m.g.output,m.g.size,λk j hn=>m.g.block k j (λe=>hn (X k e.symm).1)⟩
 refine⟨λk=>L k\/z k,⟨p,r,y,u,D,C,V⟩,λk j=>by rcases j with j|j;exact .inl j;exact .inr (S k j).1,N,h.I_ V (f1.trans (eu.grown n.g h.here) (λk j=>.inl j)) (λk j cs t fz hc U=>n.cells (m.cells hc ?_) ?_) ?_⟩
 ·rcases U with rfl|rfl
  ·exact P.symm
  exact R.symm
 ·rcases U with rfl|rfl<;>decide
 obtain⟨hp,q1,Y,_⟩:=h.ct;have O:=m.map Y;obtain⟨es,cc,Z⟩:=Y.isMap;rw[Z]at O;rw[n.kept O (λ_ _ e=>by cases e),Z]
def LP.write{w w1:Xa}{y:Nat}{s:bY.LS}{L:Nat->Prop}{p r:Nat}{J M vn m:Xb}(h:LP w y s L p r J M vn m)(D:G w){g z n:Nat}(t:a_)(F:w.grownBy w1 m.ownBlock)
  (I:n=(dc (s.jr++[t])).length) (C:w1.ownsRow 8 5 1 (.slice (some ⟨g,0,none⟩) n z) n (Lib.strCells ⟨(dc (s.jr++[t])).toArray⟩)) (j:m.ownBlock=some g\/g=w.1.size) (hold:∀b,m.ownBlock=some b->∃cs fz,w1.1[b]?=some (.cells cs 5 fz)) :
  cO w y L (s.write t) (w1.setCell ⟨y,5,none⟩ (.slice (some ⟨g,0,none⟩) n z)):=by
 subst I;have u:Tn 5 w w1 _:=⟨F,λb p=>cE h.jr p⟩;refine h.turned 5 m.ownBlock u (.inr (.inr (.inr (.inl rfl)))) S4 S4 S4 S4 (λb p=>⟨h.dQ b (.inr (.inr (.inr p))),hold b p⟩) (λk=>k=g/\g=w.1.size) (λk e=>?_) D 5 _ rfl rfl rfl (jf h.cm u S4) (jf h.cY u S4) (jf h.du u S4) C (λk e=>?_) h.apart h.oS
 ·obtain⟨rfl,h1⟩:=e;exact⟨by omega,cE C rfl⟩
 rcases e with e|e|e|e
 ·exact .inl (h.dQ k (.inl e))
 ·exact .inl (h.dQ k (.inr (.inl e)))
 ·exact .inl (h.dQ k (.inr (.inr (.inl e))))
 cases e;rcases j with j|j
 ·exact .inl (h.dQ _ (.inr (.inr (.inr j))))
 exact .inr ⟨rfl,j⟩
end
section
open bY
open Tryz
namespace Ref
def pv:Option Int->Xb
 |some i=>.tuple #[.int .i64 i,.bool true]
 |none=>.tuple #[.int .i64 0,.bool false]
def F_:a_:=[45,57,50,50,51,51,55,50,48,51,54,56,53,52,55,55,53,56,48,56]
def ED:Lib.itoa (-9223372036854775808)=F_:=by decide +kernel
def qz(s w)(I:s.size<=20000000):Calls prog 193 #[.string s] w λe u=>e=.returned (pv (d_ s.1.1))/\u=w:=by
 rw[<-FO];have D:s.1.1.length=s.size:=by rw[VO]
 by_cases l:1<s.1.1.length/\s.1.1.head?=some 45
 ·have h1:(1:Int)<(s.size:Int):=by have:=l.1;omega
  have z:0<s.size:=R5;have G:((s[0].toNat:Int)==45)=true:=by
   have:s[0]=45:=by
    have h2:=l.2;rw[RZ,byte_at s 0 z]at h2;exact aB h2
   rw[this];rfl
  by_cases r:s.1.1=F_
  ·have m:jd s.1.1=some (-9223372036854775808):=by
    unfold jd;rw[ag l,ag (by rw[ED];exact r)]
   rw[m];have B:(s.toList==F_)=true:=by rw[VP,r];rfl
   unfold F_ at B;clear m r l;go_enter func193,ntmps193;go_wp2;go_ret2;exact⟨rfl,rfl⟩
  have B:(s.toList==F_)=false:=by rw[VP];simpa using r
  unfold F_ at B;have hx:(s.extract 1 s.size).1.1=s.1.1.drop 1:=by
   rw[VV];exact Ri (by rw[aV,D];omega)
  have j:=bZ (eJ (s.extract 1 s.size) w (by rw[VO,hx,aV,D];omega));rw[hx]at j;have m:jd s.1.1=match dO (s.1.1.drop 1) with|some n=>if 0<n then some (-(n:Int))else none|none=>none:=by
   unfold jd;rw[ag l,ae (by rw[ED];exact r)];cases dO (s.1.1.drop 1)<;>rfl
  rw[m];cases hd:dO (s.1.1.drop 1) with
  |none =>
   rw[hd]at j;unfold gK at j;clear m r l hx hd;go_enter func193,ntmps193;go_wp2_with fail;refine b_ j.Z λu p=>?_;obtain rfl:=p;dsimp only;go_wp2;go_ret2;exact⟨rfl,rfl⟩
  |some n =>
   have L:=(mh hd).2;have M:(n:Int)<=9223372036854775807:=R5;rw[hd]at j;unfold gK at j;clear m r l hx hd;by_cases E:0<n
   ·have K:(0:Int)<(n:Int):=R5;simp only[E,aO];go_enter func193,ntmps193;go_wp2_with fail;refine b_ j.Z λu p=>?_;obtain rfl:=p;dsimp only;go_wp2;go_ret2;exact⟨rfl,rfl⟩
   obtain rfl:n=0:=R5;go_enter func193,ntmps193;go_wp2_with fail;refine b_ j.Z λu p=>?_;obtain rfl:=p;dsimp only;go_wp2;go_ret2;exact⟨rfl,rfl⟩
 have m:jd s.1.1=(dO s.1.1).map λn=>(n:Int):=by
  unfold jd;rw[ae l]
 have j:=bZ (eJ s w I);have C:gK (dO s.1.1)=pv (jd s.1.1):=by
  rw[m];cases dO s.1.1<;>rfl
 rw[C]at j;have y:∃(i:Int) (b:Bool),pv (jd s.1.1)=.tuple #[.int .i64 i,.bool b]:=by
  cases jd s.1.1<;>exact⟨_,_,rfl⟩
 obtain⟨i,b,y⟩:=y;rw[y]at j ⊢;by_cases h1:1<s.size
 ·have F:(1:Int)<(s.size:Int):=R5;have z:0<s.size:=R5;have G:((s[0].toNat:Int)==45)=false:=by
   have h2:s[0]≠45:=λe=>l ⟨by omega,by rw[RZ,byte_at s 0 z,e]⟩;have J:¬s[0].toNat=45:=λe=>h2 (Rp.1 e);simp;omega
  clear m C y l;go_enter func193,ntmps193;go_wp2_with fail;refine b_ j.Z λu p=>?_;obtain rfl:=p;dsimp only;go_wp2;go_ret2;exact⟨rfl,rfl⟩
 have F:¬(1:Int)<(s.size:Int):=R5;clear m C y l;go_enter func193,ntmps193;go_wp2_with fail;refine b_ j.Z λu p=>?_;obtain rfl:=p;dsimp only;go_wp2;go_ret2;exact⟨rfl,rfl⟩
end Ref
namespace Ref
variable{v:Xb}{l:List (a_)}{o:Option Addr}{i:Nat}{x:a_}
def qA:(prog.info? 9).map (λi=>(i.zero,i.size,i.bytes))=some (some (.string ⟨#[]⟩),1,16):=S8
structure iY(w0 w:Xa)(v:Xb)(l:List (a_)):Prop where
 row:w.ownsRow 8 9 1 v l.length (l.map str)
 new:∀g,v.ownBlock=some g->w0.1.size<=g
 eD:Xc w0 w
theorem iY.nil(w):iY w w (.slice none 0 0) []:=⟨⟨rfl,.inl ⟨rfl,rfl⟩⟩,(λg b=>by cases b),VM _ _⟩
def iY.below{w0 w w':Xa}(h:iY w0 w v l)(b:Xc w w'):iY w0 w' v l :=⟨cJ h.row (λg n j m e=>(b.block g (cj e)).trans e),h.new,h.eD.trans (b.mono h.eD.size)⟩
theorem iY.form{w0 w:Xa}(h:iY w0 w v l):∃o c,v=.slice o l.length c:=by
 rcases h.row.2 with⟨e,m⟩|⟨g,b,j,e,_⟩
 ·grind
 grind
theorem iY.cell{w0 w:Xa}{n c:Nat}(h:iY w0 w (.slice o n c) l)(hx:l[i]?=some x):∃g,o=some ⟨g,0,none⟩/\g<w.1.size/\w.cell? ⟨g,i,none⟩=some (str x):=by
 rcases h.row.2 with⟨_,p⟩|⟨g,j,m,e,_,b,_⟩
 ·grind
 cases e;refine⟨g,rfl,cj b,?_⟩;have:=V7 h.row (g:=g) rfl i (str x) (by rw[Q6,hx];rfl)
 grind [addr_add]
def iY.push{w0 w:Xa}(h:iY w0 w v l)(z:8<=w0.1.size)(x)(F:l.length<=100000000):∃g p n,(Builtin.append_ #[40,40] 40 #[v,.slice (some ⟨w.1.size,0,none⟩) 1 1]).run prog (w.alloc (.cells #[.string x] 9))=.ok (.slice (some ⟨g,0,none⟩) (l.length+1) p) n/\iY w0 n (.slice (some ⟨g,0,none⟩) (l.length+1) p) (l++[x.1.1]):=by
 have B:Xc w (w.alloc (.cells #[.string x] 9)):=(VM _ w).alloc (af _) _;have h1:=h.below B;have C:=heap_alloc_new w (.cells #[.string x] 9);obtain⟨g,p,n,E,D,b,m,hold⟩:=iN 40 40 9 _ 1 16 underlying40 qA rfl S4 v l.length (l.map str) h1.row ⟨w.1.size,0,none⟩ 1 [.string x] rfl (λj u r=>by
  rw[addr_add,aG];simp only[World.cell?,C]
  match j,r with
  |0,r=>simp at r;rw[<-r];rfl) (λu hu=>by
  simp at hu;rw[hu];rfl) R5 Th (ah z h1.eD.size)
 refine⟨g,p,n,E,?_,λk y=>?_,?_⟩
 ·rw[aj,aZ];show n.ownsRow 8 9 1 _ (l.length+1) (l.map str++[str x.1.1]);rw[dG];exact D
 ·cases y;rcases m with m|m
  ·exact h.new _ m
  rw[m];exact h1.eD.size
 exact⟨b.os.trans h1.eD.os,b.tape.trans h1.eD.tape,b.output.trans h1.eD.output,ah h1.eD.size b.size,λk y=>(b.block k (aw y h1.eD.size) (λe=>by have:=h.new k e.symm;omega)).trans (h1.eD.block k y)⟩
def Jb(s:ba){f:Nat}(b:f<=i)(hi:i<s.size):(s.1.1.take (i+1)).drop f=(s.1.1.take i).drop f++[s[i]]:=by
 rw[Sf,byte_at s i hi];rw[TM (by rw[Rf,<-VO];omega)];rfl
theorem Ga(s:ba)(hi:i<s.size):s.1.1.drop i=s[i]::s.1.1.drop (i+1):=by
 have b:i<s.1.1.length:=by simp_all
 rw[aU b];have:=byte_at s i hi
 grind
theorem A3(c d:UInt8):((c.toNat)==(d.toNat:Int))=decide (c=d):=by
 by_cases h:c=d
 ·grind
 have:¬c.toNat=d.toNat:=λe=>h (Rp.1 e)
 grind
def C'(s w)(S:8<=w.1.size)(hs:s.size<=20000000):Calls prog 232 #[.string s] w λe w'=>∃v,e=.returned v/\iY w w' v (gd s.1.1):=by
 have ad:s.1.1.length=s.size:=by rw[VO]
 cases M:s.toList.isEmpty with
 |true =>
  have hd:s.1.1=[]:=by rw[<-VP];exact List.isEmpty_iff.1 M
  have E:gd s.1.1=[]:=by rw[hd];rfl
  rw[E];clear E hd ad;go_enter func232,ntmps232;go_wp2;go_ret;exact⟨_,rfl,iY.nil w⟩
 |false =>
  have hd:s.1.1≠[]:=λe=>by rw[VP,e]at M;cases M
  have E:gd s.1.1=me s.1.1 [] 0 false []:=by unfold gd;rw[ae hd]
  rw[E];have K:Hid (me (s.1.1.drop 0) ((s.1.1.take 0).drop 0) 0 false []=me s.1.1 [] 0 false []):=bZ rfl;generalize me s.1.1 [] 0 false []=R at K;have P:Hid (iY w w (.slice none 0 0) []):=bZ (iY.nil w);clear E hd;go_enter func232,ntmps232;go_wp2
  go_loopw [3,4,5,6,7] (λlv Z Y qv O wr=>∃(i f:Nat) (d:Int) (q:Bool) (j:List (a_)) (o:Option Addr) (c:Nat),i<=s.size/\f<=i/\-(i:Int)<=d/\d<=(i:Int)/\j.length<=i/\lv=.slice o j.length c/\Z=.int .i64 f/\Y=.int .i64 d/\qv=.bool q/\O=.int .i64 i/\Hid (iY w wr (.slice o j.length c) j)/\Hid (me (s.1.1.drop i) ((s.1.1.take i).drop f) d q j=R)) (λ_ _ _ _ O _=>s.size-(intOf O).toNat)
  case atStart=>exact⟨0,0,0,false,[],none,0,ar _,af _,by omega,by omega,af _,rfl,rfl,rfl,rfl,rfl,P,K⟩
  case round =>
   obtain⟨i,f,d,q,j,o,c,hi,hf,ak,am,ai,rfl,rfl,rfl,rfl,rfl,r,G⟩:=hrel;clear K P;by_cases T:i<s.size
   ·have ab:(i:Int)<(s.size:Int):=R5;have z:=Ga s T;have n:=Jb s hf T;have b:=G.Z;rw[z,me]at b;have Q:((s[i].toNat:Int)==39)=decide (s[i]=39):=A3 s[i] 39;have J:((s[i].toNat:Int)==123)=decide (s[i]=123):=A3 s[i] 123;have D:((s[i].toNat:Int)==125)=decide (s[i]=125):=A3 s[i] 125;have C:((s[i].toNat:Int)==44)=decide (s[i]=44):=A3 s[i] 44;clear G;by_cases p:s[i]=39
    ·rw[ag p,<-n]at b;rw[aQ p]at Q;have m:=bZ b;clear b z n J D C p;go_wp2;refine⟨⟨i+1,f,d,!q,j,o,c,by omega,by omega,by omega,by omega,by omega,rfl,rfl,rfl,rfl,by go_num,r,m⟩,?_⟩;simp[intOf];omega
    rw[ae p]at b;rw[aN p]at Q;cases q with
    |true =>
     rw[ag rfl,<-n]at b;have m:=bZ b;clear b z n J D C p;go_wp2;refine⟨⟨i+1,f,d,true,j,o,c,by omega,by omega,by omega,by omega,by omega,rfl,rfl,rfl,rfl,by go_num,r,m⟩,?_⟩;simp[intOf];omega
    |false =>
     rw[ae S5]at b;by_cases u:s[i]=123
     ·rw[ag u,<-n]at b;rw[aQ u]at J;have m:=bZ b;clear b z n D C p u;go_wp2;refine⟨⟨i+1,f,d+1,false,j,o,c,by omega,by omega,by omega,by omega,by omega,rfl,rfl,rfl,rfl,by go_num,r,m⟩,?_⟩;simp[intOf];omega
     rw[ae u]at b;rw[aN u]at J;by_cases y:s[i]=125
     ·rw[ag y,<-n]at b;rw[aQ y]at D;have m:=bZ b;clear b z n C p u y;go_wp2;refine⟨⟨i+1,f,d-1,false,j,o,c,by omega,by omega,by omega,by omega,by omega,rfl,rfl,rfl,rfl,by go_num,r,m⟩,?_⟩;simp[intOf];omega
     rw[ae y]at b;rw[aN y]at D;by_cases B:s[i]=44
     ·rw[aQ B]at C;by_cases L:d=0
      ·subst L;rw[ag ⟨B,rfl⟩]at b;have hx:(s.extract f i).1.1=(s.1.1.take i).drop f:=by rw[VV,List.drop_take]
       obtain⟨g,I,w3,N,F⟩:=r.Z.push S (s.extract f i) R5;have U:(s.1.1.take (i+1)).drop (i+1)=[]:=aT T7;rw[<-U,<-hx]at b;have m:=bZ b;have X:Hid (iY w w3 (.slice (some ⟨g,0,none⟩) (j++[(s.extract f i).1.1]).length I) (j++[(s.extract f i).1.1])):=bZ (by rw[aj];exact F);have aa:(f:Int)<=(i:Int):=R5;clear b z n p u y B hx U F r;go_wp2_with(at_builtin;refine cW _ rfl _ _ _ _ rfl _ _ _ _ rfl rfl N ?_);refine⟨⟨i+1,i+1,0,false,_,some ⟨g,0,none⟩,I,by omega,by omega,by omega,by omega,?_,?_,by go_num,rfl,rfl,by go_num,X,m⟩,?_⟩
       ·rw[aj,aD];omega
       ·rw[aj,aD]
       simp[intOf];omega
      have ao:(d==0)=false:=T5;rw[ae (λh=>L h.2),<-n]at b;have m:=bZ b;clear b z n p u y B;go_wp2;refine⟨⟨i+1,f,d,false,j,o,c,by omega,by omega,by omega,by omega,by omega,rfl,rfl,rfl,rfl,by go_num,r,m⟩,?_⟩;simp[intOf];omega
     rw[aN B]at C;rw[ae (λh=>B h.1),<-n]at b;have m:=bZ b;clear b z n p u y B;go_wp2;refine⟨⟨i+1,f,d,false,j,o,c,by omega,by omega,by omega,by omega,by omega,rfl,rfl,rfl,rfl,by go_num,r,m⟩,?_⟩;simp[intOf];omega
   obtain rfl:i=s.size:=R5;have ab:¬(s.size:Int)<(s.size:Int):=R5;have b:=G.Z;rw[aT R5,me]at b;have hx:(s.extract f s.size).1.1=(s.1.1.take s.size).drop f:=by rw[VV,List.drop_take]
   rw[<-hx]at b;obtain⟨g,I,w3,N,F⟩:=r.Z.push S (s.extract f s.size) R5;have V:Hid (iY w w3 (.slice (some ⟨g,0,none⟩) (j.length+1) I) R):=bZ (by rw[<-b];exact F);have aa:(f:Int)<=(s.size:Int):=R5;clear G b hx F r;go_wp2_with(at_builtin;refine cW _ rfl _ _ _ _ rfl _ _ _ _ rfl rfl N ?_);go_ret;exact⟨_,rfl,V.Z⟩
end Ref
end
section
open Tryz
variable{s:bY.LS}{L:Nat->Prop}
def jK(t:a_):(bY.line t).length=t.length+10:=by
 simp[bY.line,bY.xg]
def jY.below{B:Nat}{w w':Xa}(h:jY w)(b:Below B w w')(e:8<=B):jY w':=by
 unfold jY at h ⊢;rw[<-h];exact VS (b.block _ (by show 7<_;omega))
def zA{w w':Xa}{m:Nat}(h:fI w m s L)(b:eu L w w')(g:G w)(hd:jY w):jY w':=by
 obtain⟨p,n,r,y,vn,u,h⟩:=h;have e:Below 8 w w':=⟨b.os,b.tape,b.output,b.size,λk j=>b.block k (aw j g.size) (λl=>by have:=(h.cz k l).1;omega)⟩;exact hd.below e (af _)
def pT(w m s L)(t:ba)(h:fI w m s L)(g:G w)(hd:jY w)(ht:t.size<=140737488355328)(hj:(dc (s.jr++[t.1.1])).length<=140737488355328):Calls prog 59 #[ptr m,.string t] w λe w'=>e=.returned (.tuple #[])/\cO w m L (s.write t.1.1) w':=by
 obtain⟨N,X,vb,vr,vn,y,h⟩:=h;have J:w.cell? ⟨m,5,none⟩=some y:=cr h.eb rfl;have Z:m<w.1.size:=cj h.eb;have T:=λ(U:Xa) (l:Xc w U)=>L8 t U ht (hd.below l g.size) (ah g.size l.size);have Q:∀(n:Xa),Xc w n->∃B z r,(Builtin.append_ #[106,9] 106 #[y,str (bY.line t.1.1)]).run prog n=.ok (.slice (some ⟨B,0,none⟩) (dc (s.jr++[t.1.1])).length z) r/\(∃v,r.cell? ⟨m,5,none⟩=some v)/\r.frozen? ⟨m,5,none⟩=false/\cO w m L (s.write t.1.1) (r.setCell ⟨m,5,none⟩ (.slice (some ⟨B,0,none⟩) (dc (s.jr++[t.1.1])).length z)):=by
  intro n l;have h1:LP n m s L N X vb vr vn y:=h.st (λk u=>l.block k (h.lt u)) (eO.below l);have aa:(⟨(bY.line t.1.1).toArray⟩:ba).size=(bY.line t.1.1).length:=by show(bY.line t.1.1).toArray.size=_;simp
  have hlen:(dc (s.jr++[t.1.1])).length=(dc s.jr).length+(⟨(bY.line t.1.1).toArray⟩:ba).size:=by rw[eB,aj,aa]
  have ab:=jK t.1.1;obtain⟨B,z,r,p,S,R,Y,hold⟩:=A2 n 106 y _ _ h1.jr ⟨(bY.line t.1.1).toArray⟩ R5 R5 (ah g.size l.size);rw[tK,<-eB,<-hlen]at S;rw[<-hlen]at p;have P:=(Tn.mk (e0:=5) R (λb N=>cE h1.jr N)).cells h1.eb S4;refine⟨B,z,r,p,⟨y,by simp[World.cell?,P]⟩,by simp[World.frozen?,P],?_⟩;obtain⟨V,k1,k2,k3,k4⟩:=h1.write (g.below l g.size) t.1.1 R rfl S Y hold;refine⟨V,k1,λk u=>?_,k3,(vh.below l).trans k4 (λk u=>.inl u) (λk u=>u)⟩;rcases k2 k u with h|h
  ·exact .inl h
  have:=l.size;exact .inr R5
 have I:=bZ T;have F:=bZ Q;clear T Q h;unfold ptr;go_enter func59,ntmps59;go_wp2_with fail;refine wp_region_held_drew (S:=λ_=>True) S8 trivial (λhHeld=>?_);refine dP 0 rfl trivial ?_;simp only[Act.put,au,Xd,Xe];refine dP 1 rfl trivial ?_;simp only[Act.put,au,Xd,Xe];refine dP 2 rfl trivial ?_;simp only[Act.put,au,Xd,Xe];refine dP 3 rfl trivial ?_;simp only[Act.put,au,Xd,Xe];refine dP 5 rfl trivial ?_;simp only[Act.put,au,Xd,Xe];have C:Xc w w.drew:=(VM _ w).drew;have d5:w.drew.cell? ⟨m,5,none⟩=some y:=J;refine wpAnyH_ready (rs:=[4,6]) S8 S5 ?_;refine AllReadyH.cons rfl (λK j=>?_) (AllReadyH.cons rfl (λK j=>?_) AllReadyH.nil)
 ·go_simp;refine j.out _ _ trivial (λ_=>?_);clear j;refine wpAnyH_ready (rs:=[6]) S8 S5 ?_;refine AllReadyH.cons rfl (λK j=>?_) AllReadyH.nil;go_simp;refine b_ (I.Z _ C) λn D=>?_;have l:Xc w n:=C.trans (D.mono S5);refine j.out _ _ trivial (λ_=>?_);clear j
  try clear O
  clear d5;obtain⟨B,z,r,p,⟨v,hv⟩,hz,E⟩:=F.Z n l;have M:=bZ E;clear E F I hHeld D l C J;refine wpAnyH_ready (rs:=[7]) S8 S5 ?_;refine AllReadyH.cons rfl (λK j=>?_) AllReadyH.nil;refine jn rfl (.tmp 8) (.tmp 10) 106 9 rfl _ _ _ _ rfl rfl p ?_;simp only[Act.put,au,Xd,Xe];refine j.out _ _ trivial (λ_=>?_);clear j p;refine wpAnyH_ready (rs:=[8]) S8 S5 ?_;refine AllReadyH.cons rfl (λK j=>?_) AllReadyH.nil;go_simp;refine j.out _ _ trivial (λ_=>?_);clear j;refine wpAnyH_ready (rs:=[9]) S8 S5 ?_;refine AllReadyH.cons rfl (λK j=>?_) AllReadyH.nil;go_simp;refine j.out _ _ trivial (λ_=>?_);clear j;refine wpAnyH_ready (rs:=[10]) S8 S5 ?_;refine AllReadyH.cons rfl (λK j=>?_) AllReadyH.nil;go_simp;refine j.out _ _ trivial (λ_=>?_);clear j;refine wpAnyH_done S8 ?_ _;go_wp2
  go_end0
  exact⟨rfl,M.Z⟩
 go_simp;refine b_ (I.Z _ C) λn D=>?_;have l:Xc w n:=C.trans (D.mono S5);have O:n.cell? ⟨m,5,none⟩=some y:=(l.cell (p:=⟨m,5,none⟩) Z).trans J;refine j.out _ _ trivial (λ_=>?_);clear j;refine wpAnyH_ready (rs:=[4]) S8 S5 ?_;refine AllReadyH.cons rfl (λK j=>?_) AllReadyH.nil;go_simp;refine j.out _ _ trivial (λ_=>?_);clear j
 try clear O
 clear d5;obtain⟨B,z,r,p,⟨v,hv⟩,hz,E⟩:=F.Z n l;have M:=bZ E;clear E F I hHeld D l C J;refine wpAnyH_ready (rs:=[7]) S8 S5 ?_;refine AllReadyH.cons rfl (λK j=>?_) AllReadyH.nil;refine jn rfl (.tmp 8) (.tmp 10) 106 9 rfl _ _ _ _ rfl rfl p ?_;simp only[Act.put,au,Xd,Xe];refine j.out _ _ trivial (λ_=>?_);clear j p;refine wpAnyH_ready (rs:=[8]) S8 S5 ?_;refine AllReadyH.cons rfl (λK j=>?_) AllReadyH.nil;go_simp;refine j.out _ _ trivial (λ_=>?_);clear j;refine wpAnyH_ready (rs:=[9]) S8 S5 ?_;refine AllReadyH.cons rfl (λK j=>?_) AllReadyH.nil;go_simp;refine j.out _ _ trivial (λ_=>?_);clear j;refine wpAnyH_ready (rs:=[10]) S8 S5 ?_;refine AllReadyH.cons rfl (λK j=>?_) AllReadyH.nil;go_simp;refine j.out _ _ trivial (λ_=>?_);clear j;refine wpAnyH_done S8 ?_ _;go_wp2
 go_end0
 exact⟨rfl,M.Z⟩
end
section
open Tryz
def N4:(prog.info? 188).map (·.size)=some 2:=S8
def PJ:liesAt prog prog.depth 188 (2 / prog.cellsOf 188) 0 188 1=true:=S8
def vG(w b)(n:w.cell? ⟨b,0,none⟩=some (.pointer (some ⟨b,0,none⟩))):Calls prog 139 #[.pointer (some ⟨b,0,none⟩)] w λe m=>e=.returned (.tuple #[])/\m=w:=by
 obtain⟨j,l,_⟩:=SB.1 N4;go_enter func139,ntmps139;go_wp2;rw[Lib.run_neq_ptr_same w _ underlying186 l];go_wp2
 go_end0
 exact⟨rfl,rfl⟩
def xp(w b)(r:w.cell? ⟨b,0,none⟩=some (.pointer none))(m:w.shape? b=some (188,2))(u:w.frozen? ⟨b,0,none⟩=false):Calls prog 139 #[.pointer (some ⟨b,0,none⟩)] w λe p=>e=.returned (.tuple #[])/\p=w.setCell ⟨b,0,none⟩ (.pointer (some ⟨b,0,none⟩)):=by
 obtain⟨j,l,n⟩:=SB.1 N4;go_enter func139,ntmps139;go_wp2;rw[Lib.run_to_unsafe w ⟨b,0,none⟩ underlying186 underlying274 l (by rw[n];decide) m _];simp only[Result.andThen];rw[Oper.upon_value];go_wp2;rw[run_callFunc_extern func188 S8 S8 S8 (e:=Extern.AbiNoEscape.same) S8];rw[Lib.run_noEscape];simp only[Result.andThen];rw[Oper.upon_value];go_wp2;rw[Lib.run_from_unsafe w ⟨b,0,none⟩ underlying274 underlying186 l m PJ];simp only[Result.andThen];rw[Oper.upon_value];go_wp2
 go_end0
 exact⟨rfl,rfl⟩
def Hr(B b:Nat)(l:a_)(w:Xa):Prop:=Lib.IsBuilder 188 5 B b (Lib.byteCells l) w
def xr(B b l w)(h:Hr B b l w):Calls prog 139 #[.pointer (some ⟨b,0,none⟩)] w λe j=>e=.returned (.tuple #[])/\(Lib.BuilderAt 188 5 B b (.pointer (some ⟨b,0,none⟩)) (Lib.byteCells l) j/\Below B w j/\∀k,k≠b->j.1[k]?=w.1[k]?):=by
 rcases h with h|h
 ·refine(xp w b h.cell0 h.shape h.frozen0).mono ?_;rintro e j⟨rfl,rfl⟩;exact⟨rfl,h.used _,(VM B w).setCell (p:=⟨b,0,none⟩) h.1 _,λk m=>VX w ⟨b,0,none⟩ _ k m⟩
 refine dL (vG w b h.cell0) ?_;exact⟨rfl,h,VM B _,λ_ _=>rfl⟩
def oK(B b l s w)(h:Hr B b l w)(h0:0<s.size)(hlen:l.length+s.size<=140737488355328)(h8:8<=B)(O:B<=w.1.size):Calls prog 95 #[.pointer (some ⟨b,0,none⟩),.string s] w λe L=>e=.returned (.tuple #[.int .i64 s.size,.nilIface])/\Hr B b (l++s.1.1) L/\Below B w L/\∀k r t y,w.1[k]?=some (.cells r t y)->t≠5->k≠b->L.1[k]?=some (.cells r t y):=by
 have hcell:∀l:a_,(Lib.byteCells l).length=l.length:=λl=>by simp[Lib.byteCells]
 have aa:∀j,Lib.BuilderAt 188 5 B b (.pointer (some ⟨b,0,none⟩)) (Lib.byteCells l) j->Below B w j->(∀k,k≠b->j.1[k]?=w.1[k]?)->∃v p m,j.cell? ⟨b,1,none⟩=some v/\(Builtin.append_ #[106,9] 106 #[v,.string s]).run prog j=.ok p m/\(∃g n c,p=.slice (some g) n c)/\(∃u,m.cell? ⟨b,1,none⟩=some u)/\m.frozen? ⟨b,1,none⟩=false/\Hr B b (l++s.1.1) (m.setCell ⟨b,1,none⟩ p)/\Below B w (m.setCell ⟨b,1,none⟩ p)/\∀(k:Nat) (r:Array Xb) (t:TypeId) (y:Nat×Nat),w.1[k]?=some (.cells r t y)->t≠5->k≠b->(m.setCell ⟨b,1,none⟩ p).1[k]?=some (.cells r t y):=by
  rintro j⟨N,v,E,J,ai⟩ C am;obtain⟨i0,ab,ao,ap,av⟩:=VW Ja;obtain⟨p,m,K,I,F,_⟩:=Lib.run_append_own_string (P:=prog) j B 106 9 106 5 i0 underlying106 underlying9 ab ao ap av v _ _ J s (by rw[hcell];unfold maxLen;omega) (by rw[hcell];omega) (ah O C.size);have D:=(F.block b (cj E) (λe=>ai e.symm)).trans E;have Z:Lib.byteCells l++Lib.strCells s=Lib.byteCells (l++s.1.1):=by simp[Lib.byteCells,Lib.strCells]
  have ad:(Lib.byteCells l).length+s.size=(Lib.byteCells (l++s.1.1)).length:=by rw[hcell,hcell,aj];rfl
  rw[Z,ad]at I;refine⟨v,p,m,by simp[World.cell?,E],K,?_,⟨v,by simp[World.cell?,D]⟩,by simp[World.frozen?,D],?_,?_,?_⟩
  ·obtain⟨g,M,h1,_⟩:=I.form (by rw[hcell,aj];have:s.1.1.length=s.size:=S5;omega);exact⟨_,_,_,h1⟩
  ·exact .inr (Lib.BuilderAt.put N D I S4)
  ·refine(C.trans ((VM B j).grown F (ah O C.size) (λk z=>?_))).setCell (p:=⟨b,1,none⟩) N _;rcases J.2 with⟨rfl,_⟩|⟨g,M,V,rfl,P,_⟩
   ·cases z
   cases z;exact P
  intro k r t y z ht R;refine(VX m ⟨b,1,none⟩ p k R).trans ?_;have G:=(am k R).trans z;refine(F.block k (cj G) (λe=>?_)).trans G;rcases J.2 with⟨rfl,_⟩|⟨g,M,V,rfl,P,Q,_⟩
  ·cases e
  cases e;rw[G]at Q;cases Q;exact ht rfl
 have S:=bZ (xr B b l w h);have T:=bZ aa;go_enter func95,ntmps95;go_wp2_with fail;refine b_ S.Z λj ⟨h1,X,ak⟩=>?_;obtain⟨v,p,m,c1,K,⟨g,n,c,rfl⟩,⟨u,hu⟩,hz,Y⟩:=T.Z j h1 X ak;have U:=bZ Y;go_wp2_with(at_builtin;refine cW _ rfl _ _ _ _ rfl _ _ _ _ rfl rfl K ?_);go_ret2;exact⟨rfl,U.Z⟩
end
section
open bY
open Tryz
variable{l:a_}{x:ba}
attribute [local go_sem] zb zc zd
def lR(h:x.1.1=l):str l=.string x:=by
 subst h;exact dG x
def dI(a b:ba):(a++b).1.1=a.1.1++b.1.1:=S5
def zB(l):(⟨l.toArray⟩:ba).1.1=l:=S5
def size_mk(l:a_):(⟨l.toArray⟩:ba).size=l.length:=by show l.toArray.size=_;simp
def ub(h:x.1.1=l):Ending.returned (.string x)=.returned (str l):=by rw[lR h]
def xv(w L th q key)(h:ft w L th q)(g:G w)(Z:key.size<=200):Calls prog 60 #[ptr q,.string key] w λe S=>e=.returned (str (ed key.1.1 th))/\Xc w S:=by
 obtain⟨v,r,k,z,_,Y,O,_⟩:=h;have U:w.cell? ⟨q,0,none⟩=some v:=cr z rfl;have V:w.cell? ⟨q,1,none⟩=some r:=cr z rfl;have N:w.cell? ⟨q,2,none⟩=some (.string ⟨th.came.toArray⟩):=by simp[World.cell?,z,str]
 unfold ptr;clear z;rcases O with⟨h1,rfl,u,_⟩|⟨t,a,h1,rfl,rfl,_⟩
 ·have B:ed key.1.1 th=[112,117,116,32]++key.1.1++32::wr 3 th.value:=by unfold ed;rw[h1]
  rw[B];clear B;have F:=IX u;rcases u.fY with⟨j,b,rfl,J⟩|⟨d,b,rfl,z⟩|⟨Q,C,R,T,aa,b,rfl,I,P,h2,K⟩
  ·rw[b,r_]at F ⊢;have n:=size_mk (Lib.itoa j);obtain⟨x,hx⟩:∃x:ba,(⟨(Lib.itoa j).toArray⟩:ba)=x:=⟨_,rfl⟩;have m:x.1.1=Lib.itoa j:=TH;rw[hx]at n;have D:=bZ hx;have p:=bZ (iH j w g J.1 J.2);clear hx u b h1;go_enter func60,ntmps60;go_wp2_with fail;refine p.Z.mono ?_;rw[D.Z];rintro e M⟨rfl,y⟩;go_wp2;go_ret;exact⟨ub (by simp[dI,m]),y⟩
  ·rw[b,pR]at F ⊢;have n:=size_mk (39::(d.1.1++[39]));obtain⟨x,hx⟩:∃x:ba,(⟨(39::(d.1.1++[39])).toArray⟩:ba)=x:=⟨_,rfl⟩;have m:x.1.1=39::(d.1.1++[39]):=TH;rw[hx]at n;have D:=bZ hx;have p:=bZ (lH d w R5);clear hx u b h1;go_enter func60,ntmps60;go_wp2_with fail;refine p.Z.mono ?_;rw[D.Z];rintro e M⟨rfl,y⟩;go_wp2;go_ret;exact⟨ub (by simp[dI,m]),y⟩
  obtain rfl:Q=2:=R5;rw[b]at F ⊢;have E:=la 2 R5 C R T w g I ⟨P,K⟩ h2;have n:=size_mk (wr 3 (vl C));obtain⟨x,hx⟩:∃x:ba,(⟨(wr 3 (vl C)).toArray⟩:ba)=x:=⟨_,rfl⟩;have m:x.1.1=wr 3 (vl C):=TH;rw[hx]at n;rw[show(⟨(wr (2+1) (vl C)).toArray⟩:ba)=x from hx]at E;obtain⟨o2,X,rfl⟩:=I.len;have p:=bZ E;clear E u K I hx b h1;go_enter func60,ntmps60;go_wp2_with fail;refine b_ p.Z λM y=>?_;go_wp2;go_ret;exact⟨ub (by simp[dI,m]),y⟩
 have B:ed key.1.1 th=[115,101,116,32]++key.1.1++32::th.came:=by unfold ed;rw[h1]
 rw[B];clear B;have n:=size_mk th.came;obtain⟨x,hx⟩:∃x:ba,(⟨th.came.toArray⟩:ba)=x:=⟨_,rfl⟩;have m:x.1.1=th.came:=TH;rw[hx]at n N;clear hx h1;go_enter func60,ntmps60;go_wp2;go_ret;exact⟨ub (by simp[dI,m]),VM _ _⟩
end
section
open bY
open Tryz
namespace Ref
variable{l:a_}{x:ba}
def hx(n i:Nat):a_:=(List.range i).map λj=>kh (n / 16^(i-1-j)%16)
def M8(n i):hx n (i+1)=kh (n / 16^i%16)::hx n i:=by
 unfold hx;rw[List.range_succ_eq_map,Rr,Rb]
 congr 1
 refine RH (λj b=>?_);show kh (n / 16^(i+1-1-(j+1))%16)=_;rw[show i+1-1-(j+1)=i-1-j by omega]
def O0(d)(h:d<16):(⟨#[48,49,50,51,52,53,54,55,56,57,97,98,99,100,101,102]⟩:ba).extract d (d+1)=⟨#[kh d]⟩:=by
 have:∀d:Fin 16,(⟨#[48,49,50,51,52,53,54,55,56,57,97,98,99,100,101,102]⟩:ba).extract d.val (d.val+1)=⟨#[kh d.val]⟩:=S4;exact this ⟨d,h⟩
def M9(a l):(⟨#[a]⟩++⟨l.toArray⟩:ba)=⟨(a::l).toArray⟩:=by
 apply ByteArray.ext;simp
def Kt(s w)(G:s.size<=1000000000000000000):Calls prog 195 #[.string s] w λe D=>e=.returned (str (xg (jX s.1.1)))/\D=w:=by
 go_enter func195,ntmps195;go_wp2_with fail
 go_loop [3,4] (λn i=>∃k:Nat,k<=s.size/\i=.int .i64 k/\n=.int .u32 (jX (s.1.1.take k):Int)) (λ_ i=>s.size-(intOf i).toNat)
 case atStart=>exact⟨0,ar _,rfl,rfl⟩
 case round =>
  obtain⟨k,u,rfl,rfl⟩:=hrel;by_cases p:k<s.size
  ·go_wp2;refine⟨⟨k+1,by omega,by go_num,by rw[xR s k p]⟩,?_⟩;simp[intOf];omega
  have e:s.1.1.take k=s.1.1:=Ri Tc;rw[e];have B:=uX s.1.1;generalize j:jX s.1.1=n at B;have r:=bZ j;clear j;have y:¬(k:Int)<(s.size:Int):=R5;clear e;go_wp2_with fail
  go_loop [3,5,6] (λh o i=>∃k:Nat,k<=8/\i=.int .i64 k/\h=.int .u32 ((n / 16^k:Nat):Int)/\o=.string ⟨(hx n k).toArray⟩) (λ_ _ i=>8-(intOf i).toNat)
  case atStart=>exact⟨0,ar _,rfl,by simp,rfl⟩
  case round =>
   obtain⟨k,u,rfl,rfl,rfl⟩:=hrel;by_cases p:k<8
   ·have I:(hx n k).length<=8:=by unfold hx;simp;omega
    have y:(k:Int)<8:=R5;obtain⟨m,b⟩:∃m,n / 16^k=m:=⟨_,rfl⟩;have F:m<=n:=by rw[<-b];exact Nat.div_le_self _ _
    have C:hx n (k+1)=kh (m%16)::hx n k:=by rw[M8,b]
    have z:n / 16^(k+1)=m / 16:=by rw[SP,<-Nat.div_div_eq_div_mul,b]
    have E:=O0 (m%16) (Sv _ S4);rw[b];go_wp2;refine⟨⟨k+1,by omega,by go_num,by rw[z];rfl,by rw[C,M9]⟩,?_⟩;simp[intOf];omega
   obtain rfl:k=8:=R5;go_wp2;go_ret;rw[r.Z];exact⟨rfl,rfl⟩
def fO(h:str l=.string x):x.1.1=l:=by
 unfold str at h;cases h;rfl
def yu(s w)(m:s.size<=1000000000000000000):Calls prog 148 #[.string s] w λe r=>e=.returned (str (bY.line s.1.1))/\r=w:=by
 obtain⟨x,hx⟩:∃x:ba,str (xg (jX s.1.1))=.string x:=⟨_,rfl⟩;have p:x.size=8:=by rw[VO,fO hx];simp[xg]
 have b:=bZ (Kt s w m);rw[hx]at b;have j:Hid (str (bY.line s.1.1)=.string (s++⟨#[32]⟩++x++⟨#[10]⟩)):=bZ (by
  apply lR;rw[dI,dI,dI,fO hx];unfold bY.line;simp)
 clear hx;have h1:(s++⟨#[32]⟩:ba).size=s.size+1:=by exact Q4
 have h2:(s++⟨#[32]⟩++x:ba).size=s.size+9:=by rw[Q4,h1,p]
 have u:(⟨#[10]⟩:ba).size=1:=rfl;have y:(⟨#[32]⟩:ba).size=1:=rfl;go_enter func148,ntmps148;go_wp2_with fail;refine b_ b.Z λz n=>?_;obtain rfl:=n.symm;dsimp only;go_wp2;go_ret;exact⟨by rw[j.Z];rfl,rfl⟩
end Ref
end
