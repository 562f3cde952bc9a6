/- Out of A1. -/
import Derived.Test.YtpekpdimdelncaaGreatDoorP24
import Derived.Test.YtpekpdimdelncaaGreatDoorP21
set_option linter.unusedVariables false
set_option linter.unusedSimpArgs false
set_option maxRecDepth 100000
set_option maxHeartbeats 4000000
set_option linter.defProp false
namespace Go.Proofs.YtpekpdimdelncaaGreatDoor
open Go.RowKit Go.Shelf
section
open bY
namespace Ref
def fb(S:Xa->(Nat->Prop)->Prop)(w:Xa)(L:Nat->Prop)(w':Xa):Prop :=∃b,S w' b/\(∀k,b k->L k\/w.1.size<=k)/\(∀k,L k->b k)/\eu L w w'
def fb.refl{S:Xa->(Nat->Prop)->Prop}{w:Xa}{L:Nat->Prop}(h:S w L):fb S w L w:=⟨L,h,λ_ h=>.inl h,λ_ h=>h,eu.refl _ _⟩
def fb.trans{S l:Xa->(Nat->Prop)->Prop}{a b c:Xa}{L:Nat->Prop}(h:fb S a L b)(z:∀j,S b j->fb l b j c):fb l a L c:=by
 obtain⟨L1,h1,h2,B,m⟩:=h;obtain⟨n,p,r,u,y⟩:=z L1 h1;refine⟨n,p,λk e=>?_,λk e=>u k (B k e),m.trans y h2⟩;rcases r k e with h|h
 ·exact h2 k h
 have:=m.size;exact .inr R5
def fb.pre{S:Xa->(Nat->Prop)->Prop}{a b c:Xa}{L:Nat->Prop}(j:Xc a b)(h:fb S b L c):fb S a L c:=by
 obtain⟨L1,h1,h2,l,m⟩:=h;refine⟨L1,h1,λk e=>?_,l,(eu.below j).trans m (λk e=>.inl e)⟩;rcases h2 k e with h|h
 ·exact .inl h
 have:=j.size;exact .inr R5
def fb.imp{S j:Xa->(Nat->Prop)->Prop}{a b:Xa}{L:Nat->Prop}(h:fb S a L b)(l:∀e,S b e->j b e):fb j a L b:=by
 obtain⟨L1,h1,h2⟩:=h;exact⟨L1,l L1 h1,h2⟩
def M6(t:TypeId):Prop:=t=101\/t=168\/t=204\/t=199\/t=9\/t=287
def OZ(t:TypeId):Prop:=t=147\/t=3
def M6.no{t:TypeId}(h:M6 t):¬OZ t:=by
 rcases h with rfl|rfl|rfl|rfl|rfl|rfl<;>(rintro(h|h)<;>cases h)
def M6.QA{t:TypeId}(h:M6 t):t≠166:=by
 rcases h with rfl|rfl|rfl|rfl|rfl|rfl<;>(intro h;cases h)
def KN(w w':Xa):Prop:=∀(k:Nat) (b:Array Xb) (t:TypeId) (e:Nat×Nat),w.1[k]?=some (.cells b t e)->OZ t->w'.1[k]?=some (.cells b t e)
def KN.refl(w):KN w w:=λ_ _ _ _ h _=>h
def KN.below{w w':Xa}(h:Xc w w'):KN w w':=λk e t j b _=>(h.block k (cj b)).trans b
def Typed(w:Xa)(L:Nat->Prop):Prop:=∀k,L k->8<=k/\∃b t e,w.1[k]?=some (.cells b t e)/\M6 t
def KN.mK{w w':Xa}{L:Nat->Prop}(m:Typed w L)(j:eu L w w'):KN w w':=λk n t r b l=>by
 by_cases e:L k
 ·obtain⟨_,p,y,u,h1,h2⟩:=m k e;rw[b]at h1;cases h1;exact(h2.no l).elim
 exact(j.block k (cj b) e).trans b
def xB.st{w w':Xa}{base:Nat}{v:Xb}{m:List Nd}(h:xB w base v m)(l:KN w w'):xB w' base v m :=⟨cJ h.row (λg _ b e j=>l g b _ e j (.inl rfl)),λd hd=>⟨(h.all d hd).1,cJ (h.all d hd).2 (λg _ b e j=>l g b _ e j (.inr rfl))⟩⟩
structure En where
 key:a_
 text:a_
 fc:Xb
 kept:Bool
 np:Xb
 w:Wo
def En.cells(e:En):List Xb:=str e.key::str e.text::e.fc::.bool e.kept::e.np::dY e.w
def eh(q:a_×Wo):List Xb:=str q.1::dY q.2
def KeptAt(w:Xa)(L:Nat->Prop)(o:Option gl)(e:En):Prop :=(o=none/\e.kept=false/\e.np=.slice none 0 0)\/∃b,o=some b/\e.kept=true/\e.w=b.dR/\w.ownsRow 8 204 3 e.np b.cH.length (b.cH.flatMap eh)/\(∀g,e.np.ownBlock=some g->L g)/\b.cH.length<=401
def km(w:Xa)(th:cC)(e:En):Prop :=(th.di=none/\e.text=wr 3 th.value/\e.fc=.slice none 0 0) \/∃t b m o c,th.di=some t/\e.text=th.came/\e.fc=.slice (some o) b.length c/\xB w 8 e.fc b/\nT b m (b.length-1) t/\0<b.length/\b.length<=2000/\iy (hM t) false t=true
structure pB(w:Xa)(L:Nat->Prop)(rn:List (a_))(p:a_×cC)(e:En):Prop where
 key:e.key=p.1
 fc:km w p.2 e
 kept:KeptAt w L (if p.1∈rn then none else p.2.kept) e
structure qE(s:LS)(fl:List (a_×Wo)):Prop where
 dK:∀k,k∈bY.dK s.ct->bY.cv fl k=bY.cv s.done k
 len:fl.length<=s.done.length
 base:∀k w,bY.cv s.done k=some w->k∉bY.dK s.ct->w=match bY.cv s.ct k with|none=>.error 7|some th=>.ok th.value
structure gj(w:Xa)(rb:Nat)(s:LS)(rn:List (a_))(L:Nat->Prop)(es:List En)(fl:List (a_×Wo))(vA vF vB vR vN:Xb):Prop where
 eb:w.1[rb]?=some (.cells #[vA,str (dc s.jr),vF,vB,vR,vN] 101 (0,0))
 here:L rb
 all:w.ownsRow 8 168 7 vA es.length (es.flatMap En.cells)
 jN:es.length=s.ct.length
 p6:∀(i:Nat) (p:a_×cC) (e:En),s.ct[i]?=some p->es[i]?=some e->pB w L rn p e
 fresh:w.ownsRow 8 204 3 vF fl.length (fl.flatMap eh)
 fr:qE s fl
 cm:dX w vB s.cm
 cY:dX w vR s.cY
 runs:w.ownsRow 8 199 6 vN s.du.length (s.du.flatMap dm)
 dQ:∀g,vA.ownBlock=some g\/vF.ownBlock=some g\/vB.ownBlock=some g\/vR.ownBlock=some g\/vN.ownBlock=some g->L g
 apart:∀g,vB.ownBlock=some g->vR.ownBlock≠some g
 fe:∀e∈es,∀g,e.np.ownBlock=some g->vF.ownBlock≠some g
 nodup:(s.ct.map (·.1)).Nodup
 cz:Typed w L
def fJ(j:Nat)(s:LS)(rn:List (a_))(w:Xa)(L:Nat->Prop):Prop:=∃b e l n m r p,gj w j s rn L b e l n m r p
def KeptAt.st{w w':Xa}{L:Nat->Prop}{o:Option gl}{e:En}(h:KeptAt w L o e)(r:∀g,e.np.ownBlock=some g->L g->w'.1[g]?=w.1[g]?):KeptAt w' L o e:=by
 rcases h with h|⟨u,h1,h2,l,m,b,n⟩
 ·exact .inl h
 exact .inr ⟨u,h1,h2,l,cJ m (λg j y z p=>(r g j (b g j)).trans p),b,n⟩
def km.st{w w':Xa}{th:cC}{e:En}(h:km w th e)(n:KN w w'):km w' th e:=by
 rcases h with h|⟨t,p,m,o,c,h1,h2,b,j,l⟩
 ·exact .inl h
 exact .inr ⟨t,p,m,o,c,h1,h2,b,j.st n,l⟩
def KeptAt.mono{w:Xa}{L L':Nat->Prop}{o:Option gl}{e:En}(h:KeptAt w L o e)(n:∀k,L k->L' k):KeptAt w L' o e:=by
 rcases h with h|⟨r,h1,h2,b,j,l,m⟩
 ·exact .inl h
 exact .inr ⟨r,h1,h2,b,j,λg p=>n g (l g p),m⟩
def pB.st{w w':Xa}{L L':Nat->Prop}{rn:List (a_)}{p:a_×cC}{e:En}(h:pB w L rn p e)(l:∀g,e.np.ownBlock=some g->L g->w'.1[g]?=w.1[g]?)(j:KN w w')(b:∀k,L k->L' k):pB w' L' rn p e :=⟨h.key,h.fc.st j,(h.kept.st l).mono b⟩
def Typed.st{w w':Xa}{L:Nat->Prop}(h:Typed w L)(e:∀k,L k->w'.1[k]?=w.1[k]?):Typed w' L:=λk b=>by rw[e k b];exact h k b
def Typed.lt{w:Xa}{L:Nat->Prop}(h:Typed w L){k:Nat}(b:L k):k<w.1.size:=by
 obtain⟨_,e,t,j,h1,_⟩:=h k b;exact cj h1
def gj.st{w w':Xa}{r:Nat}{s:LS}{rn:List (a_)}{L:Nat->Prop}{u:List En}{y:List (a_×Wo)}{z C B E D:Xb}(h:gj w r s rn L u y z C B E D)(l:∀k,L k->w'.1[k]?=w.1[k]?)(G:KN w w'):gj w' r s rn L u y z C B E D where
 eb:=(l r h.here).trans h.eb
 here:=h.here
 all:=cJ h.all (λg b m n j=>(l g (h.dQ g (.inl b))).trans j)
 jN:=h.jN
 p6 i p e I F:=(h.p6 i p e I F).st (λg _ b=>l g b) G (λ_ h=>h)
 fresh:=cJ h.fresh (λg b m n j=>(l g (h.dQ g (.inr (.inl b)))).trans j)
 fr:=h.fr
 cm:=cJ h.cm (λg b m n j=>(l g (h.dQ g (.inr (.inr (.inl b))))).trans j)
 cY:=cJ h.cY (λg b m n j=>(l g (h.dQ g (.inr (.inr (.inr (.inl b)))))).trans j)
 runs:=cJ h.runs (λg b m n j=>(l g (h.dQ g (.inr (.inr (.inr (.inr b)))))).trans j)
 dQ:=h.dQ
 apart:=h.apart
 fe:=h.fe
 nodup:=h.nodup
 cz:=h.cz.st l
def fJ.st{w w':Xa}{b:Nat}{s:LS}{rn:List (a_)}{L:Nat->Prop}(h:fJ b s rn w L)(m:∀k,L k->w'.1[k]?=w.1[k]?)(l:KN w w'):fJ b s rn w' L:=by
 obtain⟨e,j,n,r,p,y,u,h⟩:=h;exact⟨e,j,n,r,p,y,u,h.st m l⟩
def fJ.cz{w:Xa}{b:Nat}{s:LS}{rn:List (a_)}{L:Nat->Prop}(h:fJ b s rn w L):Typed w L:=by
 obtain⟨e,j,l,n,m,r,p,h⟩:=h;exact h.cz
def fJ.below{w w':Xa}{e:Nat}{s:LS}{rn:List (a_)}{L:Nat->Prop}(h:fJ e s rn w L)(b:Xc w w'):fJ e s rn w' L :=h.st (λk j=>b.block k (h.cz.lt j)) (KN.below b)
structure Bx(base:Nat)(w w':Xa):Prop where
 os:w'.os=w.os
 tape:w'.tape=w.tape
 output:w'.output=w.output
 size:w.1.size<=w'.1.size
 block:∀(k:Nat) (o:Obj),w.1[k]?=some o->(k<base\/∀(cs:Array Xb) (fz:Nat×Nat),o≠.cells cs 166 fz)->w'.1[k]?=some o
def Bx.trans{b:Nat}{w1 w2 w3:Xa}(h:Bx b w1 w2)(e:Bx b w2 w3):Bx b w1 w3:=⟨e.os.trans h.os,e.tape.trans h.tape,e.output.trans h.output,ah h.size e.size,λk o l j=>e.block k o (h.block k o l j) j⟩
def Bx.below{b:Nat}{w w':Xa}(h:Xc w w'):Bx b w w':=⟨h.os,h.tape,h.output,h.size,λk o e _=>(h.block k (cj e)).trans e⟩
def Bx.set{b:Nat}{w:Xa}{k o:Nat}{cs:Array Xb}{fz:Nat×Nat}(n:b<=k)(h:w.1[k]?=some (.cells cs 166 fz))(v):Bx b w (w.setCell ⟨k,o,none⟩ v) :=⟨rfl,rfl,rfl,by simp,λj x l e=>by
  by_cases m:j=k
  ·subst m;rw[h]at l;rcases e with e|e
   ·omega
   exact(e _ _ (aB l).symm).elim
  ·rw[VU w ⟨k,o,none⟩ j v m];exact l⟩
def Bx.kn{b:Nat}{w w':Xa}(h:Bx b w w'):KN w w':=λk m t p j l=>h.block k _ j (.inr (λn r e=>by
 injection e with _ e _
 rcases l with rfl|rfl<;>cases e))
def Bx.dQ{b:Nat}{w w':Xa}(h:Bx b w w'){L:Nat->Prop}(l:Typed w L):∀k,L k->w'.1[k]?=w.1[k]? := λk j=>by
 obtain⟨_,m,t,p,h1,h2⟩:=l k j;rw[h1];exact h.block k _ h1 (.inr (λn r e=>by injection e with _ e _;exact h2.QA e))
def fb.post{S:Xa->(Nat->Prop)->Prop}{a b c:Xa}{L:Nat->Prop}(h:fb S a L b)(hx:Bx a.1.size b c)(hS:∀l,S b l->S c l):fb S a L c:=by
 obtain⟨L1,h1,h2,n,e⟩:=h;refine⟨L1,hS L1 h1,h2,n,⟨hx.os.trans e.os,hx.tape.trans e.tape,hx.output.trans e.output,ah e.size hx.size,λk j u=>?_⟩⟩;have p:=e.block k j u;have m:=aw j e.size;have r:=hx.block k _ (RV m) (.inl j);rw[<-p,r,RV m]
def fJ.bx{b:Nat}{w w':Xa}{e:Nat}{s:LS}{rn:List (a_)}{L:Nat->Prop}(h:fJ e s rn w L)(hx:Bx b w w'):fJ e s rn w' L:=h.st (hx.dQ h.cz) hx.kn
end Ref
namespace Ref
structure wH(n:Nat)(s:LS):Prop where
 kb:KB s.ct
 un:Un s<n
 cm:s.cm.length+n<=200
 nf:s.done.length+1000*Rs s+1000*n<=1000000
 du:s.du.length+Rs s+n<=1000
 fs:hZ s
 hl:HL s.ct
 ph:Ph s<=1000000000000000000
 br:∀k∈s.cm,k∈bY.dK s.ct
def wI(j n:Nat):Prop :=∀(w:Xa) (s:LS) (rn:List (a_)) (L:Nat->Prop) (b:ba),fJ j s rn w L->wH n s->(∀k∈rn,k∈s.cm) ->Calls Tryz.prog 109 #[ptr j,.string b] w λe l=>e=.returned (dC (cG n b.1.1 s).1)/\fb (fJ j (cG n b.1.1 s).2 rn) w L l
structure Cx where
 rb:Nat
 qb:Nat
 rn:List (a_)
 Ks:Xb
 ns:List Nd
 s0:LS
 n:Nat
 says:wI rb n
 pre:∀s' c,jk s0 s' c->c<=400->hZ s'->Ph s'<=Ph s0->wH n s'
 run:∀k∈rn,k∈s0.cm
def ES(c:Cx)(s:LS)(nd:List (a_×Wo))(f:Nat)(e:Xb)(w:Xa)(M:Nat->Prop):Prop :=∃L b,fJ c.rb s c.rn w L/\(∀k,L k->M k)/\M c.qb/\¬L c.qb/\(∀g,b.ownBlock=some g->M g/\¬L g)/\Typed w M /\w.1[c.qb]?=some (.cells #[c.Ks,b,.int .i64 (400-f:Int),e] 287 (0,0))/\f<=400 /\w.ownsRow 8 204 3 b nd.length (nd.flatMap eh)/\xB w 8 c.Ks c.ns
structure Pu(c:Cx)(s:LS)(nd:List (a_×Wo))(g:Nat):Prop where
 p8:∃mE,jk c.s0 s mE/\mE+g<=400/\nd.length<=mE
 fs:hZ s
 ph:Ph s<=Ph c.s0
 QC:BR s.ct nd
def Pu.le{c:Cx}{s:LS}{nd:List (a_×Wo)}{g b:Nat}(h:Pu c s nd g)(l:b<=g):Pu c s nd b:=by
 obtain⟨j,h1,h2,e⟩:=h.p8;exact⟨⟨j,h1,by omega,e⟩,h.fs,h.ph,h.QC⟩
def Pu.pre{c:Cx}{s:LS}{nd:List (a_×Wo)}{g:Nat}(h:Pu c s nd g):wH c.n s:=by
 obtain⟨b,h1,h2,e⟩:=h.p8;exact c.pre s b h1 R5 h.fs h.ph
abbrev Nn(c:Cx):=ep (cG c.n)
def Pu.need{c:Cx}{s:LS}{nd:List (a_×Wo)}{g:Nat}{k:a_}(h:Pu c s nd (g+1))(j:isKey k=true):Pu c (Nn c k (s,nd)).2.1 (Nn c k (s,nd)).2.2 g/\hY (Nn c k (s,nd)).1/\EC (Nn c k (s,nd)).1:=by
 have e:=h.pre;obtain⟨m,h1,h2,n⟩:=h.p8;obtain⟨f1,f2,f3⟩:=pA c.n k s h.fs;have b:=h.QC.with f1 j;have hl:=nN nd k (cG c.n k s).1;exact⟨⟨⟨m+1,h1.trans (jA c.n k s e.kb),by omega,ah hl R5⟩,f2,ah (rK c.n k s h.fs e.kb e.hl) h.ph,⟨b.nd,λq l=>(b.fk q l).dd f3,b.key⟩⟩,f1.fine,f1.2⟩
def sK{α:Type}{A:α->Prop}(c d):∀p f s nd,Pu c s nd (f+d)->Sp p f->PP A p->PE p->Pu c (p.run (Nn c) (s,nd)).2.1 (p.run (Nn c) (s,nd)).2.2 ((p.run (Nn c) (s,nd)).1.2+d)/\(∀v,(p.run (Nn c) (s,nd)).1.1=.ok v->A v)/\(p.run (Nn c) (s,nd)).1.2<=f/\EC (p.run (Nn c) (s,nd)).1.1
 |⟨.inl q⟩,f,s,nd,h,j,l,m=>by
  have j:q.2<=f:=j;exact⟨h.le (by show q.2+d<=_;omega),l,j,m⟩
 |⟨.inr (k,e)⟩,f,s,nd,h,j,l,m=>by
  obtain⟨h1,h2⟩:=j;obtain⟨b,rfl⟩:∃b,f=b+1:=⟨f-1,by omega⟩;obtain⟨n,r,u⟩:=Pu.need (g:=b+d) (by rw[show b+d+1=b+1+d by omega];exact h) l.1;obtain⟨y,z,B,C⟩:=sK c d (e (Nn c k (s,nd)).1) b _ _ n (h2 _) (l.2 _ r) (m _ u);exact⟨y,z,Nat.le_succ_of_le B,C⟩
def qF(c:Cx)(p:Pe V)(s:LS)(nd:List (a_×Wo))(b:Xb)(w:Xa)(M:Nat->Prop)(e:Ending)(w':Xa):Prop :=e=.returned (dC (p.run (Nn c) (s,nd)).1.1)/\fb (ES c (p.run (Nn c) (s,nd)).2.1 (p.run (Nn c) (s,nd)).2.2 (p.run (Nn c) (s,nd)).1.2 b) w M w'
def jP(w:Xa)(M:Nat->Prop)(b:Xb)(it:Option V)(f:Nat):Prop :=∃l:List (a_),dX w b l/\(∀g,b.ownBlock=some g->¬M g)/\l.length+f<=400/\∀u,it=some u->L3 u/\∃e,l=e++[wr 3 u]
def ES.cz{c:Cx}{s:LS}{nd:List (a_×Wo)}{f:Nat}{b:Xb}{w:Xa}{M:Nat->Prop}(h:ES c s nd f b w M):Typed w M:=by
 obtain⟨L,e,_,_,_,_,_,h,_⟩:=h;exact h
def ES.st{c:Cx}{s:LS}{nd:List (a_×Wo)}{f:Nat}{m:Xb}{w w':Xa}{M:Nat->Prop}(h:ES c s nd f m w M)(e:∀k,M k->w'.1[k]?=w.1[k]?)(b:KN w w'):ES c s nd f m w' M:=by
 obtain⟨L,D,h1,h2,j,p,l,r,u,y,z,n⟩:=h;exact⟨L,D,h1.st (λk b=>e k (h2 k b)) b,h2,j,p,l,r.st e,(e _ j).trans u,y,cJ z (λg C E F B=>(e g (l g C).1).trans B),n.st b⟩
def ES.below{c:Cx}{s:LS}{nd:List (a_×Wo)}{f:Nat}{e:Xb}{w w':Xa}{M:Nat->Prop}(h:ES c s nd f e w M)(b:Xc w w'):ES c s nd f e w' M :=h.st (λk j=>b.block k (h.cz.lt j)) (KN.below b)
def ES.bx{b:Nat}{c:Cx}{s:LS}{nd:List (a_×Wo)}{f:Nat}{e:Xb}{w w':Xa}{M:Nat->Prop}(h:ES c s nd f e w M)(hx:Bx b w w'):ES c s nd f e w' M:=h.st (hx.dQ h.cz) hx.kn
def jP.st{w w':Xa}{M e:Nat->Prop}{n:Xb}{it:Option V}{f j:Nat}(h:jP w M n it f)(r:eu M w w')(hM:∀k,e k->M k\/w.1.size<=k)(C:j<=f):jP w' e n it j:=by
 obtain⟨l,h1,h2,B,p⟩:=h;refine⟨l,cJ h1 (λg b y z m=>(r.block g (cj m) (h2 g b)).trans m),λg b u=>?_,by omega,p⟩;rcases hM g u with h|h
 ·exact h2 g b h
 have:=(VT h1 g b).2;omega
def jP.below{w w':Xa}{M:Nat->Prop}{b:Xb}{it:Option V}{f:Nat}(h:jP w M b it f)(e:Xc w w'):jP w' M b it f:=h.st (eu.below e) (λ_ h=>.inl h) (af _)
def nY(c:Cx)(x:Nat)(it:Option V)(p:Nat->Pe V)(d0:Nat):Prop :=∀(w:Xa) (M:Nat->Prop) (s:LS) (nd:List (a_×Wo)) (f d:Nat) (b:Xb),ES c s nd f b w M->d0<=d->Pu c s nd (f+d)->jP w M b it (f+d) ->Calls Tryz.prog 196 #[ptr c.rb,ptr c.qb,.int .i64 (x:Int)] w (qF c (p f) s nd b w M)
def ES.cells{c:Cx}{s:LS}{nd:List (a_×Wo)}{f:Nat}{p:Xb}{w:Xa}{M:Nat->Prop}(h:ES c s nd f p w M){x:Nat}{d:Nd}(hd:c.ns[x]?=some d):∃g b,c.Ks=.slice (some ⟨g,0,none⟩) c.ns.length b/\g<w.1.size/\c.qb<w.1.size/\w.cell? ⟨c.qb,0,none⟩=some c.Ks/\x<(c.ns.length:Int) /\∀j u,d.cells[j]?=some u->w.cell? ⟨g,x*6+j,none⟩=some u:=by
 obtain⟨L,G,h1,h2,z,B,C,D,m,E,F,l⟩:=h;have hx:=(aA.1 hd).1;rcases l.row.2 with⟨_,y⟩|⟨g,b,r,e,_,n,_⟩
 ·omega
 refine⟨g,b,e,cj n,cj m,by simp[World.cell?,m],by omega,λj u hu=>?_⟩;exact ll (by have:=l.row;rw[e]at this;exact this) hd hu
end Ref
namespace Ref
variable{v y B z D C:Xb}{r:Nat}{s:LS}{rn:List (a_)}{L:Nat->Prop}{E:List (a_×Wo)}{p:a_×cC}
def nZ(e:En):e.cells.length=7:=by
 obtain⟨_,_,_,_,_,w⟩:=e;cases w<;>rfl
def tA(q):(eh q).length=3:=by
 obtain⟨_,w⟩:=q;cases w<;>rfl
def fK{w:Xa}{e:TypeId}{m n:Nat}{α:Type}{F:α->List Xb}{l:List α}(hF:∀a,(F a).length=m)(K:0<m)(h:w.ownsRow 8 e m v n (l.flatMap F)){k:Nat}{a:α}(G:l[k]?=some a):∃g b,v=.slice (some ⟨g,0,none⟩) n b/\g<w.1.size/\∀j u,(F a)[j]?=some u->w.cell? ⟨g,k*m+j,none⟩=some u:=by
 rcases h.2 with⟨rfl,rfl⟩|⟨g,b,J,rfl,_,I,_⟩
 ·have h1:=h.1;rw[RY,R4,List.flatMap_eq_nil_iff]at h1;have h2:=hF a;rw[h1 a (aJ G)]at h2;simp at h2;omega
 refine⟨g,b,rfl,cj I,λj u hu=>?_⟩;have:=h.cells (g:=g) rfl _ u (wC F m hF l k a j u G hu);rw[addr_add,aG]at this;exact this
def gj.entry{w:Xa}{b:List En}(h:gj w r s rn L b E y B z D C){i:Nat}(n:s.ct[i]?=some p):∃e g l,b[i]?=some e/\pB w L rn p e/\y=.slice (some ⟨g,0,none⟩) s.ct.length l/\g<w.1.size/\∀j u,e.cells[j]?=some u->w.cell? ⟨g,i*7+j,none⟩=some u:=by
 have hi:=(aA.1 n).1;have hi:i<b.length:=by rw[h.jN];exact hi
 have m:b[i]?=some b[i]:=aq hi;obtain⟨g,l,h1,h2,F⟩:=fK nZ S4 h.all m;rw[h.jN]at h1;exact⟨_,g,l,m,h.p6 i p _ n m,h1,h2,F⟩
def gj.cells{w:Xa}{b:List En}(h:gj w r s rn L b E y B z D C):w.cell? ⟨r,0,none⟩=some y/\w.cell? ⟨r,1,none⟩=some (str (dc s.jr))/\w.cell? ⟨r,2,none⟩=some B/\w.cell? ⟨r,3,none⟩=some z/\w.cell? ⟨r,4,none⟩=some D/\w.cell? ⟨r,5,none⟩=some C/\∀o,w.frozen? ⟨r,o,none⟩=false:=by
 have e:=h.eb;refine⟨?_,?_,?_,?_,?_,?_,λo=>?_⟩
 all_goals simp[World.cell?,World.frozen?,e]
def gj.M7{w:Xa}{b:List En}(h:gj w r s rn L b E y B z D C):∃o c,y=.slice o s.ct.length c:=by
 obtain⟨o,c,e⟩:=dD h.all;rw[h.jN]at e;exact⟨o,c,e⟩
def jo(a b:ba):(a.toList==b.toList)=decide (a.1.1=b.1.1):=by
 rw[VP,VP,R6,Rd,SD]
def lT(w r s rn L key)(h:fJ r s rn w L)(Z:s.ct.length<=1000):Calls Tryz.prog 149 #[ptr r,.string key] w λe T=>T=w/\((bY.cv s.ct key.1.1=none/\e=.returned (.int .i64 (-1)))\/∃(i:Nat) (N:cC),s.ct[i]?=some (key.1.1,N)/\bY.cv s.ct key.1.1=some N/\e=.returned (.int .i64 i)):=by
 obtain⟨X,E,y,B,z,D,C,h⟩:=h;obtain⟨U,_,_,_,_,_,_⟩:=h.cells;obtain⟨o,c,rfl⟩:=h.M7;have O:=bZ h;clear h;unfold ptr;go_enter Tryz.func149,Tryz.ntmps149;go_wp2
 go_loopw [5] (λG wr=>∃i:Nat,G=.int .i64 (i:Int)/\i<=s.ct.length/\wr=w/\Hid (bY.cv s.ct key.1.1=bY.cv (s.ct.drop i) key.1.1)) (λG _=>s.ct.length-(intOf G).toNat)
 case atStart=>exact⟨0,rfl,ar _,rfl,bZ rfl⟩
 case round =>
  obtain⟨i,rfl,hi,rfl,HL⟩:=hrel;by_cases M:i<s.ct.length
  ·have R:(i:Int)<(s.ct.length:Int):=R5;have l:=aq M;have F:=aU M;generalize s.ct[i]=p at l F;obtain⟨e,g,V,Q,I,S,Y,K⟩:=O.Z.entry l;cases S;have n:=K 0 _ rfl;simp only[aR]at n;rw[I.key]at n;unfold str at n;obtain⟨x,hx⟩:∃x:ba,(⟨p.1.toArray⟩:ba)=x:=⟨_,rfl⟩;have m:x.1.1=p.1:=TH;rw[hx]at n;have J:=jo x key;have u:=bZ (And.intro l F);clear l F I K Q hx;by_cases b:x.1.1=key.1.1
   ·rw[aQ b]at J;have j:Hid (p.1=key.1.1):=bZ (m.symm.trans b);clear b m;go_wp2;go_ret;refine⟨rfl,.inr ⟨i,p.2,by rw[<-j.Z];exact u.Z.1,?_,rfl⟩⟩;rw[HL.Z,u.Z.2,ee,ag j.Z]
   rw[aN b]at J;have j:Hid (¬p.1=key.1.1):=bZ (λe=>b (m.trans e));clear b m;go_wp2;refine⟨⟨i+1,by go_num,by omega,by first|rfl|trivial,bZ (by rw[HL.Z,u.Z.2,ee,ae j.Z])⟩,?_⟩;simp[intOf];omega
  have R:¬(i:Int)<(s.ct.length:Int):=R5;have P:Hid (bY.cv s.ct key.1.1=none):=bZ (by rw[HL.Z,aT R5];rfl);go_wp2;go_ret;exact⟨rfl,.inl ⟨P.Z,rfl⟩⟩
end Ref
end
section
namespace Ref
section
variable {w w':Xa}{b:Nat}{s s':bY.LS}{rn:List (a_)}{L L':Nat->Prop}{j:List En}{C fl':List (a_×bY.Wo)}{l y r B z vF' vB' vR' vN':Xb}
def gj.turn(h:gj w b s rn L j C l y r B z)(u:s'.ct=s.ct)(J:KN w w')(K:∀e∈j,∀g,e.np.ownBlock=some g->w'.1[g]?=w.1[g]?)(F:∀g,l.ownBlock=some g->w'.1[g]?=w.1[g]?)
  (I:w'.1[b]?=some (.cells #[l,str (dc s'.jr),vF',vB',vR',vN'] 101 (0,0))) (n:∀k,L k->L' k) (fresh:w'.ownsRow 8 204 3 vF' fl'.length (fl'.flatMap eh)) (fr:qE s' fl') (cm:dX w' vB' s'.cm) (cY:dX w' vR' s'.cY) (runs:w'.ownsRow 8 199 6 vN' s'.du.length (s'.du.flatMap dm))
  (dQ:∀g,vF'.ownBlock=some g\/vB'.ownBlock=some g\/vR'.ownBlock=some g\/vN'.ownBlock=some g->L' g) (apart:∀g,vB'.ownBlock=some g->vR'.ownBlock≠some g) (fe:∀e∈j,∀g,e.np.ownBlock=some g->vF'.ownBlock≠some g) (cz:Typed w' L'):gj w' b s' rn L' j fl' l vF' vB' vR' vN' where
 eb:=I
 here:=n _ h.here
 all:=cJ h.all (λg m M N G=>(F g m).trans G)
 jN:=by rw[u];exact h.jN
 p6 i p e E D:=by
  rw[u]at E;exact(h.p6 i p e E D).st (λg m _=>K e (aJ D) g m) J n
 fresh:=fresh
 fr:=fr
 cm:=cm
 cY:=cY
 runs:=runs
 dQ g m:=by
  rcases m with m|m
  ·exact n g (h.dQ g (.inl m))
  exact dQ g m
 apart:=apart
 fe:=fe
 nodup:=by rw[u];exact h.nodup
 cz:=cz
def gj.BW(h:gj w b s rn L j C l y r B z):∀e∈j,∀g,e.np.ownBlock=some g->∃p D,w.1[g]?=some (.cells p 204 D):=λe F g m=>by
 obtain⟨i,hi⟩:=Sa F;have n:=(aA.1 hi).1;rw[h.jN]at n;rcases(h.p6 i _ e (aq n) hi).kept with⟨_,_,u⟩|⟨G,_,_,_,E,_⟩
 ·rw[u]at m;cases m
 exact cE E m
def fB{k g:Nat}{cs n:Array Xb}{t m:TypeId}{fz p:Nat×Nat}(h:w.1[k]?=some (.cells cs t fz))(u:w.1[g]?=some (.cells n m p))(D:t≠m):k≠g:=λe=>by
 rw[e,u]at h;cases h;exact D rfl
def gj.cellOf(h:gj w b s rn L j C l y r B z)(i v)(P:s'.ct=s.ct)(O:(#[l,str (dc s.jr),y,r,B,z]:Array Xb).setIfInBounds i v=#[l,str (dc s'.jr),vF',vB',vR',vN'])(fresh:w.ownsRow 8 204 3 vF' fl'.length (fl'.flatMap eh))(fr:qE s' fl')(cm:dX w vB' s'.cm)(cY:dX w vR' s'.cY)(runs:w.ownsRow 8 199 6 vN' s'.du.length (s'.du.flatMap dm))(dQ:∀g,vF'.ownBlock=some g\/vB'.ownBlock=some g\/vR'.ownBlock=some g\/vN'.ownBlock=some g->L g)(apart:∀g,vB'.ownBlock=some g->vR'.ownBlock≠some g)(fe:∀e∈j,∀g,e.np.ownBlock=some g->vF'.ownBlock≠some g):gj (w.setCell ⟨b,i,none⟩ v) b s' rn L j fl' l vF' vB' vR' vN'/\eu L w (w.setCell ⟨b,i,none⟩ v):=by
 have K:∀k,k≠b->(w.setCell ⟨b,i,none⟩ v).1[k]?=w.1[k]? := λk p=>VU w ⟨b,i,none⟩ k _ p;have I:=heap_setCell_same w b i _ _ v h.eb;rw[O]at I;have hty:∀(k:Nat) (D:Array Xb) (t:TypeId) (E:Nat×Nat),w.1[k]?=some (.cells D t E)->t≠101->(w.setCell ⟨b,i,none⟩ v).1[k]?=w.1[k]? := λk D t E p M=>K k (fB p h.eb M);have G:∀{e:TypeId}{m n:Nat}{u:Xb}{xs:List Xb},e≠101->w.ownsRow 8 e m u n xs->(w.setCell ⟨b,i,none⟩ v).ownsRow 8 e m u n xs:=λJ R=>cJ R (λg F D E p=>(hty g _ _ _ p J).trans p);refine⟨h.turn P (λk D t E p M=>(hty k D t E p (λe=>by rcases M with rfl|rfl<;>cases e)).trans p) (λe J g F=>?_) (λg F=>?_) I (λ_ h=>h) (G S4 fresh) fr (G S4 cm) (G S4 cY) (G S4 runs) dQ apart fe (λk p=>?_),⟨rfl,rfl,rfl,by simp,λk p Q=>K k (λe=>Q (e▸h.here))⟩⟩
 ·obtain⟨D,E,p⟩:=h.BW e J g F;exact hty g _ _ _ p S4
 ·obtain⟨D,E,p⟩:=cE h.all F;exact hty g _ _ _ p S4
 by_cases N:k=b
 ·subst N;exact⟨(h.cz k p).1,_,_,_,I,.inl rfl⟩
 rw[K k N];exact h.cz k p
end
theorem gj.line{w:Xa}{b:Nat}{s:bY.LS}{rn:List (a_)}{L:Nat->Prop}{j:List En}{C:List (a_×bY.Wo)}{l y r B z:Xb}(h:gj w b s rn L j C l y r B z)(t:a_):fb (fJ b (s.write t) rn) w L (w.setCell ⟨b,1,none⟩ (str (dc s.jr++bY.line t))):=by
 obtain⟨h1,h2⟩:=h.cellOf (s':=s.write t) 1 (str (dc s.jr++bY.line t)) (vF':=y) (vB':=r) (vR':=B) (vN':=z) (fl':=C) rfl (by rw[show(s.write t).jr=s.jr++[t]from rfl,eB];rfl) h.fresh ⟨h.fr.dK,h.fr.len,h.fr.base⟩ h.cm h.cY h.runs (λg e=>h.dQ g (.inr e)) h.apart h.fe;exact⟨L,⟨j,C,l,y,r,B,z,h1⟩,λ_ h=>.inl h,λ_ h=>h,h2⟩
def DY(w b s rn L t)(h:fJ b s rn w L)(V:t.size<=100000000000000000)(F:(dc s.jr).length<=1000000000000000000):Calls Tryz.prog 105 #[ptr b,.string t] w λe w'=>e=.returned (.tuple #[])/\fb (fJ b (s.write t.1.1) rn) w L w':=by
 obtain⟨j,C,l,y,r,B,z,h⟩:=h;obtain⟨M,J,N,O,P,Q,R⟩:=h.cells;have U:=cj h.eb;obtain⟨m,u⟩:∃m:ba,str (dc s.jr)=.string m:=⟨_,rfl⟩;have p:=fO u;have T:m.size<=1000000000000000000:=by rw[VO,p];exact F
 obtain⟨x,hx⟩:∃x:ba,str (bY.line t.1.1)=.string x:=⟨_,rfl⟩;have D:=fO hx;have X:x.size=t.size+10:=by rw[VO,D];rw[bY.jC,VO]
 have n:=h.line t.1.1;have E:str (dc s.jr++bY.line t.1.1)=.string (m++x):=by
  apply lR;rw[dI,p,D]
 rw[E]at n;rw[u]at J;have HL:=bZ (λw=>yu t w R5);rw[hx]at HL;have I:=bZ (show fb (fJ b (s.write t.1.1) rn) w L (w.setCell ⟨b,1,none⟩ (.string (m++x))).drew from fb.post n (Bx.below (VM _ _).drew) (λL' K=>K.below (VM _ _).drew));have S:¬9223372036854775807<m.size+x.size:=R5;clear h n E p u hx D F;unfold ptr;go_enter Tryz.func105,Tryz.ntmps105;go_wp2_with fail
 go_region_with (first|(go_at_call 148;refine b_ (HL.Z _) λw' G=>?_;obtain rfl:=G.symm;clear G))
 all_goals
  go_wp2
  go_end0
  exact⟨rfl,I.Z⟩
end Ref
end
section
open Tryz
namespace Ref
variable{m:Array Oper}{K:Act->Xa->Prop}{Q:Exit->Act->Xa->Prop}{c:Cx}{s:bY.LS}{f:Nat}{l:Xb}{M:Nat->Prop}
def jq{o:Oper}{a:Act}{w:Xa}{E:Prop}(J:o.guard=none)(s x t)(R:o.op=Op.call {callee:=Callee.builtin Builtin.append,args:=#[s,x],argTypes:=#[t,t]})(e z size bytes)(X:prog.underlying t=some (.slice e))(L:(prog.info? e).map (λi=>(i.zero,i.size,i.bytes))=some (some z,size,bytes))(Z:z.cells.size=size)(V:0<size)(v n xs)(U:a.eval s=v)(S:w.ownsRow 8 e size v n xs)(B c r)(hx:a.eval x=.slice (some B) 1 c)(N:r.length=size)(P:∀j u,r[j]?=some u->w.cell? (B.add j)=some u)(h1:∀u∈r,u.oneCell'=true)(I:(n+1)*bytes<=140737488355328)(O:n+1<=maxLen)(F:8<=w.1.size)(G:∀g y p,p.ownsRow 8 e size (.slice (some ⟨g,0,none⟩) (n+1) y) (n+1) (xs++r)->w.grownBy p v.ownBlock->(v.ownBlock=some g\/g=w.1.size)->(∀b,v.ownBlock=some b->∃C D,p.1[b]?=some (.cells C e D))->K (a.put o.dst (.slice (some ⟨g,0,none⟩) (n+1) y)) p):if Region.wanted o (yielded m a.tmps)=true then Oper.wp prog o a w K Q else E:=by
 have Y:Region.wanted o (yielded m a.tmps)=true:=by simp[Region.wanted,J]
 rw[ag Y];obtain⟨g,y,p,T,r1,r2,r3,r4⟩:=iN t o.type e z size bytes X L Z V v n xs S B c r N P h1 I O F;unfold Oper.wp;simp[execOp,R,resolve,invoke,builtin,U,hx,T,Result.andThen];exact G g y p r1 r2 r3 r4
def jQ(w:Xa)(k)(cs:List Xb)(T):∀j u,cs[j]?=some u->((w.drewN k).alloc (.cells cs.toArray T)).cell? ((⟨w.1.size,0,none⟩:Addr).add j)=some u:=by
 intro j u b;have e:((w.drewN k).alloc (.cells cs.toArray T)).1[w.1.size]?=some (.cells cs.toArray T):=heap_alloc_new (w.drewN k) (.cells cs.toArray T);rw[addr_add,aG];simp only[World.cell?,e];simpa using b
def Fb:(prog.info? 204).map (λi=>(i.zero,i.size,i.bytes))=some (some (.agg #[.string ⟨#[]⟩,.int .i64 0,.string ⟨#[]⟩]),3,40):=S8
def N_:(Value.agg #[.string ⟨#[]⟩,.int .i64 0,.string ⟨#[]⟩]).cells.size=3:=S8
def ES.Jh{nd:List (a_×bY.Wo)}{w:Xa}(h:ES c s nd f l w M):∃L,fJ c.rb s c.rn w L/\∀B C,fb (fJ c.rb B c.rn) w L C->fb (ES c B nd f l) w M C:=by
 obtain⟨L,vN,h1,h2,I,J,u,y,T,U,V,S⟩:=h;refine⟨L,h1,λB C X=>?_⟩;obtain⟨L1,F,G,R,n⟩:=X;have P:=y.lt I;have O:∀k,k<w.1.size->¬L k->¬L1 k:=λk j z p=>by
  rcases G k p with h|h
  ·exact z h
  omega
 have Y:=KN.mK h1.cz n;refine⟨λk=>M k\/L1 k,⟨L1,vN,F,λk j=>.inr j,.inl I,O _ P J,λg r=>⟨.inl (u g r).1,O g (y.lt (u g r).1) (u g r).2⟩,λk j=>?_,(n.block _ P J).trans T,U,cJ V (λg r D E N=>(n.block g (cj N) (u g r).2).trans N),S.st Y⟩,λk j=>?_,λk j=>.inl j,⟨n.os,n.tape,n.output,n.size,λk j z=>n.block k j (λp=>z (h2 k p))⟩⟩
 ·by_cases p:L1 k
  ·exact F.cz k p
  rcases j with j|j
  ·have Z:¬L k:=λe=>p (R k e);obtain⟨a,D,t,E,b,d⟩:=y k j;exact⟨a,D,t,E,(n.block k (cj b) Z).trans b,d⟩
  exact(p j).elim
 rcases j with j|j
 ·exact .inl j
 rcases G k j with h|h
 ·exact .inl (h2 k h)
 exact .inr h
def ES.push{nd:List (a_×bY.Wo)}{w:Xa}(h:ES c s nd f l w M)(q):∃u,w.cell? ⟨c.qb,1,none⟩=some u/\(∀o,w.frozen? ⟨c.qb,o,none⟩=false)/\c.qb<w.1.size/\8<=w.1.size/\w.ownsRow 8 204 3 u nd.length (nd.flatMap eh) /\∀T,Xc w T->∀g B n,n.ownsRow 8 204 3 (.slice (some ⟨g,0,none⟩) (nd.length+1) B) (nd.length+1) (nd.flatMap eh++eh q)->T.grownBy n u.ownBlock->(u.ownBlock=some g\/g=T.1.size)->(∀b,u.ownBlock=some b->∃r y,n.1[b]?=some (.cells r 204 y)) ->(∃v,n.cell? ⟨c.qb,1,none⟩=some v)/\n.frozen? ⟨c.qb,1,none⟩=false/\c.qb<n.1.size/\(∀(k:Nat) (r),w.1[k]?=some (.cells r 166 (0,0))->(n.setCell ⟨c.qb,1,none⟩ (.slice (some ⟨g,0,none⟩) (nd.length+1) B)).1[k]?=some (.cells r 166 (0,0)))/\fb (ES c s (nd++[q]) f l) w M (n.setCell ⟨c.qb,1,none⟩ (.slice (some ⟨g,0,none⟩) (nd.length+1) B)):=by
 obtain⟨L,u,h1,h2,G,X,N,C,D,h8,P,ak⟩:=h;have S:=C.lt G;refine⟨u,by simp[World.cell?,D],λo=>by simp[World.frozen?,D],S,ah (C _ G).1 (aF S),P,λT z g B n V I U hold=>?_⟩;have aa:u.ownBlock≠some c.qb:=λe=>by
  obtain⟨r,y,p⟩:=cE P e;rw[D]at p;cases p
 have E:∀k,k<w.1.size->u.ownBlock≠some k->n.1[k]?=w.1[k]? := λk j R=>(I.block k (aw j z.size) (λe=>R e.symm)).trans (z.block k j);have O:n.1[c.qb]?=_:=(E _ S aa).trans D;have ab:w.1.size<=n.1.size:=ah z.size I.size;refine⟨⟨_,by simp[World.cell?,O];rfl⟩,by simp[World.frozen?,O],aw S ab,λk r j=>?_,?_⟩
 ·have F:k≠c.qb:=λe=>by rw[e,D]at j;cases j
  refine(VU n ⟨c.qb,1,none⟩ k _ F).trans ((E k (cj j) (λe=>?_)).trans j);obtain⟨ad,ai,p⟩:=cE P e;rw[j]at p;cases p
 have J:∀k,k≠c.qb->(n.setCell ⟨c.qb,1,none⟩ (.slice (some ⟨g,0,none⟩) (nd.length+1) B)).1[k]?=n.1[k]? := λk j=>VU n ⟨c.qb,1,none⟩ k _ j;have ao:g≠c.qb:=λe=>by
  rcases U with h|h
  ·exact aa (e▸h)
  have:=z.size;omega
 have am:∀k,L k->(n.setCell ⟨c.qb,1,none⟩ (.slice (some ⟨g,0,none⟩) (nd.length+1) B)).1[k]?=w.1[k]? := λk j=>(J k (λe=>X (e▸j))).trans (E k (C.lt (h2 k j)) (λe=>(N k e).2 j));have Z:KN w (n.setCell ⟨c.qb,1,none⟩ (.slice (some ⟨g,0,none⟩) (nd.length+1) B)):=λk r t y j ht=>by
  have F:k≠c.qb:=λe=>by rw[e,D]at j;cases j;rcases ht with h|h<;>cases h
  refine(J k F).trans ((E k (cj j) (λe=>?_)).trans j);obtain⟨ad,ai,p⟩:=cE P e;rw[j]at p;cases p;rcases ht with h|h<;>cases h
 refine⟨λk=>M k\/k=g,⟨L,.slice (some ⟨g,0,none⟩) (nd.length+1) B,h1.st am Z,λk j=>.inl (h2 k j),.inl G,X,λk j=>?_,λk j=>?_,?_,h8,?_,ak.st Z⟩,λk j=>?_,λk j=>.inl j,⟨I.os.trans z.os,I.tape.trans z.tape,I.output.trans z.output,by simp;exact ab,λk j R=>?_⟩⟩
 ·cases j;refine⟨.inr rfl,λhl=>?_⟩;rcases U with h|h
  ·exact(N g h).2 hl
  have:=C.lt (h2 g hl);have:=z.size;omega
 ·by_cases F:k=c.qb
  ·subst F;obtain⟨a,r,t,y,b,d⟩:=C _ G;rw[D]at b;exact⟨a,_,_,_,heap_setCell_same n c.qb 1 _ _ _ O,.inr (.inr (.inr (.inr (.inr rfl))))⟩
  rw[J k F];by_cases Y:k=g
  ·subst Y;obtain⟨r,y,p⟩:=cE V rfl;exact⟨(VT V k rfl).1,r,_,y,p,.inr (.inr (.inl rfl))⟩
  rcases j with j|j
  ·by_cases hv:u.ownBlock=some k
   ·obtain⟨r,y,p⟩:=hold k hv;exact⟨(C k j).1,r,_,y,p,.inr (.inr (.inl rfl))⟩
   rw[E k (C.lt j) hv];exact C k j
  exact(Y j).elim
 ·exact heap_setCell_same n c.qb 1 _ _ _ O
 ·rw[aj,Rm];exact cJ (by simpa using V) (λk j r y p=>by cases j;exact(J g ao).trans p)
 ·rcases j with j|rfl
  ·exact .inl j
  rcases U with h|h
  ·exact .inl (N k h).1
  rw[h];exact .inr z.size
 exact(J k (λe=>R (e▸G))).trans (E k j (λe=>R (N k e).1))
end Ref
end
section
open bY
open Tryz
namespace Ref
variable{S:Xa->(Nat->Prop)->Prop}{k:Nat}{x y:Xb}
def fb.on{a b c:Xa}{L L1:Nat->Prop}(h2:∀k,L1 k->L k\/a.1.size<=k)(u:∀k,L k->L1 k)(j:eu L a b)(h:fb S b L1 c):fb S a L c:=by
 obtain⟨l,m,n,p,r⟩:=h;refine⟨l,m,λk e=>?_,λk e=>p k (u k e),j.trans r h2⟩;rcases n k e with h|h
 ·exact h2 k h
 have:=j.size;exact .inr R5
def h_(w:Xa)(c:Int)(t:ba):Xa:=w.alloc (.cells #[.int .i64 c,.string t] 166)
def eI(w c t):Xc w (h_ w c t):=(VM _ w).alloc (af _) _
def oc(w c t):(h_ w c t).1[w.1.size]?=some (.cells #[.int .i64 c,.string t] 166 (0,0)):=heap_alloc_new w _
def lU(w k o):Xc w ((w.drewN k).alloc o):=(below_drewN (VM _ w) k).alloc (af _) o
def cX{w:Xa}(h:w.1[k]?=some (.cells #[x,y] 166 (0,0))):w.cell? ⟨k,0,none⟩=some x/\w.cell? ⟨k,1,none⟩=some y/\w.frozen? ⟨k,0,none⟩=false/\w.frozen? ⟨k,1,none⟩=false/\k<w.1.size:=by
 refine⟨by simp[World.cell?,h],by simp[World.cell?,h],by simp[World.frozen?,h],by simp[World.frozen?,h],cj h⟩
def eP(w):(dV w).1[w.1.size]?=some (.cells #[.int .i64 0,.string ⟨#[]⟩] 166 (0,0)):=heap_alloc_new w _
def eg(w):Xc w (dV w):=(VM _ w).alloc (af _) _
def kU{b:Nat}{w:Xa}(e:b<=k)(h:w.1[k]?=some (.cells #[x,y] 166 (0,0)))(j l):Bx b w ((w.setCell ⟨k,0,none⟩ j).setCell ⟨k,1,none⟩ l) :=(Bx.set e h j).trans (Bx.set e (heap_setCell_same w k 0 _ _ _ h) l)
def q8(c key w M s nd f B)(h:ES c s nd f B w M)(F:Pu c s nd (f+1))(E:key.size<=200):Calls prog 233 #[ptr c.rb,ptr c.qb,.string key] w (qF c (kJ key.1.1 f) s nd B w M):=by
 show Calls _ _ _ _ λe w'=>e=.returned (dC (cG c.n key.1.1 s).1)/\fb (ES c (cG c.n key.1.1 s).2 (ei nd key.1.1 (cG c.n key.1.1 s).1) f B) w M w';have h8:8<=w.1.size:=by obtain⟨L,vN,_,_,h3,_,_,h6,_⟩:=h;exact ah (h6 _ h3).1 (aF (h6.lt h3))
 obtain⟨mE,a2,a8,a9⟩:=F.p8;have bf:nd.length<=400:=R5;obtain⟨L,hL,G⟩:=(h.below (eg w)).Jh;have z:=c.says (dV w) s c.rn L key hL F.pre (λk E=>by rw[a2.cm];exact c.run k E);have hM:∀k,M k->k<w.1.size:=λk E=>h.cz.lt E;generalize cG c.n key.1.1 s=R at z G;obtain⟨r,s'⟩:=R;simp only at z G ⊢;obtain⟨b,j,aa⟩:=dw r;have a4:dY r=[.int .i64 b,.string j]:=by cases r<;>(cases aa;rfl)
 rw[aa]at z ⊢;have HS:=bZ z;have HT:=bZ G;have HX:=bZ (And.intro a4 F);clear z G aa a4 F hL h a2 a8 a9;unfold ptr;go_enter func233,ntmps233;go_wp2_with fail;refine b_ HS.Z λl ap=>?_;have hP:=HT.Z _ _ ap;clear HS HT ap;obtain⟨M1,ak,am,ao,D⟩:=hP;have m:l.1[w.1.size]?=some (.cells #[.int .i64 0,.string ⟨#[]⟩] 166 (0,0)):=(D.block _ (cj (eP w)) (λhm=>by have:=hM _ hm;omega)).trans (eP w);have p:=eI l b j;have Q:=ak.below p;have T:=(p.block _ (cj m)).trans m;obtain⟨b0,b1,b2,b3,b4⟩:=cX T;obtain⟨b5,b6,b7,b8,b9⟩:=cX (oc l b j);have bc:8<=(h_ l b j).1.size:=by have:=D.size;have:=p.size;have:=(eg w).size;omega
 have ay:∀(J:Xa) (ab:List (a_×Wo)),fb (ES c s' ab f B) (h_ l b j) M1 J->J.1[w.1.size]?=some (.cells #[.int .i64 0,.string ⟨#[]⟩] 166 (0,0))->fb (ES c s' ab f B) w M ((J.setCell ⟨w.1.size,0,none⟩ (.int .i64 b)).setCell ⟨w.1.size,1,none⟩ (.string j)):=λJ ab hz hb=>by
  exact fb.post (fb.pre (eg w) (fb.on am ao D (fb.pre p hz))) (kU (af _) hb _ _) (λL' a6=>a6.bx (kU (af _) hb _ _))
 obtain⟨vN,n1,n2,n3,n4,n5,Y⟩:=Q.push (key.1.1,r);have a3:eh (key.1.1,r)=[.string key,.int .i64 b,.string j]:=by unfold eh;rw[HX.Z.1,dG]
 rw[a3]at Y;obtain⟨oN,cN,rfl⟩:=dD n5;have a5:=bZ Q;have C:=bZ ay;have N:=bZ Y;have ai:=bZ n5;have ad:=bZ T;clear ak Q ay Y n5 am ao D p m T a3 HX;go_wp2
 go_loopw [8] (λiv wr=>∃i:Nat,iv=.int .i64 (i:Int)/\i<=nd.length/\wr=h_ l b j/\Hid (bY.cv nd key.1.1=bY.cv (nd.drop i) key.1.1)) (λiv _=>nd.length-(intOf iv).toNat)
 case atStart=>exact⟨0,rfl,ar _,rfl,bZ rfl⟩
 case round =>
  obtain⟨i,rfl,hi,rfl,HL⟩:=hrel;by_cases a0:i<nd.length
  ·have a7:(i:Int)<(nd.length:Int):=R5;have Z:=aq a0;have U:=aU a0;generalize nd[i]=q at Z U;obtain⟨g,P,hv,V,hc⟩:=fK tA S4 ai.Z Z;cases hv;have z0:=hc 0 _ rfl;simp only[aR]at z0;unfold str at z0;obtain⟨x,hx⟩:∃x:ba,(⟨q.1.toArray⟩:ba)=x:=⟨_,rfl⟩;have I:x.1.1=q.1:=TH;rw[hx]at z0;have ax:=jo x key;have HP:=bZ U;clear U hc hx Z;by_cases n:x.1.1=key.1.1
   ·rw[aQ n]at ax;have O:Hid (ei nd key.1.1 r=nd):=bZ (by
     unfold ei;rw[HL.Z,HP.Z,ee,ag (I.symm.trans n)];rfl)
    have K:=bZ (C.Z _ nd (fb.refl a5.Z) ad.Z);clear n I N C;go_wp2;exact VN (v:=.agg #[.int .i64 b,.string j]) (by simp[results,results233,go_sem,b0,b1,b2,b3,b4]) rfl ⟨rfl,by rw[O.Z];exact K.Z⟩
   rw[aN n]at ax;have HQ:Hid (¬q.1=key.1.1):=bZ (λe=>n (I.trans e));clear n I;go_wp2;refine⟨⟨i+1,by go_num,by omega,by first|rfl|trivial,bZ (by rw[HL.Z,HP.Z,ee,ae HQ.Z])⟩,?_⟩;simp[intOf];omega
  have a7:¬(i:Int)<(nd.length:Int):=R5;have O:Hid (ei nd key.1.1 r=nd++[(key.1.1,r)]):=bZ (by
   unfold ei;rw[HL.Z,aT R5];rfl)
  go_wp2_with fail
  go_region_law (refine jq rfl (.tmp 36) (.tmp 40) 98 rfl 204 _ 3 40 underlying98 Fb N_ S4 (.slice oN nd.length cN) _ (nd.flatMap eh) rfl (VY (w:=(h_ l b j).drewN _) ai.Z _) ⟨(h_ l b j).1.size,0,none⟩ 1 [.string key,.int .i64 b,.string j] rfl rfl (jQ _ _ _ _) UK R5 Th Tc ?_;intro g P w3 ho V aC hold;obtain⟨⟨v0,bh⟩,bd,bg,X,av⟩:=N.Z _ (lU _ _ _) g P w3 ho V aC hold;have m:=X _ _ ad.Z;obtain⟨e5,e6,e7,e8,e9⟩:=cX (X _ _ (oc l b j));obtain⟨e0,e1,e2,e3,e4⟩:=cX m;have K:=bZ (C.Z _ _ av m);clear N C av m X ho V aC hold)
  all_goals
   generalize w3.setCell ⟨c.qb,1,none⟩ (.slice (some ⟨g,0,none⟩) (nd.length+1) P)=w4 at *;go_wp2;exact VN (v:=.agg #[.int .i64 b,.string j]) (by simp[results,results233,go_sem,e0,e1,e2,e3,e4]) rfl ⟨rfl,by rw[O.Z];exact K.Z⟩
end Ref
end
section
open bY
namespace Ref
variable{n c:Nat}{s:LS}{key:a_}
structure tB(n:Nat)(s:LS):Prop where
 kb:KB s.ct
 un:Un s<n
 cm:s.cm.length+n<=200
 nf:s.done.length+1000*Rs s+1000*(n+1)<=1000000
 du:s.du.length+Rs s+n+1<=1000
 fs:hZ s
 hl:HL s.ct
 ph:Ph s<=1000000000000000000
 br:∀k∈s.cm,k∈bY.dK s.ct
def tB.due{s':LS}(h:tB n s)(b:jk s s' c)(m:c<=401)(j:hZ s')(l:Ph s'<=Ph s):wH n s' where
 kb:=b.kb h.kb
 un:=by rw[b.un];exact h.un
 cm:=by rw[b.cm];exact h.cm
 nf:=by have:=h.nf;have:=b.nf;omega
 du:=by have:=h.du;have:=b.du;omega
 fs:=j
 hl:=h.hl.dd b.dd
 ph:=ah l h.ph
 br k e:=by rw[b.dK];rw[b.cm]at e;exact h.br k e
def tB.run{e s':LS}(h:tB n s)(l:jk s e 401)(B:Ph e<=Ph s)(y)(j:jk {e with du:=e.du++[y]} s' c)(u:c<=400)(p:hZ s')(z:Ph s'<=Ph {e with du:=e.du++[y]}):wH n s':=by
 have r:Rs {e with du:=e.du++[y]}=Rs e:=rfl;have C:Ph {e with du:=e.du++[y]}=Ph e:=rfl;have hu:Un {e with du:=e.du++[y]}=Un e:=rfl;have a:=j.nf;have b:=j.du;rw[r]at a b;have a:s'.done.length+1000*Rs s'<=e.done.length+1000*Rs e+c:=a;have b:s'.du.length+Rs s'<=(e.du++[y]).length+Rs e:=b;rw[aj]at b;simp only[aM,Ra]at b;exact{
  kb:=j.kb (l.kb h.kb)
  un:=by rw[j.un,hu,l.un];exact h.un
  cm:=UE
  nf:=by have:=h.nf;have:=l.nf;omega
  du:=by have:=h.du;have:=l.du;omega
  fs:=p
  hl:=(h.hl.dd l.dd).dd j.dd
  ph:=by have:=h.ph;omega
  br:=λk m=>by
   rw[j.dK];rw[j.cm]at m;show k∈bY.dK e.ct;rw[l.dK];have m:k∈e.cm:=m;rw[l.cm]at m;exact h.br k m}
def wH.work(h:wH (n+1) s){th:cC}{t:bY.T}(hl:bY.cv s.ct key=some th)(e:th.di=some t)(j:s.cm.contains key=false):tB n {s with cm:=s.cm++[key]} where
 kb:=h.kb
 un:=by have:=Bi s key (iq hl TR) j;have:=h.un;omega
 cm:=by have:=h.cm;show(s.cm++[key]).length+n<=200;simp;omega
 nf:=h.nf
 du:=h.du
 fs:=⟨h.fs.val,h.fs.di,h.fs.kept,h.fs.done⟩
 hl:=h.hl
 ph:=h.ph
 br k b:=by
  have b:k∈s.cm++[key]:=b;rcases aL.1 b with b|b
  ·exact h.br k b
  rw[Q_.1 b];exact iq hl TR
end Ref
end
section
open Tryz
namespace jU
def i_{w:Xa}{e:TypeId}{m n g b:Nat}{xs:List Xb}(h:w.ownsRow 8 e m (.slice (some ⟨g,0,none⟩) n b) n xs)(i v):(w.setCell ⟨g,i,none⟩ v).ownsRow 8 e m (.slice (some ⟨g,0,none⟩) n b) n (xs.set i v)/\eu (λk=>k=g) w (w.setCell ⟨g,i,none⟩ v):=by
 rcases h.2 with⟨u,_⟩|⟨G,F,p,r,h2,y,z,B,C,D⟩
 ·cases u
 cases r;refine⟨⟨by rw[aY];exact h.1,.inr ⟨g,b,p.setIfInBounds i v,rfl,h2,heap_setCell_same w g i _ _ v y,z,B,by rw[Array.size_setIfInBounds];exact C,?_⟩⟩,⟨rfl,rfl,rfl,by simp,λk I E=>VU w ⟨g,i,none⟩ k _ E⟩⟩;rw[Array.toList_setIfInBounds,<-D,List.take_set]
def NH(g:Nat):Xa->Nat->List Xb->Xa
 |w,_,[]=>w
 |w,b,v::e=>NH g (w.setCell ⟨g,b,none⟩ v) (b+1) e
def La:List Xb->Nat->List Xb->List Xb
 |xs,_,[]=>xs
 |xs,b,v::e=>La (xs.set b v) (b+1) e
def B9{e:TypeId}{m n g r:Nat}:∀(p:List Xb) {w:Xa}{b:Nat}{xs:List Xb},w.ownsRow 8 e m (.slice (some ⟨g,0,none⟩) n r) n xs->(NH g w b p).ownsRow 8 e m (.slice (some ⟨g,0,none⟩) n r) n (La xs b p)/\eu (λk=>k=g) w (NH g w b p)
 |[],w,b,xs,h=>⟨h,⟨rfl,rfl,rfl,af _,λk u E=>rfl⟩⟩
 |v::D,w,b,xs,h=>by
  obtain⟨y,z⟩:=i_ h b v;obtain⟨B,C⟩:=B9 D y (b:=b+1);exact⟨B,z.trans C (λk u=>.inl u)⟩
def B_:∀(e a b c:List Xb),e.length=b.length->La (a++(b++c)) a.length e=a++(e++c)
 |[],a,b,c,h=>by
  obtain rfl:b=[]:=RN h.symm;rfl
 |v::e,a,y::b,c,h=>by
  show La ((a++(y::(b++c))).set a.length v) (a.length+1) e=_;rw[SH _ _ (af _),Nat.sub_self];have:=B_ e (a++[v]) b c Ts;simpa using this
def Lb{q:Fin 3}{xs:List Xb}{i n m:Nat}(hx:xs.length=n*mA q)(hi:i<n):La (marks q i m++xs.drop (i*mA q)) (i*mA q) (Am q m)=marks q (i+1) m++xs.drop ((i+1)*mA q):=by
 have h1:=sO q m i;have h2:(i+1)*mA q<=n*mA q:=Rt _ hi;rw[Sl]at h2 ⊢;have b:=B_ (Am q m) (marks q i m) ((xs.drop (i*mA q)).take (mA q)) ((xs.drop (i*mA q)).drop (mA q)) (by rw[uq,Rf,aV];omega);rw[h1,R8,List.drop_drop]at b;rw[qI,RU];exact b
def jQ(w:Xa)(k)(cs:List Xb)(T):∀j u,cs[j]?=some u->((w.drewN k).alloc (.cells cs.toArray T)).cell? ((⟨w.1.size,0,none⟩:Addr).add j)=some u:=by
 intro j u b;have e:((w.drewN k).alloc _).1[w.1.size]?=some _:=heap_alloc_new _ (.cells cs.toArray T);rw[addr_add,aG];simp only[World.cell?,e];simpa using b
def lU(w k o):Xc w ((w.drewN k).alloc o):=(gH w k).alloc (af _) o
def NI:∀q m,∀u∈Am q m,u.oneCell'=true
 |0,m,u,h=>by simp[Am]at h;rw[h];rfl
 |1,m,u,h=>by simp[Am]at h;rcases h with rfl|rfl|rfl<;>rfl
 |2,m,u,h=>by simp[Am]at h;rcases h with rfl|rfl|rfl|rfl|rfl|rfl<;>rfl
def pF{q:Fin 3}{wr:Xa}{gv:Xb}{n N:Nat}{t e:TypeId}{z:Xb}{size bytes:Nat}{cs:Array Xb}(F:wr.ownsRow 8 (p7 q) (mA q) gv n (marks q n (N+1)))(P:n<=1000)(C:8<=wr.1.size)(E:e=p7 q)(D:cs.toList=Am q (N+1))(K:prog.underlying t=some (.slice e))(G:(prog.info? e).map (λi=>(i.zero,i.size,i.bytes))=some (some z,size,bytes))(J:size=mA q)(L:z.cells.size=size)(b:bytes<=100):∃g p m,(Builtin.append_ #[t,t] t #[gv,.slice (some ⟨wr.1.size,0,none⟩) 1 1]).run prog (wr.alloc (.cells cs e))=.ok (.slice (some ⟨g,0,none⟩) (n+1) p) m/\m.ownsRow 8 (p7 q) (mA q) (.slice (some ⟨g,0,none⟩) (n+1) p) (n+1) (marks q n (N+1)++Am q (N+1))/\(wr.alloc (.cells cs e)).grownBy m gv.ownBlock/\((gv.ownBlock=some g/\∃r,gv=.slice (some ⟨g,0,none⟩) n r/\r=p)\/(g=(wr.alloc (.cells cs e)).1.size/\Below (wr.alloc (.cells cs e)).1.size (wr.alloc (.cells cs e)) m)):=by
 subst E J;have y:Below _ wr (wr.alloc (.cells cs (p7 q))):=(VM _ wr).alloc (af _) _;have I:=heap_alloc_new wr (.cells cs (p7 q));have h1:=cJ F (λk O cs M b=>(y.block k (cj b)).trans b);refine tC t t (p7 q) _ (mA q) bytes K G L (pE q q).2.2.2.2 gv n _ h1 ⟨wr.1.size,0,none⟩ 1 (Am q (N+1)) (uq _ _) (λj u B=>?_) (NI _ _) ?_ Th (ah C y.size)
 ·rw[addr_add,aG];simp only[World.cell?,I];rw[<-D]at B;simpa using B
 have:=Nat.mul_le_mul (show n+1<=1001 by omega) b;omega
section
variable {q:Fin 3}{w:Xa}{wb:Nat}{vL vR:Xb}{N:Nat}{hs:Fin 3->List (Xb×Nat×Nat)}{H:Nat->Prop}{l:Xb}{n j:Nat}{gv:Xb}{vN:Fin 3->Xb}{hs':Fin 3->List (Xb×Nat×Nat)}{H':Nat->Prop}{wr:Xa}
structure Nm(q:Fin 3)(w:Xa)(wb:Nat)(vL vR:Xb)(N:Nat)(hs:Fin 3->List (Xb×Nat×Nat))(H:Nat->Prop)(l:Xb)(n j:Nat)(gv:Xb)(vN:Fin 3->Xb)(hs':Fin 3->List (Xb×Nat×Nat))(H':Nat->Prop)(wr:Xa):Prop where
 hd:jS wr wb vL vR vN (N+1) hs' H'
 sv:wr.ownsRow 8 (p7 q) (mA q) gv n (marks q n (N+1))
 eb:∀p∈hs' q,∀b,gv.ownBlock=some b->p.1.ownBlock=some b->∃k c,p=(.slice (some ⟨b,0,none⟩) k c,k,N+1)/\gv=.slice (some ⟨b,0,none⟩) n c/\k<=n
 len:∀r,(hs' r).length<=(hs r).length+j
 sub:∀k,H' k->H k\/l.ownBlock=some k\/w.1.size<=k
 mK:eu (λk=>H k\/k=wb\/l.ownBlock=some k) w wr
 own:∀g,gv.ownBlock=some g->g≠wb/\(l.ownBlock=some g\/w.1.size<=g)
def Lc{w:Xa}{e:TypeId}{m n:Nat}{v:Xb}{xs:List Xb}(h:w.ownsRow 8 e m v n xs){b:Nat}(p:v.ownBlock=some b):∃c,v=.slice (some ⟨b,0,none⟩) n c:=by
 rcases h.2 with⟨e,_⟩|⟨g,r,u,e,_⟩
 ·rw[e]at p;cases p
 rw[e]at p;cases p;exact⟨r,e⟩
def Nm.push(h:Nm q w wb vL vR N hs H l n j gv vN hs' H' wr)(J:n<=1000){c m:Nat}(z:c=3+q.val)(I:(hs' q).length=m){w1 w2:Xa}{g cP:Nat}(F:Xc wr w1)(E:w2.ownsRow 8 (hty q) 2 (.slice (some ⟨g,0,none⟩) (m+1) cP) (m+1) ((hs' q).flatMap wU++[gv,.int .i64 ((N:Int)+1)]))(B:w1.grownBy w2 (vN q).ownBlock)(G:((vN q).ownBlock=some g/\∃C,vN q=.slice (some ⟨g,0,none⟩) m C/\C=cP)\/(g=w1.1.size/\Xc w1 w2)):(∃vN hs' H',Nm q w wb vL vR N hs H l n (j+1) gv vN hs' H' (w2.setCell ⟨wb,c,none⟩ (.slice (some ⟨g,0,none⟩) (m+1) cP)))/\(∃v,w2.cell? ⟨wb,c,none⟩=some v)/\w2.frozen? ⟨wb,c,none⟩=false/\wb<w2.1.size:=by
 subst I;rw[show(N:Int)+1=((N+1:Nat):Int)from rfl]at E;obtain⟨W,rfl,L,M,O,P,Q,R,S⟩:=h.hd.push z h.sv J (λg B=>(h.own g B).1) F E B G;have T:=h.mK.size;refine⟨⟨_,_,_,L,M,λp y b D K=>?_,λr=>?_,λk u=>?_,h.mK.trans P (λk u=>?_),h.own⟩,Q,R,S⟩
 ·rw[Ae]at y;rcases aL.1 y with y|y
  ·exact h.eb p y b D K
  simp at y;subst y;obtain⟨c,z⟩:=Lc h.sv D;exact⟨n,c,by rw[z],z,af _⟩
 ·have:=h.len r;show(if r=q then _ else _:List _).length<=_;split
  ·rename_i e;subst e;rw[aj];show _+1<=_;omega
  omega
 ·rcases u with u|u|u
  ·exact h.sub k u
  ·rcases O k u with h1|h1
   ·exact h.sub k h1
   exact .inr (.inr R5)
  rcases(h.own k u).2 with h1|h1
  ·exact .inr (.inl h1)
  exact .inr (.inr h1)
 rcases u with u|u
 ·rcases h.sub k u with h1|h1|h1
  ·exact .inl (.inl h1)
  ·exact .inl (.inr (.inr h1))
  exact .inr h1
 exact .inl (.inr (.inl u))
def Nm.more(h:Nm q w wb vL vR N hs H l n j gv vN hs' H' wr){w1 w2:Xa}{g e:Nat}(y:Xc wr w1)
  (C:w2.ownsRow 8 (p7 q) (mA q) (.slice (some ⟨g,0,none⟩) (n+1) e) (n+1) (marks q n (N+1)++Am q (N+1))) (r:w1.grownBy w2 gv.ownBlock) (B:(gv.ownBlock=some g/\∃u,gv=.slice (some ⟨g,0,none⟩) n u/\u=e)\/(g=w1.1.size/\Xc w1 w2)) :
  Nm q w wb vL vR N hs H l (n+1) j (.slice (some ⟨g,0,none⟩) (n+1) e) vN hs' H' w2:=by
 obtain⟨F,G,I,J,K,L⟩:=h.hd.more h.sv (λg r=>(h.own g r).1) h.eb y C r B;have M:=h.mK.size;refine⟨F,G,λp D b m E=>?_,h.len,h.sub,h.mK.trans L (λk z=>?_),λb m=>?_⟩
 ·cases m;exact I p D E
 ·rcases(h.own k z).2 with h1|h1
  ·exact .inl (.inr (.inr h1))
  exact .inr h1
 cases m;refine⟨J,?_⟩;rcases K with h1|h1
 ·exact(h.own g h1).2
 exact .inr (show w.1.size<=g by omega)
def L1(q:Fin 3)(w:Xa)(wb:Nat)(vL vR:Xb)(vN:Fin 3->Xb)(N:Nat)(hs:Fin 3->List (Xb×Nat×Nat))(H:Nat->Prop)(l:Xb)(n:Nat)(xs:List Xb)(i:Nat)(wr:Xa):Prop :=jS wr wb vL vR vN (N+1) hs H/\wr.ownsRow 8 (p7 q) (mA q) l n (marks q i (N+1)++xs.drop (i*mA q))/\eu (λk=>H k\/k=wb\/l.ownBlock=some k) w wr
def L1.zero{w0:Xa}{xs:List Xb}(h:jS w0 wb vL vR vN N hs H)(u:w0.ownsRow 8 (p7 q) (mA q) l n xs)(p:∀g,l.ownBlock=some g->¬H g/\g≠wb)(b:Below (w0.setCell ⟨wb,2,none⟩ (.int .i64 ((N:Int)+1))).1.size (w0.setCell ⟨wb,2,none⟩ (.int .i64 ((N:Int)+1))) w):L1 q w wb vL vR vN N hs H l n xs 0 w/\eu (λk=>k=wb) w0 w:=by
 obtain⟨h1,f1⟩:=h.count;rw[show((N+1:Nat):Int)=(N:Int)+1 from rfl]at h1 f1;have f2:=f1.trans (eu.below b (L:=λk=>k=wb)) (λk m=>.inl m);refine⟨⟨h1.below b,?_,⟨rfl,rfl,rfl,af _,λk m B=>rfl⟩⟩,f2⟩;rw[RY];exact cJ u (λg r y z e=>(f2.block g (cj e) (p g r).2).trans e)
def L1.next{xs:List Xb}{i:Nat}(h:L1 q w wb vL vR vN N hs H l n xs i wr)(hi:i<n)(B:∀g,l.ownBlock=some g->¬H g/\g≠wb)(hx:xs.length=n*mA q){z:Nat}(D:z=mA q):∃g c,l=.slice (some ⟨g,0,none⟩) n c/\g<wr.1.size/\(∀k,k<z->∃u,wr.cell? ⟨g,i*z+k,none⟩=some u)/\(∀k,wr.frozen? ⟨g,k,none⟩=false)/\L1 q w wb vL vR vN N hs H l n xs (i+1) (NH g wr (i*z) (Am q (N+1))):=by
 subst D;obtain⟨h1,h2,y⟩:=h;have C:(i+1)*mA q<=n*mA q:=Rt _ hi;rw[Sl]at C;rcases h2.2 with⟨_,F⟩|⟨g,c,E,rfl,_,m,_⟩
 ·omega
 obtain⟨r,e⟩:=B9 (Am q (N+1)) (b:=i*mA q) h2;rw[Lb hx hi]at r;have p:=B g rfl;refine⟨g,c,rfl,cj m,λk b=>?_,λk=>by simp[World.frozen?,m],h1.st (λk b=>e.block k ?_ ?_) e.size,r,y.trans e (λk b=>.inl (.inr (.inr (by rw[b];rfl))))⟩
 ·have:=h2.cells (g:=g) rfl (i*mA q+k) _ (aq (by rw[h2.1];omega));rw[addr_add,aG]at this;exact⟨_,this⟩
 ·rcases b with b|rfl
  ·exact(h1.cz k b).2.1
  exact cj h1.eb
 rintro rfl;rcases b with b|b
 ·exact p.1 b
 exact p.2 b
def L1.nm{xs:List Xb}(h:L1 q w wb vL vR vN N hs H l n xs n wr)(u:∀g,l.ownBlock=some g->¬H g/\g≠wb)(hx:xs.length=n*mA q):Nm q w wb vL vR N hs H l n 0 l vN hs H wr:=by
 obtain⟨e,m,z⟩:=h;rw[<-hx,List.drop_length,RD]at m;exact⟨e,m,λp D b B E=>((u b B).1 (e.Ag q p D b E)).elim,λr=>af _,λk C=>.inl C,z,λg y=>⟨(u g y).2,.inl y⟩⟩
def Ld(w:Xa)(wb:Nat)(vL vR:Xb)(N:Nat)(hs:Fin 3->List (Xb×Nat×Nat))(H:Nat->Prop)(l:Xb)(e:Ending)(w':Xa):Prop :=e=.returned (.tuple #[])/\∃b hs' H',jS w' wb vL vR b (N+1) hs' H'/\(∀r,(hs' r).length<=(hs r).length+4)/\(∀k,H' k->H k\/l.ownBlock=some k\/w.1.size<=k)/\eu (λk=>H k\/k=wb\/l.ownBlock=some k) w w'
def Nm.done{w0:Xa}(h:Nm q w wb vL vR N hs H l n 4 gv vN hs' H' wr)(b:eu (λk=>k=wb) w0 w):Ld w0 wb vL vR N hs H l (.returned (.tuple #[])) wr:=by
 have r:=b.size;refine⟨rfl,_,_,_,h.hd,h.len,λk m=>?_,eu.trans ⟨b.os,b.tape,b.output,r,λk m p=>b.block k m (λe=>p (.inr (.inl e)))⟩ h.mK (λk m=>.inl m)⟩;rcases h.sub k m with h|h|h
 ·exact .inl h
 ·exact .inr (.inl h)
 exact .inr (.inr R5)
def ur(q:Fin 3)(f:FuncId):Prop:=∀w wb vL vR vN N hs H,jS w wb vL vR vN N hs H->∀l n xs,w.ownsRow 8 (p7 q) (mA q) l n xs->n<=900->(∀g,l.ownBlock=some g->¬H g/\g≠wb)->N<=100000000->(∀r,(hs r).length<=100000000)->8<=w.1.size->Calls prog f #[.pointer (some ⟨wb,2,none⟩),l] w (Ld w wb vL vR N hs H l)
def Nm.qp(h:Nm q w wb vL vR N hs H l n j gv vN hs' H' wr)(C:n<=1000){c:Nat}{t:TypeId}(B:c=3+q.val)(D:t=hty q):∃o m e xs,m<=(hs q).length+j/\wb<wr.1.size/\wr.cell? ⟨wb,2,none⟩=some (.int .i64 ((N:Int)+1))/\wr.cell? ⟨wb,c,none⟩=some (.slice o m e)/\wr.ownsRow 8 t 2 (.slice o m e) m xs/\∀(r b:Xa) (g u:Nat),Xc wr r->b.ownsRow 8 t 2 (.slice (some ⟨g,0,none⟩) (m+1) u) (m+1) (xs++[gv,.int .i64 ((N:Int)+1)])->r.grownBy b (Value.slice o m e).ownBlock->((Value.slice o m e).ownBlock=some g/\∃z,Value.slice o m e=.slice (some ⟨g,0,none⟩) m z/\z=u)\/(g=r.1.size/\Xc r b) ->(∃vN hs' H',Nm q w wb vL vR N hs H l n (j+1) gv vN hs' H' (b.setCell ⟨wb,c,none⟩ (.slice (some ⟨g,0,none⟩) (m+1) u)))/\(∃v,b.cell? ⟨wb,c,none⟩=some v)/\b.frozen? ⟨wb,c,none⟩=false/\wb<b.1.size:=by
 subst D;obtain⟨o,e,y⟩:=Ref.dD (h.hd.row q);have p:=h.hd.eb;refine⟨o,_,e,_,h.len q,cj p,by simp[World.cell?,p],?_,by rw[<-y];exact h.hd.row q,λr b g u=>by rw[<-y];exact h.push C B rfl⟩;rw[<-y];subst B
 match q with
 |0=>simp[World.cell?,p]
 |1=>simp[World.cell?,p]
 |2=>simp[World.cell?,p]
end
def Od:(prog.info? 158).map (λi=>(i.zero,i.size,i.bytes))=some (some (.agg #[.slice none 0 0,.int .i64 0]),2,32):=S8
def sQ:(Value.agg #[.slice none 0 0,.int .i64 0]).cells.size=2:=S8
def Hd:ur 0 73:=by
 intro w wb vL vR vN N hs H h l n xs J hn ai hN I aa;obtain⟨Q,p,rfl⟩:=Ref.dD J;have c2:w.cell? ⟨wb,2,none⟩=some (.int .i64 (N:Int)):=cr h.eb rfl;have cf:∀o,w.frozen? ⟨wb,o,none⟩=false:=λo=>fq h.eb;obtain⟨xm,O⟩:∃x:ba,str (gp (N+1))=.string x:=⟨_,rfl⟩;have M:=λw=>rQ (N+1) w R5;rw[O,show((N+1:Nat):Int)=(N:Int)+1 from rfl]at M;have Z:=bZ M;have b:=bZ (And.intro h (And.intro J (And.intro ai aa)));have HX:=bZ O;have ax:=bZ I;clear h J ai O M I aa;go_enter func73,ntmps73;go_wp2_with(go_at_call 79;refine b_ (Z.Z _) λr ab=>?_);obtain⟨h1,ad⟩:=L1.zero b.Z.1 b.Z.2.1 b.Z.2.2.1 ab;have S:=bZ h1;have y:=bZ ad;clear h1 ad ab Z c2 cf
 go_loopw [5] (λe wr=>∃i:Nat,e=.int .i64 (i:Int)/\i<=n/\Hid (L1 0 r wb vL vR vN N hs H (.slice Q n p) n xs i wr)) (λe _=>n-(intOf e).toNat)
 case atStart=>exact⟨0,rfl,ar _,S⟩
 case round =>
  obtain⟨i,rfl,hi,B⟩:=hrel;by_cases a7:i<n
  ·have a4:(i:Int)<(n:Int):=R5;obtain⟨g,c,hv,hg,hy,ak,m⟩:=B.Z.next a7 b.Z.2.2.1 b.Z.2.1.1 (z:=1) rfl;cases hv;obtain⟨u0,y0⟩:=hy 0 S4;rw[Rh]at y0 m;rw[aR]at y0;have m:L1 0 r wb vL vR vN N hs H (.slice (some ⟨g,0,none⟩) n p) n xs (i+1) (wr.setCell ⟨g,i,none⟩ (str (gp (N+1)))):=m;rw[HX.Z]at m;have aC:=bZ m;clear m hy;go_wp2;refine⟨⟨i+1,by go_num,by omega,aC⟩,?_⟩;simp[intOf];omega
  have a4:¬(i:Int)<(n:Int):=R5;obtain rfl:i=n:=R5;have V:=bZ (B.Z.nm b.Z.2.2.1 b.Z.2.1.1);clear B S;go_wp2
  go_loopw [6,7] (λgv e wr=>∃j:Nat,e=.int .i64 (j:Int)/\j<=3/\(∃o c,gv=.slice o (i+j) c)/\Hid (∃bf hs' H',Nm 0 r wb vL vR N hs H (.slice Q i p) (i+j) j gv bf hs' H' wr)) (λ_ e _=>3-(intOf e).toNat)
  case atStart=>exact⟨0,rfl,ar _,⟨_,_,rfl⟩,bZ ⟨_,_,_,V.Z⟩⟩
  case round =>
   clear V;obtain⟨j,rfl,hj,⟨P,D,rfl⟩,U⟩:=hrel;obtain⟨bn,bl,H2,hM⟩:=U.Z;obtain⟨oN,m2,cN,xN,bk,bm,c2,c3,ao,am⟩:=hM.qp R5 (c:=3) (t:=158) rfl rfl;have I:=ax.Z 0;have bh:8<=wr.1.size:=by have:=hM.mK.size;have:=y.Z.size;have:=b.Z.2.2.2;omega
   have X:=bZ am;have Y:=bZ ao;clear hM am ao U;by_cases bj:j<3
   ·have a5:(j:Int)<3:=R5
    go_upto_region 10 with fail
    go_cut []from 32 to 54 (λwx=>Hid (∃av ap T,Nm 0 r wb vL vR N hs H (.slice Q i p) (i+j) (j+1) (.slice P (i+j) D) av ap T wx))
    case first =>
     go_region_law (refine fV rfl (.tmp 40) (.tmp 47) 87 rfl 158 _ 2 32 underlying87 Od sQ S4 (.slice oN m2 cN) _ xN rfl (VY (w:=wr.drewN _) Y.Z _) ⟨wr.1.size,0,none⟩ 1 [.slice P (i+j) D,.int .i64 ((N:Int)+1)] rfl rfl (jQ _ _ _ _) T0 R5 Th Tc ?_;intro E C w3 L G K;obtain⟨R,⟨v0,bd⟩,ak,a9⟩:=X.Z _ w3 E C (lU _ _ _) L G K;have z:=bZ R)
     all_goals
      go_wp2
      go_meet
      case rel=>exact z
    case rest =>
     generalize wc=W4 at *;obtain⟨av,ap,T,F⟩:=hcut.Z;have a2:8<=W4.1.size:=by have:=F.mK.size;have:=y.Z.size;have:=b.Z.2.2.2;omega
     obtain⟨g5,bg,w5,bc,a8,a3,a6⟩:=pF (cs:=#[.string xm]) F.sv R5 a2 rfl (by rw[<-HX.Z];rfl) underlying40 Ref.qA rfl rfl S4;have ay:=bZ (F.more ((VM _ W4).alloc (af _) _) a8 a3 a6);have a0:=bZ bc
     apply_assumption
     go_wp2_with(at_builtin;refine cW _ rfl _ _ _ _ rfl _ _ _ _ rfl rfl a0.Z ?_)
     go_roundw
     case rel=>exact⟨j+1,by go_num,by omega,⟨_,_,rfl⟩,bZ ⟨_,_,_,ay.Z⟩⟩
     case measure=>simp[intOf];omega
   have a5:¬(j:Int)<3:=R5;obtain rfl:j=3:=R5
   go_upto_region 12 with fail
   go_region_law (refine fV rfl (.tmp 59) (.tmp 66) 87 rfl 158 _ 2 32 underlying87 Od sQ S4 (.slice oN m2 cN) _ xN rfl (VY (w:=wr.drewN _) Y.Z _) ⟨wr.1.size,0,none⟩ 1 [.slice P (i+3) D,.int .i64 ((N:Int)+1)] rfl rfl (jQ _ _ _ _) T0 R5 Th Tc ?_;intro E C w3 L G K;obtain⟨R,⟨v0,bd⟩,ak,a9⟩:=X.Z _ w3 E C (lU _ _ _) L G K;have z:=bZ R)
   all_goals
    go_wp2
    go_end0
    obtain⟨_,_,_,hq⟩:=z.Z;exact hq.done y.Z
end jU
end
