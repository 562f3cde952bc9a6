/- Out of L16. -/
import Derived.Test.YtpekpdimdelncaaGreatDoorP23
set_option linter.unusedVariables false
set_option linter.unusedSimpArgs false
set_option maxRecDepth 100000
set_option maxHeartbeats 1000000
set_option linter.defProp false
namespace Go.Proofs.YtpekpdimdelncaaGreatDoor
open Go.RowKit Go.Shelf
section
open bY
open Tryz
variable{c:Rc}{fz:Nat×Nat}{C:QV->Prop}{j n p:Nat}{s:LS}{L:Nat->Prop}{x i:Xa}{r:Wo}{ns:List (a_×Wo)}{m:a_}{th:cu}
attribute [local go_sem] Oper.semAt_some
def pW(j:Nat)(b:a_->LS->Wo×LS)(P:LS->Prop):Prop :=∀(W:QV) (s:LS) (L:Nat->Prop) (m:ba),fD W j s L->G W->jI W->P s->m.size<=200 ->Calls prog 49 #[ptr j,.string m] W λe w'=>∃x,e=.returned x/\g_ w' (b m.1.1 s).1 x/\cH W j L (b m.1.1 s).2 w'/\fN (b m.1.1 s).2<=fN s/\jg s (b m.1.1 s).2 1
def jC(b:a_->LS->Wo×LS)(m:a_)(σ:Sg):Except Nat V×Sg :=((b m σ.1.1).1,(((b m σ.1.1).2,dW σ.1.2 m (b m σ.1.1).1),σ.2+1))
def Ax(c:Rc)(b:a_->LS->Wo×LS)(dc:Xa):Env where
 σ:=Sg
 N:=jC b
 kO:=λσ=>σ.2
 J:=JL c
 rb:=c.rb
 l:=c.l
 base:=8
 dc:=dc
 wc:=.int .i64 0
 wi:=.nilIface
def JL.Pa(ok:CF c):∀F σ w k,JL c F σ w->F k->k<w.1.size/\k≠c.rb:=by
 rintro F σ w k⟨L',sl,rfl,h1,h2,z,B,D,E,l,u,G⟩ b;rcases b with⟨b,y⟩|b|b
 ·exact⟨by omega,y⟩
 ·refine⟨(h1.ct k b).2.1,λe=>?_⟩;rw[e]at b;rcases h2 _ b with h|h
  ·exact ok.Z.2.2.2.2 h
  have:=ok.lt.2;omega
 obtain⟨cs,fz,hb⟩:=l.ct k b;have I:=(u k b).1;have:=ok.lt.2;exact⟨cj hb,by omega⟩
def Iz(ok:CF c)(b l)(hy:∀(m) F s w f tc ti,JL c F s w->dO w c.rb l (.func (.yield c.l) #[] #[]) tc ti f (.int .i64 0) .nilIface->G w->m.size<=200->s.2+f<400 ->YieldAt Fence.wide 0 prog c.l #[.string m] w λe w'=>e=.returned (.bool true)/\∃x i F',g_ w' (jC b m.1.1 s).1 (.agg #[x,i])/\dO w' c.rb l (.func (.yield c.l) #[] #[]) x i f (.int .i64 0) .nilIface/\JL c F' (jC b m.1.1 s).2 w'/\(∀k,F' k->F k\/w.1.size<=k)/\Fm 8 w w'):gh (Ax c b l) where
 Ad:=JL.Ad ok
 Gt:=JL.Pa ok
 Nc:=λm s=>af _
 Ae:=af _
 gj:=ok.ge.2.1
 yields:=hy
def qX{W:QV}{k:Nat}{a b:Xa}{t:TypeId}(h:W.1[k]?=some (.cells #[a,b] t fz)):W.cell? ⟨k,1,none⟩=some b:=by simp[World.cell?,h]
def CH{W:QV}(e)(H:∀b,b=e->C (W.alloc (.loop b))):C (W.alloc (.loop e)):=H _ rfl
def IA{w w1 l:QV}{j n:Nat}{s:LS}{L:Nat->Prop}(h:fD w j s L)(g:G w)(hd:jI w)(z:w.1.size=n){b:Nat}(aa:dO w1 (n+1+1) (ptr b) .nilFunc (.int .i64 0) .nilIface 400 (.int .i64 0) .nilIface)(N:Below (n+1+1) ((w.alloc (.cells #[ptr j] 29)).alloc (.cells #[.int .i64 0,.nilIface] 113)) w1)(J:w1.1.size=n+1+1+1)(E:(w1.alloc (.cells #[ptr (n+1+1)] 242)).alloc (.cells #[.slice none 0 0] 129)=l)(u)(hr:u.state=.ready)(hp:u.pending=none):∃c:Rc,c=⟨j,n+1+1,n,n+1+1+1,n+1+1+1+1,n+5+1,(l.alloc (.deferred (some []))).alloc (.loop u),L,s,u⟩/\CF c/\(∃F,JL c F ((s,[]),0) c.w0/\∀k,F k->k<c.w0.1.size)/\G c.w0/\Below n w c.w0/\c.w0.1.size=n+7/\c.w0.1[n+5]?=some (.deferred (some []))/\c.w0.1[n+1]?=some (.cells #[.int .i64 0,.nilIface] 113 (0,0))/\dO c.w0 c.rb (ptr b) .nilFunc (.int .i64 0) .nilIface 400 (.int .i64 0) .nilIface:=by
 have K:l.1.size=n+5:=by rw[<-E];simp[J]
 have P:((l.alloc (.deferred (some []))).alloc (.loop u)).1.size=n+7:=by simp[K]
 have Y:Below n w ((w.alloc (.cells #[ptr j] 29)).alloc (.cells #[.int .i64 0,.nilIface] 113)):=((Uz _ _).alloc RM _).alloc R5 _;have X:=Y.trans (N.mono RM);have O:Below (n+1+1+1) w1 l:=by rw[<-E];exact((Uz _ _).alloc RM _).alloc R5 _
 have D:Below (n+5) l ((l.alloc (.deferred (some []))).alloc (.loop u)):=((Uz _ _).alloc RM _).alloc R5 _;have y:=(X.trans (O.mono RM)).trans (D.mono RM);have M:8<=n:=Sz;have I:∀k,L k->k<n:=λk e=>by have:=(h.ct k e).2.1;omega
 have e1:∀k,k<n+3->((l.alloc _).alloc _).1[k]?=w1.1[k]? := λk e=>(D.block k RM).trans (O.block k RM);have e0:∀k,k<n+2->((l.alloc _).alloc _).1[k]?=((w.alloc _).alloc _).1[k]? := λk e=>(e1 k RM).trans (N.block k RM);have Q:((l.alloc _).alloc _).1[n]?=some _:=(e0 n RM).trans ((UE _ _ _ R5).trans (by rw[<-z];exact heap_alloc_new w _));have R:((l.alloc _).alloc _).1[n+1]?=some _:=(e0 _ RM).trans (by have:=heap_alloc_new (w.alloc (.cells #[ptr j] 29)) (.cells #[.int .i64 0,.nilIface] 113);rw[World.size_alloc,z]at this;exact this);have S:((l.alloc _).alloc _).1[n+1+1+1]?=some _:=(D.block _ RM).trans (by rw[<-E,<-J];exact(UE _ _ _ R2).trans (heap_alloc_new w1 _));have T:((l.alloc _).alloc _).1[n+1+1+1+1]?=some _:=(D.block _ RM).trans (by have:=heap_alloc_new (w1.alloc (.cells #[ptr (n+1+1)] 242)) (.cells #[.slice none 0 0] 129);rw[World.size_alloc,J,E]at this;exact this);have U:((l.alloc _).alloc (.loop u)).1[n+5]?=some (.deferred (some [])):=(UE _ _ _ R5).trans (by rw[<-K];exact World.alloc_heap_new l _);have V:((l.alloc (.deferred (some []))).alloc (.loop u)).1[n+5+1]?=some (.loop u):=by have:=World.alloc_heap_new (l.alloc (.deferred (some []))) (.loop u);rw[World.size_alloc,K]at this;exact this
 have Z:=(e1 _ RM).trans aa;have ab:=eH.below (by change Below _ _ _;rw[z];exact y);have hA:=h.st (λk e=>y.block k (I k e)) ab;refine⟨_,rfl,⟨V,hr,hp,Q,S,?_,?_,?_,?_,hd.below y M,λk e=>(h.ct k e).1⟩,⟨_,⟨L,.slice none 0 0,rfl,hA,λk e=>.inl e,λk e=>e,af _,λ_ _ _ _ _=>rfl,T,⟨[],World.ownsRow_nil _ _ _ _,rfl,λi n q z=>by simp at z⟩,λg hg=>(by cases hg),jg.refl _ _,af _,af _,Ix.refl _ _ _⟩,?_⟩,g.below y M,y,P,U,R,Z⟩
 ·have B:∀k,n<=k->¬L k:=λk h e=>(by have:=I _ e;omega);exact⟨B (n+5+1) RM,B n RM,B (n+1+1+1) RM,B (n+1+1+1+1) RM,B (n+1+1) RM⟩
 ·show n≠n+1+1+1+1/\n+1+1+1≠n+1+1+1+1/\n+5+1≠n+1+1+1+1/\n+5+1≠n+1+1/\n≠n+1+1/\n+1+1+1≠n+1+1/\n+1+1+1+1≠n+1+1;omega
 ·show n+1+1+1+1<_/\n+1+1<_;rw[P];omega
 ·show 8<=n+1+1+1+1/\8<=n+1+1/\8<=n+5+1;omega
 intro k e;show k<((l.alloc (.deferred (some []))).alloc (.loop u)).1.size;rcases e with⟨e,_⟩|e|e
 ·exact e
 ·have:=I k e;omega
 cases e
def NL(W b:QV):Prop:=W.1.size<=b.1.size/\∀(k:Nat) (o:Obj),W.1[k]?=some o->(∀es c,o≠.map es c)->(∀cs t fz,o=.cells cs t fz->¬LT t)->b.1[k]?=some o
def NL.below{W b:QV}(h:Xb W b):NL W b:=⟨h.size,λk o e _ _=>(h.block k (Qe.1 e).1).trans e⟩
def NL.post{W l:QV}{s':LS}(h:fD W j s L)(y:cH W j L s' l):NL W l:=by
 obtain⟨L',_,_,_,hf⟩:=y;refine⟨hf.size,λk o e h1 h2=>(hf.block k (Qe.1 e).1 (λhl=>?_)).trans e⟩;rcases(h.ct k hl).2.2 with⟨es,c,b⟩|⟨cs,t,fz,b,u⟩
 ·rw[e]at b;cases b;exact h1 _ _ rfl
 rw[e]at b;cases b;exact h2 _ _ _ rfl u
structure Od(n:Nat)(W:QV)(x i:Xa):Prop where
 b6:W.1[n+1]?=some (.cells #[.int .i64 0,.nilIface] 113 (0,0))
 b7:W.1[n+1+1+1]?=some (.cells #[ptr (n+1+1)] 242 (0,0))
 Ox:W.1[n+5]?=some (.deferred (some []))
 run:∃dc y tc ti f,dO W (n+1+1) dc y tc ti f x i
def Od.nl{W l:QV}(h:Od n W x i)(b:NL W l):Od n l x i:=by
 obtain⟨h1,h2,z,u,y,tc,ti,f,B⟩:=h;refine⟨b.2 _ _ h1 (λ_ _ e=>by cases e) (λ_ _ _ e=>by cases e;exact qW),b.2 _ _ h2 (λ_ _ e=>by cases e) (λ_ _ _ e=>by cases e;exact sK),b.2 _ _ z (λ_ _ e=>by cases e) (λ_ _ _ e=>by cases e),u,y,tc,ti,f,b.2 _ _ B (λ_ _ e=>by cases e) (λ_ _ _ e=>by cases e;exact nt)⟩
def cH.high{w W b:QV}(h:cH w j L s W)(I:b.os=W.os)(M:b.tape=W.tape)(hu:b.output=W.output)(K:W.1.size<=b.1.size)(y:∀k,k<w.1.size->b.1[k]?=W.1[k]?)(hl:∀(k:Nat) (o),W.1[k]?=some o->((∃es c,o=.map es c)\/∃cs t fz,o=.cells cs t fz/\LT t)->b.1[k]?=some o)(J:eH W b):cH w j L s b:=by
 obtain⟨L',h1,h2,E,e⟩:=h;refine⟨L',h1.st (λk u=>?_) J,h2,E,⟨⟨I.trans e.os,M.trans e.tape,hu.trans e.output,ah e.size K,λk u D=>(y k u).trans (e.block k u D)⟩,λk u cs t fz hc F=>(y k (cj hc)).trans (e.k2 k u cs t fz hc F),λhb B hc=>?_⟩⟩
 ·rcases(h1.ct k u).2.2 with⟨es,c,l⟩|⟨cs,t,fz,l,z⟩
  ·rw[l];exact hl _ _ l (.inl ⟨_,_,rfl⟩)
  rw[l];exact hl _ _ l (.inr ⟨_,_,_,rfl,z⟩)
 obtain⟨l,z⟩:=e.Cr hb B hc;have G:j<w.1.size:=by
  refine Rg λD=>?_;have:w.1[j]?=none:=Rh.2 RM;simp[World.cell?,this]at hc
 exact⟨(UF (y j G)).trans l,(y hb B).trans z⟩
def cH.Nr{w W:QV}{l:Nat}{sl:Xa}(h:cH w j L s W)(U:8<=w.1.size)(u:W.1[l]?=some (.cells #[x,i,sl] 131 (0,0)))(G:w.1.size<=l)(F:ee W ns sl)(z:∀g,sl.ownBlock=some g->w.1.size<=g)(O:g_ W r (.agg #[x,i]))(hl:ns.length<=401):∃e,fD W j s e/\jf W e ⟨r,ns⟩ l/\∀B w2,cH W j e B w2->cH w j L B w2:=by
 obtain⟨L',⟨hb,db,R,T,vn,S,h1⟩,h2,D,E⟩:=h;have I:∀k,L' k->(L' k\/k=l\/sl.ownBlock=some k):=λk u=>.inl u;have P:fD W j s (λk=>L' k\/k=l\/sl.ownBlock=some k):=⟨hb,db,R,T,vn,S,{
  eb:=h1.eb
  here:=.inl h1.here
  ne:=h1.ne
  cm:=h1.cm.mono I
  done:=h1.done.mono I
  b_:=h1.b_
  cE:=h1.cE
  du:=h1.du
  jr:=h1.jr
  dK:=λg y=>.inl (h1.dK g y)
  apart:=h1.apart
  oq:=h1.oq
  ct:=λk b=>by
   rcases b with b|rfl|b
   ·exact h1.ct k b
   ·exact⟨by omega,.inr ⟨_,_,_,u,.inr (.inr (.inr (.inr (.inr (.inl rfl)))))⟩⟩
   ·obtain⟨cs,fz,hc⟩:=F.ct k b;have:=z k b;exact⟨by omega,.inr ⟨_,_,_,hc,.inr (.inr (.inr (.inr (.inr (.inr rfl)))))⟩⟩ }⟩
 refine⟨_,P,⟨x,i,sl,u,.inr (.inl rfl),O,F,λg y=>.inr (.inr y),hl⟩,λB w2 Q=>?_⟩;obtain⟨e,J,K,M,N⟩:=Q;refine⟨e,J,λk b=>?_,λk b=>M k (.inl (D k b)),E.trans N (λk b=>?_) (λk b=>.inl (D k b))⟩
 ·rcases K k b with(b|rfl|b)|b
  ·exact h2 k b
  ·exact .inr G
  ·exact .inr (z k b)
  have:=E.size;exact .inr RM
 rcases b with b|rfl|b
 ·exact h2 k b
 ·exact .inr G
 exact .inr (z k b)
def uT{w W:QV}(hn:w.1.size=n)(J:cH w j L s W)(hb:Od n W x i)(K:g_ W r (.agg #[x,i])):W.cell? ⟨n+1+1+1,0,none⟩=some (.pointer (some ⟨n+1+1,0,none⟩)) /\Calls prog 164 #[.pointer (some ⟨n+1+1,0,none⟩)] W λe b=>e=.returned (.agg #[x,i])/\b.cell? ⟨n+1,0,none⟩=some (.int .i64 0)/\b.cell? ⟨n+1,1,none⟩=some .nilIface/\b.frozen? ⟨n+1,0,none⟩=false/\b.frozen? ⟨n+1,1,none⟩=false /\∃E,(Instr.takeDeferred (n+5)).run prog ((b.setCell ⟨n+1,0,none⟩ x).setCell ⟨n+1,1,none⟩ i)=.ok [] E/\E.1[n+1]?=some (.cells #[x,i] 113 (0,0))/\cH w j L s E/\g_ E r (.agg #[x,i]):=by
 have S:=hb;obtain⟨h1,h2,Q,Z,y,tc,ti,f,R⟩:=hb;refine⟨by simp[World.cell?,h2,ptr],(rR _ _ _ _ _ _ _ _ _ _ R K).mono ?_⟩;rintro e b⟨rfl,u,hs⟩;have G:=S.nl (NL.below u);have z:=G.b6;refine⟨rfl,by simp[World.cell?,z],by simp[World.cell?,z],by simp[World.frozen?,z],by simp[World.frozen?,z],?_⟩;have P:((b.setCell ⟨n+1,0,none⟩ x).setCell ⟨n+1,1,none⟩ i).1[n+1]?=some (.cells #[x,i] 113 (0,0)):=by
  have a1:=kA z 0 x;exact kA a1 1 i
 have B:=da (da (UD b (some (n+1))) 0 x) 1 i;have I:=(B.block _ (Qe.1 G.Ox).1 (λe=>by cases e)).trans G.Ox;have F:=pE ((b.setCell ⟨n+1,0,none⟩ x).setCell ⟨n+1,1,none⟩ i) (n+5) (.deferred none);have V:=iG B (λcs t fz hc=>by rw[z]at hc;cases hc;rintro(h|h|h)<;>cases h);have X:=iG F (λcs t fz hc=>by rw[I]at hc;cases hc);have O:=((eH.below u).trans V).trans X;have M:∀(k:Nat) (o:Obj),W.1[k]?=some o->k≠n+1->k≠n+5->(((b.setCell ⟨n+1,0,none⟩ x).setCell ⟨n+1,1,none⟩ i).putObj _ (.deferred none)).1[k]?=some o:=λk o l T U=>by
  have N:=(Qe.1 l).1;exact(World.putObj_heap_other U).trans ((B.block k (aA N u.size) (λe=>T (aB e))).trans ((u.block k N).trans l))
 have Y:W.1.size<=(((b.setCell ⟨n+1,0,none⟩ x).setCell ⟨n+1,1,none⟩ i).putObj (n+5) (.deferred none)).1.size:=by
  have:=u.size;simp[World.setCell];omega
 have aa:=J.size;refine⟨_,run_takeDeferred I,(World.putObj_heap_other RM).trans P,J.high ((F.os.trans B.os).trans u.os) ((F.tape.trans B.tape).trans u.tape) ((F.output.trans B.output).trans u.output) Y (λk l=>?_) (λk o l D=>?_) O,K.st O⟩
 ·obtain⟨o,D⟩:∃o,W.1[k]?=some o:=⟨_,QS RM⟩;rw[D];exact M k o D RM RM
 refine M k o l (λe=>?_) (λe=>?_)
 ·subst e;rw[h1]at l;cases l;rcases D with⟨_,_,h⟩|⟨_,_,_,h,h'⟩
  ·cases h
  cases h;exact qW h'
 subst e;rw[Q]at l;cases l;rcases D with⟨_,_,h⟩|⟨_,_,_,h,_⟩<;>cases h
def kB(w:QV)(j:Nat)(m:a_)(p:Nat):Prop:=∃hb es,w.cell? ⟨j,0,none⟩=some (.map (some hb))/\fJ w hb es/\bY.cr es m=some (ptr p)
def kB.Hw{w W:QV}(h:kB w j m p)(hf:uE j L w W):kB W j m p:=by
 obtain⟨hb,es,h1,h2,b⟩:=h;obtain⟨e,l⟩:=hf.Cr hb h2.lt h1;exact⟨hb,es,e,h2.same l,b⟩
def kB.thing{W:QV}(h:kB W j m p)(hA:fD W j s L)(e:m.length<=maxLen)(hl:bY.cr s.cm m=some th):fc W L th p:=by
 obtain⟨hb,es,h1,h2,l⟩:=h;obtain⟨u,db,D,F,vn,E,h⟩:=hA;have b:W.cell? ⟨j,0,none⟩=some (.map (some u)):=by simp[World.cell?,h.eb]
 rw[h1]at b;cases b;obtain⟨p',B,y⟩:=h.cm.at hl;have e1:=y false e;have e2:=h2.DK underlying104 (k:=m) e (z:=.pointer none) RO;rw[e1,l]at e2;simp[ptr]at e2;rw[<-e2];exact B
def fD.IB{w:QV}(h:fD w j s L)(hl:bY.cr s.cm m=some th):∃p,kB w j m p/\fc w L th p:=by
 obtain⟨hb,db,z,D,vn,B,h⟩:=h;obtain⟨e,h1,h2,l,b,u,y⟩:=h.cm;rw[h1,oS]at hl;cases hx:bY.cr e m with
 |none=>rw[hx]at hl;cases hl
 |some x =>
  rw[hx]at hl;cases hl;refine⟨x.2,⟨hb,_,by simp[World.cell?,h.eb],h2,by rw[uP,hx];rfl⟩,?_⟩;exact b _ (j8 hx)
def KZ{w w0 W:QV}{j n f:Nat}{s:LS}{L F:Nat->Prop}{z:Loop}{I tc ti x i:Xa}{r:Wo}{σ:Sg}{c:Rc}(hc:c=⟨j,n+1+1,n,n+1+1+1,n+1+1+1+1,n+5+1,w0,L,s,z⟩)(ok:CF c)(hn:w.1.size=n)(h8:8<=n)(u:Below n w w0)(a8:w0.1.size=n+7)
  (hA:fD w j s L) (hD:w0.1[n+5]?=some (.deferred (some []))) (Y:w0.1[n+1]?=some (.cells #[.int .i64 0,.nilIface] 113 (0,0))) (hJ:JL c F σ W) (D:Fm 8 w0 W) (hR:dO W (n+1+1) I .nilFunc tc ti f x i) (hW:g_ W r (.agg #[x,i])) (Q:G W) :
  ∃l,(Instr.endLoop (n+5+1)).run prog W=.ok none l/\∃sl,cH w j L σ.1.1 l/\Od n l x i/\l.1[n]?=some (.cells #[ptr j] 29 (0,0))/\l.1[n+1+1+1+1]?=some (.cells #[sl] 129 (0,0))/\ee l σ.1.2 sl/\(∀g,sl.ownBlock=some g->n<=g)/\g_ l r (.agg #[x,i])/\G l/\jI l/\σ.1.2.length<=σ.2/\jg s σ.1.1 σ.2/\fN σ.1.1<=fN s:=by
 subst hc;obtain⟨L',sl,_,h1,h2,U,V,B,X,Z,h7,aa,h9,R,J⟩:=hJ;have M:∀k,L k->k<n:=λk b=>by have:=(hA.ct k b).2.1;omega
 have a3:∀k,n<=k->¬L k:=λk b hl=>by have:=M k hl;omega
 have ax:∀hb,w.cell? ⟨j,0,none⟩=some (.map (some hb))->L hb:=λhb hc=>by
  obtain⟨ab,db,vb,vr,vn,vj,h⟩:=hA;have B:w.cell? ⟨j,0,none⟩=some (.map (some ab)):=by simp[World.cell?,h.eb]
  rw[B]at hc;cases hc;obtain⟨_,_,_,_,_,_,hl⟩:=h.cm;exact hl
 have old:∀k,n<=k->k<n+7->k≠n+1+1+1+1->k≠n+1+1->W.1[k]?=w0.1[k]? := λk b a6 ha hb=>B k (by show k<w0.1.size;omega) (a3 k b) ha hb;have hl:W.1[n+5+1]?=some _:=(old _ RM RM RM RM).trans ok.loop;have ad:W.1[n]?=some _:=(old _ RM RM RM RM).trans ok.c3;have ak:W.1[n+1+1+1]?=some _:=(old _ RM RM RM RM).trans ok.c7;have ai:=(old _ RM RM RM RM).trans Y;have am:=(old _ RM RM RM RM).trans hD;have a5:(Instr.endLoop (n+5+1)).run prog W=.ok none (W.putObj (n+5+1) (.loop { z with state:=.exhausted })):=by
  have S:=ok.ready;have T:=ok.Ow;have:=run_endLoop (P:=prog) hl (λe=>by rw[show z.state=.ready from S]at e;cases e);rw[this,show z.pending=none from T]
 refine⟨_,a5,sl,?_⟩;have av:=pE W (n+5+1) (.loop { z with state:=.exhausted });have y:∀(k:Nat) (o:Obj),W.1[k]?=some o->k≠n+5+1->(W.putObj _ (.loop { z with state:=.exhausted })).1[k]?=some o:=λk o b a0=>(World.putObj_heap_other a0).trans b;have E:eH W (W.putObj _ (.loop { z with state:=.exhausted })):=iG av (λcs t fz hb=>by rw[hl]at hb;cases hb);have K:Below 8 W (W.putObj (n+5+1) (.loop { z with state:=.exhausted })):=⟨rfl,rfl,rfl,by simp,λk b=>World.putObj_heap_other RM⟩;have ap:=jI.below (show jI w0 from ok.pD) D.eh (af _);have ao:∀hb,hb<n->w.cell? ⟨j,0,none⟩=some _->L hb->W.cell? ⟨j,0,none⟩=some _/\W.1[hb]?=w.1[hb]? := λhb O hc hL=>by
  have aC:j<n:=by
   refine Rg λa7=>?_;have:w.1[j]?=none:=Rh.2 RM;simp[World.cell?,this]at hc
  obtain⟨q1,q2⟩:=J.2 hb hL ((UF (u.block j aC)).trans hc);exact⟨q1,q2.trans (u.block hb O)⟩
 have a4:cH w j L σ.1.1 W:=by
  refine⟨L',h1,λk b=>?_,U,⟨⟨D.eh.os.trans u.os,D.eh.tape.trans u.tape,D.eh.output.trans u.output,ah u.size V,λk b a2=>?_⟩,λk b cs t fz hc ay=>?_,λhb O hc=>?_⟩⟩
  ·rcases h2 k b with h|h
   ·exact .inl h
   have:w0.1.size<=k:=h;exact .inr RM
  ·exact(B k (by show k<w0.1.size;omega) a2 (by show k≠n+1+1+1+1;omega) (by show k≠n+1+1;omega)).trans (u.block k RM)
  ·exact J.1 k b cs t fz ((u.block k (M k b)).trans hc) ay
  exact ao hb RM hc (ax hb hc)
 refine⟨a4.high rfl rfl rfl R2 (λk b=>World.putObj_heap_other RM) (λk o b ho=>y k o b (λe=>?_)) E,⟨y _ _ ai RM,y _ _ ak RM,y _ _ am RM,I,.nilFunc,tc,ti,f,y _ _ hR RM⟩,y _ _ ad RM,y _ _ X (by show n+1+1+1+1≠n+5+1;omega),Z.st (λg N cs fz hb=>y _ _ hb (λe=>?_)) E,λg N=>?_,hW.st E,Q.below K (af _),ap.below K (af _),h9,aa,R⟩
 ·subst e;rw[hl]at b;cases b;rcases ho with⟨_,_,h⟩|⟨_,_,_,h,_⟩<;>cases h
 ·subst e;rw[hl]at hb;cases hb
 have:w0.1.size<=g:=(h7 g N).1;omega
end
section
open bY
open Tryz
variable{s:LS}{b:a_}{th:cu}{lb n:Nat}{L:Nat->Prop}{x i sl:Xa}{r:Wo}{ns:List (a_×Wo)}
attribute [local go_sem] Oper.semAt_some
def K0{α:Type}(e)(p:Pg α):∀σ c,(p.run (jC e) (σ,c)).1=(p.run (d_ e) σ).1/\(p.run (jC e) (σ,c)).2.1=(p.run (d_ e) σ).2 :=Pg.ind (P:=λp=>∀σ c,(p.run (jC e) (σ,c)).1=(p.run (d_ e) σ).1/\(p.run (jC e) (σ,c)).2.1=(p.run (d_ e) σ).2) (λa σ c=>⟨rfl,rfl⟩) (λk f j σ c=>j _ _ _) p
def K1(e t s):(ev (jC e) (hM t) t none (400,((s,[]),0))).1=((bY.prog t).run (d_ e) (s,[])).1/\(ev (jC e) (hM t) t none (400,((s,[]),0))).2.2.1=((bY.prog t).run (d_ e) (s,[])).2:=by
 have h:=K0 e (tr (hM t) t none 400) (s,[]) 0;rw[oH];unfold bY.flat bY.prog;rw[Pg.rO];exact⟨by rw[h.1],h.2⟩
def Ay{s':LS}{c:Nat}(h:jg s s' c)(hl:bY.cr s.cm b=some th):∃e,bY.cr s'.cm b=some e/\e.dc=th.dc:=by
 have h1:=ni s'.cm b;rw[h.cX,ni,hl]at h1;cases hx:bY.cr s'.cm b with
 |none=>rw[hx]at h1;cases h1
 |some e =>
  rw[hx]at h1;simp only[QJ,Option.some.injEq]at h1;refine⟨e,rfl,?_⟩;have:=congrArg cu.dc h1;exact this.symm
def IC(w:QV)(lb n:Nat)(L:Nat->Prop)(x i:Xa)(r:Wo)(s:LS)(W:QV):Prop :=W.cell? ⟨n+1+1+1,0,none⟩=some (.pointer (some ⟨n+1+1,0,none⟩)) /\Calls prog 164 #[.pointer (some ⟨n+1+1,0,none⟩)] W λe j=>e=.returned (.agg #[x,i])/\j.cell? ⟨n+1,0,none⟩=some (.int .i64 0)/\j.cell? ⟨n+1,1,none⟩=some .nilIface/\j.frozen? ⟨n+1,0,none⟩=false/\j.frozen? ⟨n+1,1,none⟩=false /\∃l,(Instr.takeDeferred (n+5)).run prog ((j.setCell ⟨n+1,0,none⟩ x).setCell ⟨n+1,1,none⟩ i)=.ok [] l/\l.1[n+1]?=some (.cells #[x,i] 113 (0,0))/\cH w lb L s l/\g_ l r (.agg #[x,i])
structure RE(w:QV)(lb n:Nat)(L:Nat->Prop)(x i sl:Xa)(r:Wo)(ns:List (a_×Wo))(s:LS)(W:QV):Prop where
 post:cH w lb L s W
 eb:Od n W x i
 b3:W.1[n]?=some (.cells #[ptr lb] 29 (0,0))
 b8:W.1[n+1+1+1+1]?=some (.cells #[sl] 129 (0,0))
 cO:ee W ns sl
 own:∀g,sl.ownBlock=some g->n<=g
 MS:g_ W r (.agg #[x,i])
 g:G W
 pD:jI W
def RE.below{w:QV}{W j:QV}(h:RE w lb n L x i sl r ns s W)(e:Xb W j):RE w lb n L x i sl r ns s j where
 post:=h.post.trans (λL' h'=>cH.below h' e)
 eb:=h.eb.nl (NL.below e)
 b3:=(e.block _ (cj h.b3)).trans h.b3
 b8:=(e.block _ (cj h.b8)).trans h.b8
 cO:=h.cO.st (λg _ cs fz hb=>(e.block g (cj hb)).trans hb) (eH.below e)
 own:=h.own
 MS:=h.MS.st (eH.below e)
 g:=h.g.below e h.g.size
 pD:=h.pD.below e h.g.size
def RE.tail{w:QV}{W:QV}(h:RE w lb n L x i sl r ns s W)(e:w.1.size=n):IC w lb n L x i r s W:=uT e h.post h.eb h.MS
def RE.keep{w:QV}{W:QV}(h:RE w lb n L x i sl r ns s W)(E:w.1.size=n)(I:8<=n)(hlen:ns.length<=401)(b)(m:b.size<=200)(hl:bY.cr s.cm b.1.1=some th)(G:th.dc≠none)(hj:(cW s.jr).length<=70368744177664):Calls prog 143 #[ptr lb,.string b,ptr W.1.size] (W.alloc (.cells #[x,i,sl] 131)) λe w'=>e=.returned (.tuple #[])/\IC w lb n L x i r (s.keep b.1.1 ⟨r,ns⟩) w'/\(w'.1[n]?=some (.cells #[ptr lb] 29 (0,0))/\w'.1[n+1+1+1+1]?=some (.cells #[sl] 129 (0,0))):=by
 have u:Below _ W (W.alloc (.cells #[x,i,sl] 131)):=(Uz _ _).alloc (af _) _;have h1:=h.below u;have C:=heap_alloc_new W (.cells #[x,i,sl] 131);obtain⟨p,hA,y,F⟩:=h1.post.Nr RM C h.post.size h1.cO (λg z=>by have:=h.own g z;omega) h1.MS hlen;have D:=kk (kY:=b.1.1) SD h1.MS h1.cO _ (af _);rw[Q1]at D;have B:(cW (s.keep b.1.1 ⟨r,ns⟩).jr).length<=140737488355328:=by
  show(cW (s.jr++[dh b.1.1 ⟨r,ns⟩])).length<=_;rw[eN,aj,jB];have:=Qo 100202 hlen;omega
 refine(Iu _ lb s p b th ⟨r,ns⟩ _ hA h1.g h1.pD hl G y m B).mono ?_;rintro e w'⟨rfl,l⟩;have j:=NL.post hA l;exact⟨rfl,uT E (F _ _ l) (h1.eb.nl j) (h1.MS.keeps (l.keeps hA)),j.2 _ _ h1.b3 (λ_ _ e=>by cases e) (λ_ _ _ e=>by cases e;exact CG),j.2 _ _ h1.b8 (λ_ _ e=>by cases e) (λ_ _ _ e=>by cases e;exact nu)⟩
def RE.qK{w:QV}{W:QV}(h:RE w lb n L x i sl r ns s W)(u:w.1.size=n)(b)(l:b.size<=200)(hl:bY.cr s.cm b.1.1=some th)(hj:(cW s.jr).length<=70368744177664):Calls prog 114 #[ptr lb,.string b] W λe w'=>e=.returned (.tuple #[])/\IC w lb n L x i r (s.qK b.1.1) w':=by
 obtain⟨m,hA,_,y⟩:=h.post.then;have z:b.1.1.length<=200:=by simpa using l
 have p:(cW (s.qK b.1.1).jr).length<=140737488355328:=by
  show(cW (s.jr++[[108,111,115,101,32]++b.1.1])).length<=_;rw[eN,aj,jB,aj];simp only[aM,P6];omega
 refine(Ir _ lb s m b th hA h.g h.pD hl l p).mono ?_;rintro e w'⟨rfl,j⟩;exact⟨rfl,uT u (y _ _ j) (h.eb.nl (NL.post hA j)) (h.MS.keeps (j.keeps hA))⟩
def RE.kept{w:QV}{p:Nat}{W:QV}(h:RE w lb n L x i sl r ns s W)(z:b.length<=200)(hl:bY.cr s.cm b=some th)(m:kB w lb b p):(th.kept=none/\W.cell? ⟨p,3,none⟩=some (.pointer none))\/((cS s.cm b).isSome=true/\∃a,W.cell? ⟨p,3,none⟩=some (.pointer (some a))):=by
 obtain⟨L',h1,h2,y,j⟩:=h.post;obtain⟨v,B,k,hb,_,_,_,l⟩:=(m.Hw j).thing h1 R6 hl;rcases l with⟨e,rfl⟩|⟨kp,u,e,rfl,_⟩
 ·exact .inl ⟨e,by simp[World.cell?,hb]⟩
 exact .inr ⟨by simp[cS,hl,e],⟨u,0,none⟩,by simp[World.cell?,hb]⟩
end
section
open bY
open Tryz
variable{Q:Exit->Act->QV->Prop}
attribute [local go_sem] Oper.semAt_some
def ID(K:Act->QV->Prop):Exit->Act->QV->Prop
 |.normal,a,w=>K a w
 |_,_,_=>False
def mE{P:Program}{C:Code}{a:Act}{w:QV}(K)(j:∀a w,K a w->Q .normal a w)(h:C.wp P (ID K) a w):C.wp P Q a w :=wp_mono h (λe a w b=>by
  cases e with
  |normal=>exact j _ _ b
  |_=>exact b.elim)
def K3(w lb p b m j P)(HB:pW lb j P)(s L)(h:fD w lb s L)(g:G w)(hd:jI w)(hk:m.size<=200)(hP:∀s' c,jg s s' c->c<=400->fN s'<=fN s->P s')(dy:fN s<=70368744177664)(t th)(hl:bY.cr s.cm m.1.1=some th)(c9:th.dc=some t)(hp:kB w lb m.1.1 p)(c4:ib (hM t) false t=true)(hx:dI w (hM t) t (ptr b))(c1:w.cell? ⟨p,1,none⟩=some (ptr b)):Calls prog 125 #[ptr lb,.string m,ptr p] w λe w'=>∃x,e=.returned x/\g_ w' (gT m.1.1 ((bY.prog t).run (d_ j) (s,[]))).1 x/\cH w lb L (gT m.1.1 ((bY.prog t).run (d_ j) (s,[]))).2 w'/\fN ((bY.prog t).run (d_ j) (s,[])).2.1<=fN s:=by
 have c5:p<w.1.size:=by
  refine Rg λD=>?_;have:w.1[p]?=none:=Rh.2 RM;simp[World.cell?,this]at c1
 have ce:∀o,(w.alloc o).cell? ⟨p,1,none⟩=some (ptr b):=λo=>(UF (UE w o p c5)).trans c1;have cO:∀o o',((w.alloc o).alloc o').cell? ⟨p,1,none⟩=some (ptr b):=λo o'=>(UF (UE (w.alloc o) o' p R5)).trans (ce o);have dz:w.1.size=w.1.size:=rfl;have cB:=bZ hp;have HX:=bZ hx;generalize a9:(λ(e:Ending) (w':QV)=>∃x,e=.returned x/\g_ w' (gT m.1.1 ((bY.prog t).run (d_ j) (s,[]))).1 x/\cH w lb L (gT m.1.1 ((bY.prog t).run (d_ j) (s,[]))).2 w'/\fN ((bY.prog t).run (d_ j) (s,[])).2.1<=fN s)=RR;have dx:∀(fn:Fn) (first bN:Array Xa) (w:QV),(Instr.makeFunc fn first bN).run prog w=.ok (.func fn first bN) w:=λ_ _ _ _=>rfl;have ay:=@IA w;unfold ptr at c1 ce cO ay ⊢;obtain⟨n,D⟩:∃n,w.1.size=n:=⟨_,rfl⟩;refine(callsIn_wide (n:=0)).1 ?_;refine callsIn_of_wp_marks func125 rfl trivial ?_;simp only[ntmps125,Rb,aM,P6,Nat.reduceAdd,Nat.reduceSub,Array.replicate_succ,Array.replicate_zero,List.push_toArray,List.append_toArray,Qv,Qs]
 gi_wp2_with fail
 refine⟨trivial,rfl,(callsIn_wide.2 (me _ _)).mono ?_⟩;rintro e w1⟨rfl,br,aC,bl⟩;change Below _ _ _ at aC;simp only[World.size_alloc,D]at br aC bl
 gi_wp2_with fail
 obtain⟨Wb,bc⟩:∃Wb,((w1.alloc (Obj.cells #[Value.pointer (some { block:=n+1+1,off:=0 })] 242)).alloc (Obj.cells #[Value.slice none 0 0] 129))=Wb:=⟨_,rfl⟩;have cw:Wb.1.size=n+5:=by rw[<-bc];simp[bl]
 rw[bc];refine wpIn_rangeFunc ?_;intro fn dv;refine⟨_,_,_,_,_,_,_,_,run_enterLoop_outer _ _ _ _ _,(by simp[resolve,go_sem];exact⟨rfl,rfl⟩),(λ_ _=>trivial),(by simp[invoke,go_sem];exact⟨⟨rfl,rfl⟩,rfl⟩),(λh=>by cases h),?_⟩;simp only[cw];refine CH (C:=λx=>CallsIn _ _ _ _ _ x _) _ ?_;intro lp ai;obtain⟨c,hc,ok,⟨F0,bT,cL⟩,g0,bp,ct,bR,bP,b3⟩:=ay h g hd D br aC bl bc lp (by rw[ai]) (by rw[ai]);have O:c.w0=(Wb.alloc (.deferred (some []))).alloc (.loop lp):=Sn;have bd:c.l=n+5+1:=Sn;have bg:c.rb=n+1+1:=Sn;have ap:c.lb=lb:=Sn;have bw:c.b3=n:=Sn;have bx:c.b7=n+1+1+1:=Sn;have bz:c.b8=n+1+1+1+1:=Sn;have hcs:c.s0=s:=Sn;have bf:c.lp=lp:=Sn;have bE:=bZ hc;clear hc;have hE:gh (Ax c j (.pointer (some ⟨b,0,none⟩))):=Iz ok j _ (λk2 F σ W f tc ti Z hR gW cm bA=>by
  obtain⟨L',sl,q1,q2,q3,q4,q5,q6⟩:=JL.round ok Z hR gW (busy:={ c.lp with state:=.busy });have hN:jg c.s0 σ.1.1 σ.2/\fN σ.1.1<=fN c.s0/\σ.1.2.length<=σ.2/\W.1[c.b3]?=some (.cells #[ptr c.lb] 29 (0,0)):=by
   obtain⟨L',sl,_,h1,h2,dr,h3,h4,h5,h6,h7,h8,h9,cG,dp⟩:=Z;exact⟨h8,cG,h9,(h4 c.b3 (cj ok.c3) ok.Z.2.1 ok.ne.1 ok.ne.2.2.2.2.1).trans ok.c3⟩
  have cN:P σ.1.1:=hP _ σ.2 (hcs▸hN.1) RM (hcs▸hN.2.1);have HC:=HB _ _ _ k2 (ap▸q1) q2 q3 cN cm;refine⟨_,_,_,_,run_yield q4 (by rw[bf,ai];rfl),roundIn_of_wpIn trivial ?_⟩;have cd:=run_beginRound (P:=prog) q4 ok.ready;have co:∀W:QV,W.1[c.l]?=some (.loop { c.lp with state:=.busy })->(Instr.endRound c.l none).run prog W=.ok (.bool true) (W.putObj c.l (.loop c.lp)):=λW hW=>by
   have:=run_endRound (P:=prog) none hW;rw[this];have h1:=ok.ready;have h2:=ok.Ow;generalize c.lp=z at h1 h2;cases z;cases h1;cases h2;rfl
  have e3:(W.putObj c.l (.loop { c.lp with state:=.busy })).cell? ⟨n,0,none⟩=some (.pointer (some ⟨lb,0,none⟩)):=by
   have:=hN.2.2.2;rw[bw,ap]at this;have h':(W.putObj c.l (.loop { c.lp with state:=.busy })).1[n]?=_:=(World.putObj_heap_other (by rw[bd];omega)).trans this;simp[World.cell?,h',ptr]
  rw[bx,bz]at q6;unfold ptr at HC q6;rw[ap]at q6;simp only[bf,ai];obtain⟨Wy,ca⟩:∃Wy,W.putObj c.l (.loop { c.lp with state:=.busy })=Wy:=⟨_,rfl⟩;rw[ca]at HC e3 q6 cd;have HQ:=bZ q6;have HE:=bZ co;have bF:=bZ HC;have hlen:σ.1.2.length<=500:=by have:=hN.2.2.1;omega
  clear q6 HC co hN q1 q2 q3 q4 Z ca ai ay bd bg ap bw bx bz hcs bf O;simp only[List.zip_toArray,List.zip_cons_cons,List.zip_nil_right,Rb,List.foldl_toArray,List.foldl_cons,List.foldl_nil,ar,Xd,Xc]
  gi_wp2_with fail
  refine⟨trivial,rfl,CallsIn.inRound c.l ((callsIn_wide.2 bF.Z).mono ?_)⟩;rintro e w2⟨x0,rfl,bu,bV,bW,bU⟩;obtain⟨U,ix,rfl,bB⟩:=bu.form;obtain⟨r1,r2,r3,r4⟩:=HQ.Z _ _ w2 _ _ bV bu bU bW;have k7:∀o,(w2.alloc o).cell? ⟨n+1+1+1,0,none⟩=some (.pointer (some ⟨c.rb,0,none⟩)):=λo=>by
   have:=(UE w2 o _ (cj r3)).trans r3;simp[World.cell?,this]
  have HT:=bZ (Hv c.rb f _ _ tc ti _ _ _ _ _ (r1 _) r2);have bI:=bZ r4;clear r4 r1 r2 r3 bV bU bW bu;rcases bB with rfl|⟨tx,ax,rfl⟩
  all_goals
   gi_wp2_with fail
   refine⟨trivial,rfl,CallsIn.inRound c.l ((callsIn_wide.2 HT.Z).mono ?_)⟩;rintro e w4⟨rfl,dn,dK,he,b4,ch,c6⟩;cases he;obtain⟨g4,n4,i4,bM,bo,r5⟩:=bI.Z w4 ch b4;have k8:w4.cell? ⟨n+1+1+1+1,0,none⟩=some sl:=by simp[World.cell?,bM]
   have dQ:w4.cell? ⟨w2.1.size,0,none⟩=some (.int .i64 U):=by simp[World.cell?,bo]
   have d0:=qX bo;have bL:=bZ (za w4 _ sl k2 _ _ g4 n4 hlen cm i4);obtain⟨so,sc,bC⟩:=n4.len;have bJ:=bZ r5;clear r5 g4 n4 i4 bM bo bI HT bF HQ b4 ch c6;subst bC
   gi_wp2_with fail
   refine⟨trivial,rfl,CallsIn.inRound c.l ((callsIn_wide.2 bL.Z).mono ?_)⟩;rintro e Y⟨sl',rfl,bq,b6⟩;obtain⟨s1,s2,F',s3,u,s5,s6,s7⟩:=bJ.Z _ Y sl' bq b6;obtain⟨d5,d3,c8⟩:=bq.len;have m8:Y.cell? ⟨n+1+1+1+1,0,none⟩=some (.slice so σ.1.2.length sc):=by simp[World.cell?,s1]
   have z8:Y.frozen? ⟨n+1+1+1+1,0,none⟩=false:=by simp[World.frozen?,s1]
   have ad:=HE.Z _ s2;have bD:(Ending.returned (Value.bool true)=Ending.returned (Value.bool true))/\∃x i F',g_ ((Y.setCell ⟨n+1+1+1+1,0,none⟩ sl').putObj c.l (.loop c.lp)) (jC j k2.1.1 σ).1 (.agg #[x,i])/\dO ((Y.setCell ⟨n+1+1+1+1,0,none⟩ sl').putObj c.l (.loop c.lp)) c.rb (.pointer (some ⟨b,0,none⟩)) (.func (.yield c.l) #[] #[]) x i f (.int .i64 0) .nilIface/\JL c F' (jC j k2.1.1 σ).2 ((Y.setCell ⟨n+1+1+1+1,0,none⟩ sl').putObj c.l (.loop c.lp))/\(∀k,F' k->F k\/W.1.size<=k)/\Fm 8 W ((Y.setCell ⟨n+1+1+1+1,0,none⟩ sl').putObj c.l (.loop c.lp)):=⟨rfl,_,_,F',s3,u,s5,s6,s7⟩;have HF:=bZ (And.intro ad bD);subst c8;clear bD ad s1 s2 s3 u s5 s6 s7 b6 bq bJ bL HE cd
   gi_wp2_with fail
   obtain⟨ad,-,x,i,F',t1,t2,t3,t4,t5⟩:=HF.Z;exact⟨_,_,ad,rfl,x,i,t1,t2,F',t3,t4,t5⟩)
 have cy:dI c.w0 (hM t) t (.pointer (some ⟨b,0,none⟩)):=(show dI w (hM t) t (ptr b)from HX.Z).keeps (cK.below (by change Below _ _ _;rw[D];exact bp));have HN:=E9 (Ax c j (.pointer (some ⟨b,0,none⟩))) hE (hM t) t b F0 400 ((s,[]),0) .nilFunc (.int .i64 0) .nilIface c.w0 c4 rfl cy b3 bT g0 (by show 0+400<=400;omega);have hq:=K1 j t s;have bH:Calls prog 161 #[.pointer (some ⟨n+1+1,0,none⟩),.func (.yield (n+5+1)) #[] #[]] ((Wb.alloc (.deferred (some []))).alloc (.loop lp)) (lh (Ax c j (.pointer (some ⟨b,0,none⟩))) F0 c.w0 (ev (jC j) (hM t) t none (400,((s,[]),0)))):=by
  have this:Calls prog 161 #[.pointer (some ⟨c.rb,0,none⟩),.func (.yield c.l) #[] #[]] c.w0 (lh (Ax c j (.pointer (some ⟨b,0,none⟩))) F0 c.w0 (ev (jC j) (hM t) t none (400,((s,[]),0)))):=HN;rw[bg,bd]at this;rw[<-O];exact this
 refine(callsIn_wide.2 bH).mono ?_;rintro e W⟨rfl,F',x,i,tc,ti,hW,hR,Z,bA,hF,cg,gW⟩;have bX:dO W (n+1+1) (.pointer (some ⟨b,0,none⟩)) .nilFunc tc ti (ev (jC j) (hM t) t none (400,((s,[]),0))).2.1 x i:=bg▸hR;have b9:g_ W (ev (jC j) (hM t) t none (400,((s,[]),0))).1 (.agg #[x,i]):=hW;have bS:JL c F' (ev (jC j) (hM t) t none (400,((s,[]),0))).2.2 W:=Z;have cP:(ev (jC j) (hM t) t none (400,((s,[]),0))).2.2.2<=400:=by
  have:(ev (jC j) (hM t) t none (400,((s,[]),0))).2.2.2+(ev (jC j) (hM t) t none (400,((s,[]),0))).2.1<=400:=bA;omega
 obtain⟨W4,ad,sl,a4,bv,cb,cc,a2,cp,V,g4,d4,bh,a3,ao⟩:=KZ bE.Z ok D Sz (O▸bp) (O▸ct) h (O▸bR) (O▸bP) bS (O▸cg) bX b9 gW;rw[hq.1]at V;rw[hq.2]at a4 a2 a3 ao bh;generalize ((bY.prog t).run (d_ j) (s,[]))=q at V a4 a2 a3 ao bh a9;obtain⟨r,u,ns⟩:=q;have bt:RE w lb n L x i sl r ns u W4:=⟨a4,bv,cb,cc,a2,cp,V,g4,d4⟩;have h8:8<=n:=Sz;have hlen:ns.length<=401:=by have:ns.length<=_:=bh;omega
 have cl:(cW u.jr).length<=70368744177664:=by
  have h1:fN u<=fN s:=ao;have h2:(cW u.jr).length<=fN u:=aJ _ _;omega
 obtain⟨dj,bj,dc⟩:=Ay a3 hl;have df:dj.dc≠none:=by rw[dc,c9];exact λe=>by cases e
 rename_i K HK;refine⟨none,W4,ad,?_⟩;show K _ W4;refine HK _ _ (wpIn_wide.2 ?_);obtain⟨U,ix,dg,bB⟩:=V.form;cases dg;have cQ:((U != 12)=true/\gC r=false)\/((U != 12)=false/\gC r=true):=by
  rcases V with⟨v,y,rfl,he,_⟩|⟨c',rfl,he,h0,h1⟩
  ·cases he;exact .inl ⟨rfl,rfl⟩
  cases he;by_cases bO:c'=12
  ·subst bO;exact .inr ⟨rfl,rfl⟩
  refine .inl ⟨?_,?_⟩
  ·simp;omega
  simp[gC,bO]
 have bn:Hid (fN u<=fN s):=bZ ao;have bK:=bZ bt;obtain⟨bm,cA⟩:=bt.tail D;have am:=bZ cA;have HW:=bZ (rR _ _ _ _ _ _ _ _ _ _ (bv.run.choose_spec.choose_spec.choose_spec.choose_spec.choose_spec) V);clear cA bt a4 bv cb cc a2 cp V bh a3 ao Z bS hR bX hW b9 cg gW bA cP hq HN bH hE ay HB hP bE hF bT cL g0 bp ct bR bP b3 ok O bd bg ap bw bx bz hcs bf cy ai bc cw br aC bl;have du:∀(a b:Xa) (w:QV),(Instr.field 113 (.agg #[a,b]) 0).run prog w=.ok a w:=λ_ _ _=>by kernel_rfl
 rcases bB with ck|⟨tx,ax,ck⟩
 all_goals
  subst ck;go_wp2_with fail;refine HW.Z.mono ?_;rintro e W5⟨rfl,bQ,c7⟩;have aa:=bK.Z.below bQ;have k3:W5.cell? ⟨n,0,none⟩=some (.pointer (some ⟨lb,0,none⟩)):=by simp[World.cell?,aa.b3,ptr]
  have k7:W5.cell? ⟨n+1+1+1,0,none⟩=some (.pointer (some ⟨n+1+1,0,none⟩)):=by simp[World.cell?,aa.eb.b7,ptr]
  have k8:W5.cell? ⟨n+1+1+1+1,0,none⟩=some sl:=by simp[World.cell?,aa.b8]
  have cn:=aa.kept (by simpa using hk) bj cB.Z;have T:=bZ aa;clear aa bK HW am bm bQ c7;rcases cQ with⟨cR,bk⟩|⟨cR,bk⟩
  ·clear cn;have R:∀l,cH w lb L (u.keep m.1.1 ⟨r,ns⟩) l->∀v,g_ l r v->RR (.returned v) l:=λl h1 v h2=>by
    rw[<-a9];refine⟨v,rfl,h2,?_,bn.Z⟩;simp only[gT,bk];exact h1
   have E:=bZ R;clear R;obtain⟨so,sc,bC⟩:=T.Z.cO.len;subst bC;go_wp2_with fail;rename_i K5 dk;refine mE K5 (λa w h=>h) ?_;refine wp_region_held_drew (S:=λw'=>w'.cell? ⟨n,0,none⟩=some (.pointer (some ⟨lb,0,none⟩))/\w'.cell? ⟨n+1+1+1,0,none⟩=some (.pointer (some ⟨n+1+1,0,none⟩))/\w'.cell? ⟨n+1+1+1+1,0,none⟩=some (.slice so ns.length sc)) RO ⟨k3,k7,k8⟩ (λhHeld=>?_);refine wpAnyH_take (i:=0) (v:=?_) rfl RO RO RO (λ_ _ _ h=>h) (Or.inl ⟨by rfl,?_⟩) ⟨k3,k7,k8⟩ ?_
   rotate_left
   ·rintro w'⟨a0,a7,a8⟩;go_simp
    try with_reducible rfl
   simp only[Act.put,ar,Xc,Xd];refine wpAnyH_take (i:=1) (v:=?_) rfl RO RO RO (λ_ _ _ h=>h) (Or.inl ⟨by rfl,?_⟩) ⟨k3,k7,k8⟩ ?_
   rotate_left
   ·rintro w'⟨a0,a7,a8⟩;go_simp
    try with_reducible rfl
   simp only[Act.put,ar,Xc,Xd];refine wpAnyH_take (i:=2) (v:=?_) rfl RO RO RO (λ_ _ _ h=>h) (Or.inl ⟨by rfl,?_⟩) ⟨k3,k7,k8⟩ ?_
   rotate_left
   ·rintro w'⟨a0,a7,a8⟩;go_simp
    try with_reducible rfl
   simp only[Act.put,ar,Xc,Xd];refine wpAnyH_take (i:=4) (v:=?_) rfl RO RO RO (λ_ _ _ h=>h) (Or.inl ⟨by rfl,?_⟩) ⟨k3,k7,k8⟩ ?_
   rotate_left
   ·rintro w'⟨a0,a7,a8⟩;go_simp
    try with_reducible rfl
   simp only[Act.put,ar,Xc,Xd];have a5:=T.Z.below ((Uz _ W5).drew);obtain⟨d8,y6,d6,d7,f6,b5⟩:=a5.eb.run;refine wpAnyH_ready (rs:=[3]) RO R2 ?_;refine AllReadyH.cons rfl (λK B=>?_) AllReadyH.nil;go_simp;refine(rR _ _ _ _ _ _ _ _ _ _ b5 a5.MS).mono ?_;rintro e I⟨rfl,cI,-⟩;have ab:=a5.below cI;have b7:I.cell? ⟨n,0,none⟩=some (.pointer (some ⟨lb,0,none⟩))/\I.cell? ⟨n+1+1+1,0,none⟩=some (.pointer (some ⟨n+1+1,0,none⟩))/\I.cell? ⟨n+1+1+1+1,0,none⟩=some (.slice so ns.length sc):=⟨by simp[World.cell?,ab.b3,ptr],by simp[World.cell?,ab.eb.b7,ptr],by simp[World.cell?,ab.b8]⟩;refine B.out _ _ b7 (λ_=>?_);clear B hHeld;have bG:=bZ (ab.keep D h8 hlen m hk bj df cl);have a6:=λo=>ab.below ((Uz _ I).alloc (af _) o);have b8:∀o,(I.alloc o).cell? ⟨n,0,none⟩=some (.pointer (some ⟨lb,0,none⟩))/\(I.alloc o).cell? ⟨n+1+1+1,0,none⟩=some (.pointer (some ⟨n+1+1,0,none⟩))/\(I.alloc o).cell? ⟨n+1+1+1+1,0,none⟩=some (.slice so ns.length sc):=λo=>⟨by simp[World.cell?,(a6 o).b3,ptr],by simp[World.cell?,(a6 o).eb.b7,ptr],by simp[World.cell?,(a6 o).b8]⟩;clear a6 ab a5 b5 T;refine wpAnyH_ready (rs:=[5]) RO R2 ?_;refine AllReadyH.cons rfl (λK B=>?_) AllReadyH.nil;go_simp;refine B.out _ _ b7 (λ_=>?_);clear B;refine wpAnyH_ready (rs:=[6]) RO R2 ?_
   refine AllReadyH.cons rfl (λK B=>?_) AllReadyH.nil;go_simp;refine B.out _ _ (b8 _) (λ_=>?_);clear B b8;refine wpAnyH_ready (rs:=[7]) RO R2 ?_;refine AllReadyH.cons rfl (λK B=>?_) AllReadyH.nil;go_simp;refine bG.Z.mono ?_;rintro e W9⟨rfl,⟨bm,X⟩,cE,cF⟩;refine B.out _ _ ⟨by simp[World.cell?,cE,ptr],bm,by simp[World.cell?,cF]⟩ (λ_=>?_);clear B bG;refine wpAnyH_done RO ?_ _;show K5 _ W9;have am:=bZ X;clear X;go_wp2_with fail;refine am.Z.mono ?_;rintro e W6⟨rfl,m0,m1,z0,z1,l,av,N,J,M⟩;have HR:=bZ (E.Z _ J _ M);have f0:l.cell? ⟨n+1,0,none⟩=some (.int .i64 U):=by simp[World.cell?,N]
   have f1:=qX N;clear J M E;go_wp2_with fail;refine⟨(λe=>by cases e),.inl ⟨n+5,l,rfl,av,?_⟩⟩;refine⟨_,?_,HR.Z⟩;simp[results,results125,go_sem,f0,f1]
  rcases cn with⟨cU,cV⟩|⟨c3,ak,cV⟩
  ·have R:∀l,cH w lb L u l->∀v,g_ l r v->RR (.returned v) l:=λl h1 v h2=>by
    rw[<-a9];refine⟨v,rfl,h2,?_,bn.Z⟩;have c0:(cS u.cm m.1.1).isSome=false:=by simp[cS,bj,cU]
    simp only[gT,bk,c0];exact h1
   have E:=bZ R;clear R;go_wp2_with fail;obtain⟨_,X⟩:=T.Z.tail D;refine X.mono ?_;rintro e W6⟨rfl,m0,m1,z0,z1,l,av,N,J,M⟩;have HR:=bZ (E.Z _ J _ M);have f0:l.cell? ⟨n+1,0,none⟩=some (.int .i64 U):=by simp[World.cell?,N]
   have f1:=qX N;clear J M E T;go_wp2_with fail;refine⟨(λe=>by cases e),.inl ⟨n+5,l,rfl,av,?_⟩⟩;refine⟨_,?_,HR.Z⟩;simp[results,results125,go_sem,f0,f1]
  have R:∀l,cH w lb L (u.qK m.1.1) l->∀v,g_ l r v->RR (.returned v) l:=λl h1 v h2=>by
   rw[<-a9];refine⟨v,rfl,h2,?_,bn.Z⟩;simp only[gT,bk,c3];exact h1
  have E:=bZ R;clear R;go_wp2_with fail;refine(T.Z.qK D m hk bj cl).mono ?_;rintro e I⟨rfl,bm,X⟩;have am:=bZ X;clear X;go_wp2_with fail;refine am.Z.mono ?_;rintro e W6⟨rfl,m0,m1,z0,z1,l,av,N,J,M⟩;have HR:=bZ (E.Z _ J _ M);have f0:l.cell? ⟨n+1,0,none⟩=some (.int .i64 U):=by simp[World.cell?,N]
  have f1:=qX N;clear J M E T;go_wp2_with fail;refine⟨(λe=>by cases e),.inl ⟨n+5,l,rfl,av,?_⟩⟩;refine⟨_,?_,HR.Z⟩;simp[results,results125,go_sem,f0,f1]
end
section
open Tryz
variable{l:List (a_)}{b:Nat}{v:Xa}{xs:List Xa}{s:bY.LS}{L:Nat->Prop}
def dm.cell{w:QV}{g n c:Nat}(h:dm w (.slice (some ⟨g,0,none⟩) n c) l):n=l.length/\∀j x,l[j]?=some x->w.cell? ⟨g,j,none⟩=some (str x):=by
 have hc:=UX h (g:=g) rfl;refine⟨?_,λj x hx=>?_⟩
 ·rcases h.2 with⟨h1,_⟩|⟨g',m,p,h1,_⟩
  ·cases h1
  cases h1;rfl
 have:=hc j (str x) (by rw[P2,hx];rfl);have e:(⟨g,0,none⟩:Addr).add j=⟨g,j,none⟩:=by cases j<;>simp[Addr.add]
 rw[e]at this;exact this
def oW{w:QV}{b':Nat}{e:TypeId}{size n:Nat}(h:w.ownsRow b e size v n xs)(hb:b'<=b):w.ownsRow b' e size v n xs:=by
 obtain⟨h1,h2⟩:=h;refine⟨h1,?_⟩;rcases h2 with h2|⟨g,j,m,p,r,u⟩
 ·exact .inl h2
 exact .inr ⟨g,j,m,p,ah hb r,u⟩
def Az{w:QV}{e:TypeId}{size n:Nat}(h:w.ownsRow b e size v n xs)(hv:v≠.slice none 0 0):∃g j,v=.slice (some ⟨g,0,none⟩) n j/\b<=g:=by
 rcases h.2 with⟨h1,_⟩|⟨g,j,m,h1,h2,_⟩
 ·exact(hv h1).elim
 exact⟨g,j,h1,h2⟩
def qY{e0:TypeId}{w w':QV}(h:Xb w w'):Tn e0 w w' none :=⟨⟨h.os,h.tape,h.output,h.size,λk e _=>h.block k e⟩,λb hb=>by cases hb⟩
def LP.CI{w w1:QV}{p:Nat}{hb db:Nat}{C E vn D:Xa}(h:LP w p s L hb db C E vn D)(g:G w)(m:Xb w w1){g' cP n:Nat}(y:n=l.length)(hl:l≠[])(z:w1.ownsRow w.1.size 9 1 (.slice (some ⟨g',0,none⟩) n cP) n (l.map str))(u:w.1.size<=g'):cH w p L { s with cE:=l } (w1.setCell ⟨p,3,none⟩ (.slice (some ⟨g',0,none⟩) n cP)):=by
 subst y;have B:Tn 9 w w1 none:=qY m;have r:=oW z (b':=8) g.size;refine h.turned 9 none B (.inr (.inl rfl)) RZ RZ RZ RZ (λb hb=>by cases hb) (λk=>k=g') (λk j=>by subst j;exact⟨u,cz r rfl⟩) g 3 _ rfl rfl rfl (ld h.b_ m) r (ld h.du m) (ld h.jr m) (λk j=>?_) (λk j e=>?_) (λe=>(hl e).elim)
 ·rcases j with j|j|j|j
  ·exact .inl (h.dK k (.inl j))
  ·cases j;exact .inr rfl
  ·exact .inl (h.dK k (.inr (.inr (.inl j))))
  exact .inl (h.dK k (.inr (.inr (.inr j))))
 cases e;have:g'<w.1.size:=h.lt (h.dK _ (.inl j));omega
def Nt(w a n c n' e):(binOp .eql 40 (.slice a n c) (.slice none n' e)).run prog w=.ok (.bool a.isNone) w :=Lib.run_eql_slice_nil w _ _ a n c n' e underlying40
def uU(l:List (a_)):List ba:=l.map λx=>⟨x.toArray⟩
def D0(l):(uU l).map Value.string=l.map str:=by
 unfold uU;rw[P8];rfl
def rZ{w:QV}{g n c:Nat}(h:dm w (.slice (some ⟨g,0,none⟩) n c) l)(off):∀j,j<(uU (l.drop off)).length->w.cell? ⟨g,off+j,none⟩=some (.string ((uU (l.drop off)).getD j ByteArray.empty)):=λj hj=>by
 have e:off+j<l.length:=by
  unfold uU at hj;rw[aG,aO]at hj;omega
 have h1:=h.cell.2 (off+j) l[off+j] (aq e);rw[h1];unfold uU str;rw[List.getD_eq_getElem?_getD,P2,RY,aq e];rfl
def IG(w j s L hb db B vn I y off u)(h:LP w j s L hb db (.slice (some ⟨y,0,none⟩) s.b_.length u) B vn I)(g:G w)(Q:off<s.b_.length)(hlen:s.b_.length<=1000):Calls prog 84 #[ptr j,.slice (some ⟨y,off,none⟩) (s.b_.length-off) (u-off)] w λe w'=>e=.returned (.tuple #[])/\cH w j L (if s.cE=[] then{ s with cE:=s.b_.drop off } else s) w':=by
 have O:w.cell? ⟨j,3,none⟩=some B:=by simp[World.cell?,h.eb]
 have heq:=Nt;by_cases p:s.cE=[]
 ·rw[ag p];have hv:=h.oq p;subst hv;have R:(uU (s.b_.drop off)).length=s.b_.length-off:=by unfold uU;rw[aG,aO]
  have n:=slices_Clone_string y off (s.b_.length-off) (u-off) (uU (s.b_.drop off)) w RM RM (rZ h.b_ off);have n:=n.mono (R':=λe w1=>∃(g' m:Nat),e=.returned (.slice (some ⟨g',0,none⟩) (s.b_.length-off) m)/\w1.cell? ⟨j,3,none⟩=some (.slice none 0 0)/\w1.frozen? ⟨j,3,none⟩=false/\cH w j L { s with cE:=s.b_.drop off } (w1.setCell ⟨j,3,none⟩ (.slice (some ⟨g',0,none⟩) (s.b_.length-off) m))) (λe w1 M=>by
   obtain⟨v',rfl,z,hv,D⟩:=M;obtain⟨g',m,rfl,K⟩:=Az z hv;have F:=(D.block j (cj h.eb)).trans h.eb;rw[Qb RM,D0]at z;refine⟨g',m,rfl,by simp[World.cell?,F],by simp[World.frozen?,F],h.CI g D (by rw[aO]) (λe=>?_) z K⟩;have:=congrArg List.length e;rw[aO]at this;simp at this;omega)
  have C:=bZ n;clear n h;unfold ptr;go_enter func84,ntmps84;go_wp2_with fail;refine C.Z.mono ?_;rintro e w1⟨g',m,rfl,d3,S,E⟩;have r:=bZ E;clear E C;go_wp2_with fail
  go_end0
  exact⟨rfl,r.Z⟩
 rw[ae p];have N:∃g' m,B=.slice (some ⟨g',0,none⟩) s.cE.length m:=by
  rcases h.cE.2 with⟨_,h2⟩|⟨g',J,P,h1,_⟩
  ·exact(p (QN h2)).elim
  exact⟨g',J,h1⟩
 obtain⟨g',m,rfl⟩:=N;have r:=bZ (cH.refl ⟨hb,db,_,_,vn,I,h⟩);clear h;unfold ptr;go_enter func84,ntmps84;go_wp2_with fail
 go_end0
 exact⟨rfl,r.Z⟩
end
section
variable{x:a_}{k:ba}
def MT:(⟨x.toArray⟩:ba)=k↔x=k.1.1:=by
 constructor
 ·intro h;subst h;rfl
 intro h;subst h;cases k;simp
def xD(k):∀l i,(l.contains k.1.1=false/\Lib.idxFromS (uU l) k i=-1)\/∃j,j<l.length/\l.contains k.1.1=true/\Lib.idxFromS (uU l) k i=((i+j:Nat):Int)/\bY.eI l k.1.1=l.drop j
 |[],i=>.inl ⟨rfl,rfl⟩
 |x :: l,i=>by
  have hb:uU (x :: l)=(⟨x.toArray⟩:ba) :: uU l:=rfl;by_cases h:x=k.1.1
  ·refine .inr ⟨0,by simp,by simp[h],?_,?_⟩
   ·rw[hb];have:=MT.2 h;simp[Lib.idxFromS,this]
   unfold bY.eI;simp[h]
  have p:(⟨x.toArray⟩:ba)≠k:=λe=>h (MT.1 e);have e1:Lib.idxFromS (uU (x :: l)) k i=Lib.idxFromS (uU l) k (i+1):=by rw[hb];simp[Lib.idxFromS,p]
  have e2:(x :: l).contains k.1.1=l.contains k.1.1:=by
   have:(k.1.1==x)=false:=aw.2 (λe=>h e.symm);rw[List.contains_cons,this,QK]
  have b:bY.eI (x :: l) k.1.1=bY.eI l k.1.1:=by
   unfold bY.eI;have:(x==k.1.1)=false:=aw.2 h;simp[QU,this]
  rcases xD k l _ with⟨h1,h2⟩|⟨j,h1,h2,m,n⟩
  ·exact .inl ⟨e2.trans h1,e1.trans h2⟩
  refine .inr ⟨j+1,by simp;omega,e2.trans h2,?_,by rw[b,n];rfl⟩;rw[e1,m]
  congr 1
  omega
end
