/- Out of Nd. -/
import Derived.Test.YtpekpdimdelncaaGreatDoorP22
set_option linter.unusedVariables false
set_option maxRecDepth 100000
set_option maxHeartbeats 6000000
set_option linter.defProp false
namespace Go.Proofs.YtpekpdimdelncaaGreatDoor
open Go.RowKit
namespace Ref
structure Nd where
 op:Int
 s:ba
 x:Int
 y:Int
 z:Int
 p:Option Addr
 pn:Nat
 pc:Nat
 all:List Int
def Nd.cells(d:Nd):List Xb:=[.int .u8 d.op,.string d.s,.int .i64 d.x,.int .i64 d.y,.int .i64 d.z,.slice d.p d.pn d.pc]
def mZ(e:List Nd)(R:Nat->bY.T->Prop)(y:Nat)(t:bY.T):Prop :=if t.cu=2 then ∃(d:Nd) (v:bY.V),e[y]?=some d/\d.op=118/\t.is=some v/\d.s.1.1=bY.wr 3 v
 else if t.cu=3 then ∃d:Nd,e[y]?=some d/\d.op=107/\d.s.1.1=t.name
 else if t.cu=4 then ∃d:Nd,e[y]?=some d/\d.op=110
 else if t.cu=5 then ∃(d d0:Nd) (a b:Nat),e[y]?=some d/\d.op=45/\d.x=a/\d.y=b/\e[a]?=some d0/\d0.op=118/\d0.s.1.1=[48]/\R b (t.cM 0)
 else if t.cu=6 then R y (t.cM 0)
 else if t.cu=7 then ∃(d:Nd) (a:Nat),e[y]?=some d/\d.op=91/\d.x=a/\R a (t.cM 0)
 else if t.cu=8 then ∃(d:Nd) (j:List Nat),e[y]?=some d/\d.op=123/\d.all=j.map (λ(a:Nat)=>(a:Int))/\j.length=t.parts.length/\∀(k:Nat) (a:Nat) (u:bY.T),j[k]?=some a->t.parts[k]?=some u->R a u
 else if t.cu=9 then ∃(d:Nd) (a b c:Nat),e[y]?=some d/\d.op=63/\d.x=a/\d.y=b/\d.z=c/\R a (t.cM 0)/\R b (t.cM 1)/\R c (t.cM 2)
 else if t.cu=10\/t.cu=11\/t.cu=12 then ∃(d:Nd) (a:Nat),e[y]?=some d/\d.op=49/\d.s.1.1=(if t.cu=10 then[115,105,122,101]else if t.cu=11 then[115,117,109] else[119,111,114,100])/\d.x=a/\R a (t.cM 0)
 else ∃(d:Nd) (a b:Nat),e[y]?=some d/\d.op=(if t.cu=13 then(JZ 13 t.op:Int)else if t.cu=14 then 116 else if t.cu=15 then 101 else 115)/\d.x=a/\d.y=b/\R a (t.cM 0)/\R b (t.cM 1)
def nT(e:List Nd):Nat->Nat->bY.T->Prop
 |0,_,_=>False
 |m+1,x,t =>
  if t.cu=1 then ∃(d:Nd) (a b:Nat),e[x]?=some d/\d.op=(t.op:Int)/\d.x=a/\d.y=b/\nT e m a (t.cM 0)/\nT e m b (t.cM 1)
  else ∃(d:Nd) (y:Nat),e[x]?=some d/\d.op=102/\d.x=y/\mZ e (nT e m) y t
def mZ.mono{C D:List Nd}{R R':Nat->bY.T->Prop}(n:∀(i:Nat) (d),C[i]?=some d->D[i]?=some d)(m:∀x t,R x t->R' x t){y:Nat}{t:bY.T}(h:mZ C R y t):mZ D R' y t:=by
 unfold mZ at h ⊢;by_cases h2:t.cu=2
 ·rw[ag h2]at h ⊢;obtain⟨d,v,h1,e⟩:=h;exact⟨d,v,n _ _ h1,e⟩
 rw[ae h2]at h ⊢;by_cases h2:t.cu=3
 ·rw[ag h2]at h ⊢;obtain⟨d,h1,e⟩:=h;exact⟨d,n _ _ h1,e⟩
 rw[ae h2]at h ⊢;by_cases h2:t.cu=4
 ·rw[ag h2]at h ⊢;obtain⟨d,h1,e⟩:=h;exact⟨d,n _ _ h1,e⟩
 rw[ae h2]at h ⊢;by_cases h2:t.cu=5
 ·rw[ag h2]at h ⊢;obtain⟨d,d0,a,b,h1,e,j,l,p,r,z,B⟩:=h;exact⟨d,d0,a,b,n _ _ h1,e,j,l,n _ _ p,r,z,m _ _ B⟩
 rw[ae h2]at h ⊢;by_cases h2:t.cu=6
 ·rw[ag h2]at h ⊢;exact m _ _ h
 rw[ae h2]at h ⊢;by_cases h2:t.cu=7
 ·rw[ag h2]at h ⊢;obtain⟨d,a,h1,e,j,l⟩:=h;exact⟨d,a,n _ _ h1,e,j,m _ _ l⟩
 rw[ae h2]at h ⊢;by_cases h2:t.cu=8
 ·rw[ag h2]at h ⊢;obtain⟨d,E,h1,e,j,l,p⟩:=h;exact⟨d,E,n _ _ h1,e,j,l,λk a u F hu=>m _ _ (p k a u F hu)⟩
 rw[ae h2]at h ⊢;by_cases h2:t.cu=9
 ·rw[ag h2]at h ⊢;obtain⟨d,a,b,c,h1,e,j,l,p,r,z,B⟩:=h;exact⟨d,a,b,c,n _ _ h1,e,j,l,p,m _ _ r,m _ _ z,m _ _ B⟩
 rw[ae h2]at h ⊢;by_cases h2:t.cu=10\/t.cu=11\/t.cu=12
 ·rw[ag h2]at h ⊢;obtain⟨d,a,h1,e,j,l,p⟩:=h;exact⟨d,a,n _ _ h1,e,j,l,m _ _ p⟩
 rw[ae h2]at h ⊢;obtain⟨d,a,b,h1,e,j,l,p,r⟩:=h;exact⟨d,a,b,n _ _ h1,e,j,l,m _ _ p,m _ _ r⟩
def nT.mono{u z:List Nd}(e:∀(i:Nat) (d),u[i]?=some d->z[i]?=some d):∀{m p:Nat},m<=p->∀{x:Nat}{t:bY.T},nT u m x t->nT z p x t
 |0,_,_,_,_,h=>h.elim
 |m+1,0,r,_,_,_=>(Nat.not_succ_le_zero m r).elim
 |m+1,p+1,r,x,t,h=>by
  unfold nT at h ⊢;by_cases h1:t.cu=1
  ·rw[ag h1]at h ⊢;obtain⟨d,a,b,h2,j,l,n,B,C⟩:=h;exact⟨d,a,b,e _ _ h2,j,l,n,nT.mono e R5 B,nT.mono e R5 C⟩
  rw[ae h1]at h ⊢;obtain⟨d,y,h2,j,l,n⟩:=h;exact⟨d,y,e _ _ h2,j,l,n.mono e (λx t h=>nT.mono e R5 h)⟩
def Ext(b j:List Nd):Prop:=∃e,j=b++e
def Ext.refl(b):Ext b b:=⟨[],(RD _).symm⟩
def Ext.one(b d):Ext b (b++[d]):=⟨[d],rfl⟩
def Ext.trans{a b c:List Nd}(h:Ext a b)(k:Ext b c):Ext a c:=by
 obtain⟨e,rfl⟩:=h;obtain⟨f,rfl⟩:=k;exact⟨e++f,by rw[RU]⟩
def Ext.at{a b:List Nd}(h:Ext a b){i:Nat}{d:Nd}(hd:a[i]?=some d):b[i]?=some d:=by
 obtain⟨e,rfl⟩:=h;rw[aP (aA.1 hd).1];exact hd
def Ext.rep{a b:List Nd}(h:Ext a b){m e x:Nat}{t:bY.T}(l:nT a m x t)(j:m<=e):nT b e x t:=l.mono (λi d hd=>h.at hd) j
def iz(b)(d:Nd):(b++[d])[b.length]?=some d:=S5
def nT.again{e:List Nd}{m x:Nat}{t:bY.T}{d:Nd}(h:nT e m x t)(hd:e[x]?=some d):nT (e++[d]) m e.length t:=by
 have j:=Ext.one e d;cases m with
 |zero=>exact h.elim
 |succ m =>
  unfold nT at h ⊢;by_cases h1:t.cu=1
  ·rw[ag h1]at h ⊢;obtain⟨d',a,b,h2,l,n,p,r,u⟩:=h;rw[hd]at h2;cases h2;exact⟨d,a,b,iz e d,l,n,p,j.rep r (af _),j.rep u (af _)⟩
  rw[ae h1]at h ⊢;obtain⟨d',y,h2,l,n,p⟩:=h;rw[hd]at h2;cases h2;exact⟨d,y,iz e d,l,n,p.mono (λi d hd=>j.at hd) (λx t h=>j.rep h (af _))⟩
end Ref
section
open Tryz
namespace Ref
variable{l:Array Oper}{K:Act->Xa->Prop}{Q:Exit->Act->Xa->Prop}{rb B i n:Nat}{v u:Xb}{xs:List Xb}{ns:List Nd}{s t:ba}
def tO{P:Program}{o:Oper}{a:Act}{w:Xa}{E:Prop}(O:o.guard=none)(s x t)(S:o.op=Op.call {callee:=Callee.builtin Builtin.append,args:=#[s,x],argTypes:=#[t,t]})(base e i z size bytes)(h1:P.underlying t=some (.slice e))(h2:P.info? e=some i)(D:i.zero=some z)(F:i.size=size)(G:i.bytes=bytes)(I:z.cells.size=size)(J:0<size)(v n xs)(V:a.eval s=v)(T:w.ownsRow base e size v n xs)(y m c b)(hx:a.eval x=.slice (some y) m c)(R:b.length=m*size)(N:∀j u,b[j]?=some u->w.cell? (y.add j)=some u)(C:∀u∈b,u.oneCell'=true)(b1:n+m<=maxLen)(b2:(n+m)*bytes<=140737488355328)(M:base<=w.1.size)(L:∀r p,p.ownsRow base e size r (n+m) (xs++b)->w.grownBy p v.ownBlock->K (a.put o.dst r) p):if Region.wanted o (yielded l a.tmps)=true then Oper.wp P o a w K Q else E:=by
 have X:Region.wanted o (yielded l a.tmps)=true:=by simp[Region.wanted,O]
 rw[ag X];obtain⟨r,p,U,Y,Z,_⟩:=run_append_own (P:=P) w base t o.type e i z size bytes h1 h2 D F G I J v n xs T y m c b R N C b1 b2 M;unfold Oper.wp;simp[execOp,S,resolve,invoke,builtin,V,hx,U,Result.andThen];exact L r p Y Z
def GH:(prog.info? 147).map (λi=>(i.zero,i.size,i.bytes))=some (some (.agg #[.int .u8 0,.string ⟨#[]⟩,.int .i64 0,.int .i64 0,.int .i64 0,.slice none 0 0]),6,72):=S8
structure qi(w:Xa)(B:Nat)(v:Xb)(ns:List Nd):Prop where
 own:w.ownsRow B 147 6 v ns.length (ns.flatMap Nd.cells)
 all:∀d∈ns,d.pn=d.all.length/\w.ownsRow B 3 1 (.slice d.p d.pn d.pc) d.all.length (d.all.map λa=>.int .i64 a)
structure RF(rb B:Nat)(w w':Xa):Prop where
 os:w'.os=w.os
 tape:w'.tape=w.tape
 output:w'.output=w.output
 size:w.1.size<=w'.1.size
 low:∀k,k<B->k<w.1.size->k≠rb->w'.1[k]?=w.1[k]?
 other:∀k o,w.1[k]?=some o->k≠rb->(∀c fz,o≠.cells c 147 fz)->w'.1[k]?=some o
def RF.refl(rb B w):RF rb B w w:=⟨rfl,rfl,rfl,af _,λ_ _ _ _=>rfl,λ_ _ h _ _=>h⟩
def RF.trans{a b c:Xa}(h:RF rb B a b)(k:RF rb B b c):RF rb B a c :=⟨k.os.trans h.os,k.tape.trans h.tape,k.output.trans h.output,ah h.size k.size,λi hi e h1=>(k.low i hi (aw e h.size) h1).trans (h.low i hi e h1),λi o e h1 h2=>k.other i o (h.other i o e h1 h2) h1 h2⟩
def lt_of_heap{w:Xa}{k:Nat}{o:Obj}(h:w.1[k]?=some o):k<w.1.size:=by
 by_cases b:k<w.1.size
 ·exact b
 rw[R9 R5]at h;cases h
def RF.rF{w w':Xa}(h:w.grownBy w' (some rb)):RF rb B w w' :=⟨h.os,h.tape,h.output,h.size,λk _ j h1=>h.block k j (λe=>h1 (by injection e)),λk o b h1 _=>(h.block k (lt_of_heap b) (λe=>h1 (by injection e))).trans b⟩
def RF.fr{w w1 w':Xa}(k:RF rb B w w1)(h:w1.grownBy w' (some rb)):RF rb B w w':=k.trans (RF.rF h)
def sH{w w':Xa}(h:RF rb B w w'){base n:Nat}(b:w.ownsRow base 3 1 v n xs)(C:rb<base):w'.ownsRow base 3 1 v n xs:=by
 refine⟨b.1,?_⟩;rcases b.2 with p|⟨g,j,m,h1,h2,r,y⟩
 ·exact Or.inl p
 refine Or.inr ⟨g,j,m,h1,h2,?_,y⟩;exact h.other g _ r R5 (λc z e=>by injection e with _ e _;exact absurd e S4)
def qi.fr{w w':Xa}(h:qi w B v ns)(b:w.grownBy w' (some rb))(j:rb<B):qi w' B v ns :=⟨h.own.kept b (Or.inr (λe=>by have:=(h.own.lt _ e).1;omega)),λd hd=>⟨(h.all d hd).1,sH (RF.rF (B:=B) b) (h.all d hd).2 j⟩⟩
def ic.alloc{w:Xa}{code place b:Nat}(h:ic w s rb i t code place b v)(o):ic (w.alloc o) s rb i t code place b v :=(VR w o rb h.lt).trans h
def ic.grown{w w':Xa}{code place b:Nat}{row:Option Nat}(h:ic w s rb i t code place b v)(e:w.grownBy w' row)(j:some rb≠row):ic w' s rb i t code place b v :=(e.block rb h.lt j).trans h
def ic.nodes{w:Xa}{code place e:Nat}(h:ic w s rb i t code place e v)(b):ic (w.setCell ⟨rb,6,none⟩ b) s rb i t code place e b:=iA h 6 b
def dD{w:Xa}{base size n:Nat}{e:TypeId}(h:w.ownsRow base e size v n xs):∃p c,v=.slice p n c:=by
 rcases h.2 with⟨rfl,rfl⟩|⟨g,j,_,b,_⟩
 ·exact⟨_,_,rfl⟩
 exact⟨_,_,b⟩
def MI(w:Xa)(A k T b e m p r y):∀j u,[b,e,m,p,r,y][j]?=some u->(((w.alloc A).drewN k).alloc (.cells #[b,e,m,p,r,y] T)).cell? ((⟨w.1.size+1,0,none⟩:Addr).add j)=some u:=by
 intro j u z;have C:(((w.alloc A).drewN k).alloc (.cells #[b,e,m,p,r,y] T)).1[w.1.size+1]?=some (.cells #[b,e,m,p,r,y] T):=by
  have:=heap_alloc_new ((w.alloc A).drewN k) (.cells #[b,e,m,p,r,y] T);simpa using this
 have D:j<6:=by have:=aA.1 z;exact this.1
 rcases(by omega:j=0\/j=1\/j=2\/j=3\/j=4\/j=5)with rfl|rfl|rfl|rfl|rfl|rfl
 all_goals
  simp only[World.cell?,Addr.add];generalize (((w.alloc A).drewN k).alloc (.cells #[b,e,m,p,r,y] T)).1=H at C;simp[C];simpa using z
def J1{w:Xa}{e:TypeId}{size:Nat}(h:w.ownsRow B e size v n xs)(b:rb<B):some rb≠v.ownBlock:=λe=>by
 have:=(h.lt _ e.symm).1;omega
def OQ{w w':Xa}(rb B)(p:w.ownsRow B 147 6 v n xs)(b:w.grownBy w' v.ownBlock):RF rb B w (w'.setCell ⟨rb,6,none⟩ u):=by
 refine RF.trans (b:=w') ⟨b.os,b.tape,b.output,b.size,λk j r _=>b.block k r (λe=>?_),λk o j _ h2=>(b.block k (lt_of_heap j) (λe=>?_)).trans j⟩ (RF.rF (Fr.set (VQ _ _) _ _))
 ·have:=(p.lt _ e.symm).1;omega
 rcases p.2 with⟨rfl,_⟩|⟨g,y,z,rfl,_,m,_⟩
 ·simp[Value.ownBlock]at e
 simp[Value.ownBlock]at e;subst e;rw[j]at m;injection m with m
 exact h2 _ _ m
def MJ(s rb B i t code place T ns v b t2 x y z p j D w m)(h:ic w s rb i t code place T v)(hN:qi w B v ns)(r:rb<B)(ao:B<=w.1.size)(hn:ns.length<=100000)(R:j=m.length)(L:w.ownsRow B 3 1 (.slice p j D) m.length (m.map λa=>.int .i64 a)):Calls prog 67 #[.pointer (some ⟨rb,0,none⟩),.agg #[.int .u8 b,.string t2,.int .i64 x,.int .i64 y,.int .i64 z,.slice p j D]] w λe E=>e=.returned (.int .i64 ns.length)/\∃G,ic E s rb i t code place T G/\qi E B G (ns++[⟨b,t2,x,y,z,p,j,D,m⟩])/\RF rb B w E:=by
 obtain⟨U,V,X,Y,Z,c5,c6,cf⟩:=h.cells;obtain⟨C,M⟩:=hN;have J:=bZ (And.intro R L);have I:=bZ M;clear R L M;obtain⟨i0,aa,ab,ad,ai⟩:=VW GH;have ap:=h.lt;obtain⟨vp,vc,rfl⟩:=dD C;go_enter func67,ntmps67;go_wp2_with fail
 go_region_law (refine tO rfl (.tmp 9) (.tmp 11) 80 rfl B 147 i0 _ 6 72 underlying80 aa ab ad ai rfl S4 (.slice vp ns.length vc) _ (ns.flatMap Nd.cells) rfl (C.kept (row:=none) (Fr.alloc (Fr.drewN (Fr.alloc (VQ _ _) _) 1) _) (Classical.em _)) ⟨w.1.size+1,0,none⟩ 1 1 [.int .u8 b,.string t2,.int .i64 x,.int .i64 y,.int .i64 z,.slice p j D] rfl rfl (MI w _ _ _ _ _ _ _ _ _) UF Th R5 Tc ?_;intro G E P N;obtain⟨am,ak,rfl⟩:=dD P;have O:=Fr.trans (row:=_) (Fr.alloc (Fr.drewN (Fr.alloc (VQ w _) _) 1) _) N;have S:=ic.grown h O (J1 C r);obtain⟨k0,k1,k2,k3,k4,k5,k6,kf⟩:=S.cells)
 all_goals
  clear U V X Y Z c5 c6 cf N;go_wp2;go_ret;have F:=OQ rb B (u:=.slice am (ns.length+1) ak) C O;refine⟨by congr 2,_,ic.nodes S _,⟨?_,λd hd=>?_⟩,F⟩
  ·rw[aj,Rm];exact ownsRow_setCell_below P r _
  rcases aL.1 hd with hd|hd
  ·exact⟨(I.Z d hd).1,sH F (I.Z d hd).2 r⟩
  rw[Q_.1 hd];exact⟨J.Z.1,sH F J.Z.2 r⟩
end Ref
end
section
open bY
open Tryz
namespace Ref
variable{s:ba}{n D u:List Nd}{y:Nat×Nat}{v:Xb}{t l:a_}{i j:Nat}{F:Nat->Except (Nat×Nat) Nat}{c:UInt8}{d:Nd}
def jl(s:ba):Except (Nat×Nat) Nat->Nat
 |.ok i=>4*(s.size-i)
 |.error _=>0
structure RX(s:ba)(rb B its:Nat)(n:List Nd)(st:Except (Nat×Nat) Nat)(w:Xa):Prop where
 held:∃v i t code place,ic w s rb i t code place its v/\qi w B v n/\(∀j,st=.ok j->i=j/\code=0/\t=s.extract j (j+jD (s.1.1.drop j)))/\(∀y,st=.error y->code=y.1/\place=y.2/\y.1≠0)
 lt:rb<B
 le:B<=w.1.size
def RX.ok{b B its j:Nat}{w:Xa}(h:RX s b B its n (.ok j) w):∃v p,NW w s b j 0 p its v/\qi w B v n:=by
 obtain⟨v,i,t,code,place,h1,h2,e,_⟩:=h.held;obtain⟨rfl,rfl,rfl⟩:=e j rfl;exact⟨v,place,h1,h2⟩
def RX.err{b B its:Nat}{w:Xa}(h:RX s b B its n (.error y) w):y.1≠0/\∃v i t,ic w s b i t y.1 y.2 its v/\qi w B v n:=by
 obtain⟨v,i,t,code,place,h1,h2,_,e⟩:=h.held;obtain⟨rfl,rfl,m⟩:=e y rfl;exact⟨m,v,i,t,h1,h2⟩
def RX.kP{b B its j p:Nat}{w:Xa}(h:NW w s b j 0 p its v)(m:qi w B v n)(z:b<B)(e:B<=w.1.size):RX s b B its n (.ok j) w :=⟨⟨v,j,_,0,p,h,m,λk r=>(by cases r;exact⟨rfl,rfl,rfl⟩),λy C=>(by cases C)⟩,z,e⟩
def RX.fy{b B its i:Nat}{t:ba}{w:Xa}(h:ic w s b i t y.1 y.2 its v)(C:y.1≠0)(m:qi w B v n)(r:b<B)(e:B<=w.1.size):RX s b B its n (.error y) w :=⟨⟨v,i,t,_,_,h,m,λk p=>(by cases p),λz E=>(by cases E;exact⟨rfl,rfl,C⟩)⟩,r,e⟩
def Good(s:ba)(i:Nat)(b:Except (Nat×Nat) Nat):Prop:=∀j,b=.ok j->i<=j/\j<=s.size
def Good.andThen{e:Except (Nat×Nat) Nat}(h:Good s i e)(hF:∀a b,F a=.ok b->a<=s.size->a<=b/\b<=s.size):Good s i (bY.andThen e F):=λk m=>by
 obtain⟨j,h1,h2⟩:=andThen_ok m;have:=h j h1;have:=hF j k h2 this.2;omega
theorem Good.cD{e:Except (Nat×Nat) Nat}(h:Good s i e)(r:t≠[]):Good s i (bY.andThen e (bY.cD s.1.1 t)) :=h.andThen λa b p m=>by
  have:=fP p r (by simpa using m);simp at this;omega
def Good.P{p:Except (Nat×Nat) Nat}(h:Good s i p)(n r e m):Good s i (bY.andThen p (bY.P s.1.1 n r e m)) :=h.andThen λa b B z=>by
  have:=kS s.1.1 n r e m a b B Uc;simp at this;omega
def J2(s C B G n J w)(h:RX s C B G n J w)(b t2 x y z p r E m)(N:n.length<=100000)(O:r=m.length)(M:w.ownsRow B 3 1 (.slice p r E) m.length (m.map λa=>.int .i64 a)):Calls prog 67 #[.pointer (some ⟨C,0,none⟩),.agg #[.int .u8 b,.string t2,.int .i64 x,.int .i64 y,.int .i64 z,.slice p r E]] w λe I=>e=.returned (.int .i64 n.length)/\RX s C B G (n++[⟨b,t2,x,y,z,p,r,E,m⟩]) J I/\RF C B w I:=by
 obtain⟨v,i,t,code,place,h1,h2,K,L⟩:=h.held;refine b_ (MJ s C B i t code place G n v b t2 x y z p r E w m h1 h2 h.lt h.le N O M) λI ⟨P,k1,k2,k3⟩=>?_;exact⟨rfl,⟨⟨P,i,t,code,place,k1,k2,K,L⟩,h.lt,ah h.le k3.size⟩,k3⟩
def kQ(s m B p n r w)(h:RX s m B p n r w)(b t2 x y z)(E:n.length<=100000):Calls prog 67 #[.pointer (some ⟨m,0,none⟩),.agg #[.int .u8 b,.string t2,.int .i64 x,.int .i64 y,.int .i64 z,.slice none 0 0]] w λe C=>e=.returned (.int .i64 n.length)/\RX s m B p (n++[⟨b,t2,x,y,z,none,0,0,[]⟩]) r C/\RF m B w C :=J2 s m B p n r w h b t2 x y z none 0 0 [] E rfl ⟨rfl,.inl ⟨rfl,rfl⟩⟩
def kk(s b B m n z w)(h:RX s b B m n z w)(J:s.size<=200)(t)(I:known t.1.1=true)(i)(G:Good s i z):Calls prog 271 #[.pointer (some ⟨b,0,none⟩),.string t] w λe r=>e=.returned (.tuple #[])/\RX s b B m n (bY.andThen z (bY.cD s.1.1 t.1.1)) r/\RF b B w r:=by
 cases z with
 |error y =>
  obtain⟨K,v,i,x,h1,h2⟩:=h.err;refine(FM s b i x y.1 y.2 m v t w h1 K).mono ?_;rintro e r⟨rfl,rfl⟩;exact⟨rfl,h,RF.refl _ _ _⟩
 |ok j =>
  obtain⟨v,p,h1,h2⟩:=h.ok;refine b_ (Ie s b j p m v t w h1 J (G j rfl).2 I) λr ⟨f1,k1,k2⟩=>?_;refine⟨rfl,?_,RF.rF f1⟩;show RX s b B m n (bY.cD s.1.1 t.1.1 j) r;have E:=h2.fr f1 h.lt;have C:=ah h.le f1.size;cases hx:bY.cD _ _ j with
  |ok k =>
   obtain⟨M,k3⟩:=k1 k hx;exact RX.kP k3 E h.lt C
  |error y =>
   have L:y.1=3:=by
    unfold bY.cD at hx;split at hx
    ·cases hx
    cases hx;rfl
   exact RX.fy (k2 y hx) R5 E h.lt C
structure Ex(w:Xa)(a b:List Nd):Prop where
 ext:Ext a b
 new:∀d∈b,d∈a\/∀g,(Value.slice d.p d.pn d.pc).ownBlock=some g->w.1.size<=g
def Ex.then{w w1:Xa}{a b c:List Nd}(h:Ex w a b)(k:Ex w1 b c)(m:w.1.size<=w1.1.size):Ex w a c :=⟨h.ext.trans k.ext,λd hd=>by
  rcases k.new d hd with h1|h1
  ·exact h.new d h1
  ·exact .inr (λg e=>ah m (h1 g e))⟩
def Ex.refl(w a):Ex w a a:=⟨Ext.refl a,λ_ hd=>.inl hd⟩
def Ex.add(w a d)(h:∀g,(Value.slice d.p d.pn d.pc).ownBlock=some g->w.1.size<=g):Ex w a (a++[d]) :=⟨Ext.one a d,λe b=>by
  rcases aL.1 b with h1|h1
  ·exact .inl h1
  ·rw[Q_.1 h1];exact .inr h⟩
def Ex.one(w a d)(h:d.p=none):Ex w a (a++[d]):=Ex.add w a d (λg b=>by rw[h]at b;cases b)
def RP(s:ba)(r B z:Nat)(n:List Nd)(w:Xa)(E:Except (Nat×Nat) Nat)(m:Nat)(p:Except (Nat×Nat) Nat)(C:Nat->List Nd->Nat->Prop)(e:Ending)(w':Xa):Prop :=∃(x:Int) (b:List Nd),e=.returned (.int .i64 x)/\RX s r B z b p w'/\RF r B w w'/\b.length+jl s p<=n.length+jl s E+m/\Ex w n b/\(∀j,p=.ok j->∃k:Nat,x=(k:Int)/\k<b.length/\C j b k)
def Is(l:a_)(n z b e:Nat)(r:Except (Nat×Nat) Nat)(j:Nat)(p:List Nd)(k:Nat):Prop :=∀i,r=.ok i->∃t m,PT l n z b e i []=.ok (j,[t])/\nT p m k t
def RT(s:ba)(p B f r n:Nat):Prop :=∀(e m i:Nat) (b:Except (Nat×Nat) Nat) (w:Xa) (c:List Nd),e<=20->m<=e->8*(s.size-i)+bY.nd r<=n->Good s i b->RX s p B m c b w->c.length+jl s b<=2000 ->Calls prog f #[.pointer (some ⟨p,0,none⟩),.int .i64 (e:Int)] w (RP s p B m c w b 0 (bY.andThen b (bY.P s.1.1 n r e m)) (Is s.1.1 n r e m b))
def sI(s:ba)(j x)(hx:known x=true):((s.extract j (j+jD (s.1.1.drop j))).toList==x)=(tx s.1.1 j==x):=by
 rw[VP,kI,R6,Rd,Rd];exact mN _ _ _ hx
def E5(s:ba)(j c)(hx:known [c]=true)(h:tx s.1.1 j=[c]):(s.extract j (j+jD (s.1.1.drop j))).size=1:=by
 have:=(mN _ _ _ hx).2 h;rw[<-kI]at this;rw[VO,this];rfl
def wj(s b B m n j w)(h:RX s b B m n (.ok j) w)(E:s.size<=200)(C:j<=s.size)(z:2<=(bY.tok (s.1.1.drop j)).1):Calls prog 64 #[.pointer (some ⟨b,0,none⟩)] w λe r=>e=.returned (.tuple #[])/\RX s b B m n (.ok (fX s.1.1 j)) r/\RF b B w r:=by
 obtain⟨v,p,h1,h2⟩:=h.ok;refine b_ (uB s b j 0 p m v w h1 E C z) λr ⟨k1,f1⟩=>?_;exact⟨rfl,RX.kP k1 (h2.fr f1 h.lt) h.lt (ah h.le f1.size),RF.rF f1⟩
def GI(z:jy c=true)(h:tx l j=[c]):(bY.tok (l.drop j)).1=6:=by
 have B:=j8 (l:=l) (i:=j) T3;have C:[c]=(l.drop j).take (jD (l.drop j)):=by rw[k_ _ B];exact h.symm
 obtain⟨d1,d2,d3⟩:=qP z;rcases ln _ _ C with⟨_,a⟩|⟨_,_,b⟩|⟨_,_,_,_,_,x,r,e,f⟩|⟨_,_,_,_,d⟩|⟨a,_⟩|⟨a,_⟩
 ·rw[iJ d1]at a;cases a
 ·rw[iV d3]at b;cases b
 ·injection e with m p;rw[<-m,d2]at f;cases f
 ·obtain⟨x,r,e,f⟩:=xG d;injection e with m p;rw[<-m,d2]at f;cases f
 ·exact a
 omega
def E6(l j a b)(z:jy a=true)(B:jy b=true):gq l j [a,b]=(tx l j==[a]||tx l j==[b]):=by
 have h1:=λ(c:UInt8) (C:jy c=true) (h:tx l j=[c])=>GI C h;unfold gq;generalize tx l j=t at h1;rcases t with _|⟨c,_|⟨d,r⟩⟩
 ·rfl
 ·have hi:=H_ [a,b] c;show((bY.tok _).1==6&&decide _)=([c]==[a]||[c]==[b]);by_cases hx:c=a\/c=b
  ·have p:(bY.tok (l.drop j)).1=6:=by
    rcases hx with rfl|rfl
    ·exact h1 c z rfl
    exact h1 c B rfl
   have m:=hi.2 (by simpa using hx);rw[p,aQ m];rcases hx with rfl|rfl<;>simp
  have m:¬0<=Lib.indexByte [a,b] c:=λh=>hx (by simpa using hi.1 h);rw[aN m];have:c≠a/\c≠b:=⟨λe=>hx (Or.inl e),λe=>hx (Or.inr e)⟩;simp[this.1,this.2]
 simp
def wk{m p b e:Nat}{t1 t2:bY.T}(h1:nT D m b t1)(r:Ext D u)(h2:nT u p e t2)(B:d.op=(((tx l j).headD 0).toNat:Int))(hx:d.x=b)(C:d.y=e):nT (u++[d]) (max m p+1) u.length (jb l j [t1] [t2]):=by
 unfold nT;have z:(jb l j [t1] [t2]).cu=1:=rfl;rw[ag z];refine⟨d,b,e,iz u d,B,hx,C,?_,?_⟩
 ·exact(r.trans (Ext.one u d)).rep h1 (Sy _ _)
 exact(Ext.one u d).rep h2 (Sz _ _)
def E7{n b e j k p r:Nat}{m:Except (Nat×Nat) Nat}(h1:Is l n 1 b e m j D p)(C:Ext D u)(E:gq l j [60,61]=true)(h2:Is l n 1 b e (.ok (fX l j)) k u r)(G:d.op=(((tx l j).headD 0).toNat:Int))(hx:d.x=p)(I:d.y=r):Is l (n+1) 0 b e m k (u++[d]) u.length:=by
 intro i hi;obtain⟨t1,L,z,J⟩:=h1 i hi;obtain⟨t2,M,B,K⟩:=h2 _ rfl;refine⟨_,_,?_,wk J C K G hx I⟩;rw[PT,ag rfl,z];show(if gq l j [60,61]=true then _ else _)=_;rw[ag E,B];rfl
def MK{n b e j p:Nat}{m:Except (Nat×Nat) Nat}(h1:Is l n 1 b e m j D p)(z:¬gq l j [60,61]=true):Is l (n+1) 0 b e m j D p:=by
 intro i hi;obtain⟨t1,B,r,C⟩:=h1 i hi;refine⟨t1,B,?_,C⟩;rw[PT,ag rfl,r];show(if gq l j [60,61]=true then _ else _)=_;rw[ae z]
def BG(s:ba)(j c)(hx:known [c]=true)(h:tx s.1.1 j=[c])(b:0<(s.extract j (j+jD (s.1.1.drop j))).size):(s.extract j (j+jD (s.1.1.drop j)))[0]=c:=by
 have:=(mN _ _ _ hx).2 h;rw[<-kI]at this;have h2:=byte_at _ 0 b;rw[this]at h2;exact(aB h2).symm
def DP(s G B n)(hs:s.size<=200)(H:RT s G B 103 1 n):RT s G B 65 0 (n+1):=by
 intro r m i I w c hd ao ai hg h hc;have hr:∀k,bY.P _ (n+1) 0 r m k=bY.andThen _ λj=>if gq _ j [60,61]=true then bY.P _ n 1 r m (fX s.1.1 j)else .ok j:=λ_=>rfl;have h1:=H r m i I w c hd ao (by simp[bY.nd]at ai ⊢;omega) hg h hc;have ak:=hg.P n 1 r m;have z:bY.andThen I (bY.P s.1.1 (n+1) 0 r m)=bY.andThen (bY.andThen I (bY.P s.1.1 n 1 r m)) λj=>if gq s.1.1 j [60,61]=true then bY.P s.1.1 n 1 r m (fX s.1.1 j)else .ok j:=by
  cases I with
  |error y=>rfl
  |ok k=>exact hr k
 rw[z];generalize bY.andThen I _=ax at h1 ak;generalize ad:(bY.andThen ax λj=>if gq _ j [60,61]=true then bY.P _ n 1 r m _ else .ok j)=U;have H1:=bZ h1;go_enter func65,ntmps65;go_wp2_with fail;refine H1.Z.mono ?_;rintro e w1⟨x1,D,rfl,k1,E,b1,M,a7⟩;cases ax with
 |error y =>
  have hf:=ad.symm;subst hf;obtain⟨hy,v,i1,t1,q1,q2⟩:=k1.err;obtain⟨c0,c1,c2,c3,c4,c5,c6,cf⟩:=q1.cells;go_wp2;go_ret;exact⟨x1,D,rfl,k1,E,b1,M,λj O=>(by cases O)⟩
 |ok j =>
  obtain⟨a1,rfl,ay,a0⟩:=a7 j rfl;have Q:=bZ a0;obtain⟨v,p,q1,q2⟩:=k1.ok;obtain⟨c0,c1,c2,c3,c4,c5,c6,cf⟩:=q1.cells;have O:=ak j rfl;have Y:=E6 s.1.1 j 60 61 S4 S4;have t60:=sI s j [60] S4;have t61:=sI s j [61] S4;have z:(if gq s.1.1 j [60,61]=true then bY.andThen (.ok (fX s.1.1 j)) (bY.P s.1.1 n 1 r m)else .ok j)=U:=ad;rw[Y]at z;by_cases b:(tx s.1.1 j==[60]||tx s.1.1 j==[61])=true
  ·rw[ag b]at z;have a5:∃c,jy c=true/\known [c]=true/\tx s.1.1 j=[c]:=by
    rw[Rv]at b;rcases b with b|b
    ·exact⟨60,by decide,by decide,eq_of_beq b⟩
    exact⟨61,by decide,by decide,eq_of_beq b⟩
   obtain⟨S,a9,ap,N⟩:=a5;have a6:=E5 s j S ap N;have a8:=BG s j S ap N (by rw[a6];decide);have C:Hid (gq s.1.1 j [60,61]=true/\(((tx s.1.1 j).headD 0).toNat:Int)=(S.toNat:Int)):=bZ ⟨by rw[Y];exact b,by rw[N];rfl⟩;have am:=j8 (l:=s.1.1) (i:=j) (by rw[N];simp);have bc:=gu (qL _ am);have a4:fX s.1.1 j<=s.size:=by have:=fu s.1.1 j (by simpa using O.2);simpa using this
   have HN:=bZ (wj s G B m D j w1 k1 hs O.2 am);have bd:D.length+jl s (.ok (fX s.1.1 j))+4<=c.length+jl s I:=by simp only[jl]at b1 ⊢;omega
   have R:=bZ (λ(P:Xa) (k2:RX s G B m D (.ok (fX s.1.1 j)) P)=>H r m (fX s.1.1 j) (.ok (fX s.1.1 j)) P D hd ao (by simp[bY.nd]at ai ⊢;omega) (λa ha=>by cases ha;exact⟨af _,a4⟩) k2 R5);rw[z]at R;cases ab:(tx s.1.1 j==[60]) with
   |true =>
    rw[ab]at t60;go_wp2_with fail;refine b_ HN.Z λP ⟨k2,K⟩=>?_;go_wp2_with fail;refine(R.Z _ k2).mono ?_;rintro e w3⟨x3,u,rfl,k3,L,b3,J,aa⟩;go_wp2_with fail;refine b_ (kQ s G B m u U w3 k3 _ _ _ _ _ R5) λw4 ⟨k4,r4⟩=>?_;go_wp2;go_ret;refine⟨_,_,rfl,k4,E.trans (K.trans (L.trans r4)),by rw[aj,aD];omega,M.then (J.then (Ex.one w3 u _ rfl) L.size) (E.trans K).size,λZ X=>⟨u.length,rfl,by rw[aj,aD];omega,?_⟩⟩;obtain⟨a3,T,aC,V⟩:=aa Z X;exact E7 Q.Z J.ext C.Z.1 V C.Z.2.symm rfl T
   |false =>
    rw[ab]at t60 b;rw[Sr]at b;rw[b]at t61;go_wp2_with fail;refine b_ HN.Z λP ⟨k2,K⟩=>?_;go_wp2_with fail;refine(R.Z _ k2).mono ?_;rintro e w3⟨x3,u,rfl,k3,L,b3,J,aa⟩;go_wp2_with fail;refine b_ (kQ s G B m u U w3 k3 _ _ _ _ _ R5) λw4 ⟨k4,r4⟩=>?_;go_wp2;go_ret;refine⟨_,_,rfl,k4,E.trans (K.trans (L.trans r4)),by rw[aj,aD];omega,M.then (J.then (Ex.one w3 u _ rfl) L.size) (E.trans K).size,λZ X=>⟨u.length,rfl,by rw[aj,aD];omega,?_⟩⟩;obtain⟨a3,T,aC,V⟩:=aa Z X;exact E7 Q.Z J.ext C.Z.1 V C.Z.2.symm rfl T
  rw[ae b]at z;subst z;have av:(tx s.1.1 j==[60])=false/\(tx s.1.1 j==[61])=false:=by
   rw[Rv,not_or]at b;exact⟨by simpa using b.1,by simpa using b.2⟩
  rw[av.1]at t60;rw[av.2]at t61;have C:Hid (¬gq s.1.1 j [60,61]=true):=bZ (by rw[Y];simpa using b);go_wp2;go_ret;exact⟨_,D,rfl,k1,E,b1,M,λj' a2=>(by cases a2;exact⟨a1,rfl,ay,MK Q.Z C.Z⟩)⟩
end Ref
namespace Ref
variable{s:ba}{n u z b:List Nd}{y:Nat×Nat}{l:a_}{d:Nd}
def wm(w:Xa)(e size:Nat):Nat :=match w.cell? ⟨e,3,none⟩,w.cell? ⟨e,1,none⟩ with
 |some (.int _ 0),some (.int _ k)=>size-k.toNat+1
 |_,_=>0
def rG{w:Xa}{e B m j:Nat}(h:RX s e B m n (.ok j) w):wm w e s.size=s.size-j+1:=by
 obtain⟨v,p,h1,_⟩:=h.ok;rw[wm,h1.cells.2.2.2.1,h1.cells.2.1];rfl
def GJ{w:Xa}{e B j:Nat}(h:RX s e B j n (.error y) w):wm w e s.size=0:=by
 obtain⟨r,v,i,t,h1,_⟩:=h.err;rw[wm,h1.cells.2.2.2.1,h1.cells.2.1];split
 ·rename_i k _ h2 m;injection h2 with h2;injection h2 with h2 p;omega
 rfl
def ML(l:a_)(n C e p:Nat)(r:Except (Nat×Nat) Nat)(B m j:Nat)(u:List Nd)(k:Nat):Prop :=∀i,r=.ok i->∃t h,nT u h k t/\PT l n C e p i []=PT l m B e p j [t]
def GK{n p B j k:Nat}{C:Except (Nat×Nat) Nat}(h:Is l n 2 p B C j u k):ML l (n+1) 1 p B C 4 n j u k:=by
 intro i hi;obtain⟨t,m,e,r⟩:=h i hi;refine⟨t,m,r,?_⟩;rw[PT,ae S4,ag rfl,e];rfl
def DQ{n p B j k:Nat}{C:Except (Nat×Nat) Nat}(h:Is l n 3 p B C j u k):ML l (n+1) 2 p B C 5 n j u k:=by
 intro i hi;obtain⟨t,m,e,r⟩:=h i hi;refine⟨t,m,r,?_⟩;rw[PT,ae S4,ae S4,ag rfl,e];rfl
def PY(l m p r j e):PT l (m+1) 4 p r j e=if gq l j [43,45]=true then dh (PT l m 2 p r (fX l j) []) λB C=>PT l m 4 p r B [jb l j e C]else .ok (j,e):=by
 rw[PT,ae S4,ae S4,ae S4,ae S4,ag rfl]
def PZ(l m p r j e):PT l (m+1) 5 p r j e=if gq l j [42,47]=true then dh (PT l m 3 p r (fX l j) []) λB C=>PT l m 5 p r B [jb l j e C]else .ok (j,e):=by
 rw[PT,ae S4,ae S4,ae S4,ae S4,ae S4,ag rfl]
def BH{n e p m j k B C:Nat}{r:Except (Nat×Nat) Nat}(h1:ML l n 1 e p r 4 (m+1) j z B)(F:Ext z b)(G:gq l j [43,45]=true)(h2:Is l m 2 e p (.ok (fX l j)) k b C)(I:d.op=(((tx l j).headD 0).toNat:Int))(hx:d.x=B)(J:d.y=C):ML l n 1 e p r 4 m k (b++[d]) b.length:=by
 intro i hi;obtain⟨t1,M,K,D⟩:=h1 i hi;obtain⟨t2,N,E,L⟩:=h2 _ rfl;refine⟨_,_,wk K F L I hx J,?_⟩;rw[D,PY,ag G,E];rfl
def yq{n e p m j k B C:Nat}{r:Except (Nat×Nat) Nat}(h1:ML l n 2 e p r 5 (m+1) j z B)(F:Ext z b)(G:gq l j [42,47]=true)(h2:Is l m 3 e p (.ok (fX l j)) k b C)(I:d.op=(((tx l j).headD 0).toNat:Int))(hx:d.x=B)(J:d.y=C):ML l n 2 e p r 5 m k (b++[d]) b.length:=by
 intro i hi;obtain⟨t1,M,K,D⟩:=h1 i hi;obtain⟨t2,N,E,L⟩:=h2 _ rfl;refine⟨_,_,wk K F L I hx J,?_⟩;rw[D,PZ,ag G,E];rfl
def MN{n p B m j k:Nat}{C:Except (Nat×Nat) Nat}(h:ML l n 1 p B C 4 (m+1) j u k)(D:¬gq l j [43,45]=true):Is l n 1 p B C j u k:=by
 intro i hi;obtain⟨t,m,r,e⟩:=h i hi;exact⟨t,m,by rw[e,PY,ae D],r⟩
def J3{n p B m j k:Nat}{C:Except (Nat×Nat) Nat}(h:ML l n 2 p B C 5 (m+1) j u k)(D:¬gq l j [42,47]=true):Is l n 2 p B C j u k:=by
 intro i hi;obtain⟨t,m,r,e⟩:=h i hi;exact⟨t,m,by rw[e,PZ,ae D],r⟩
def wo(s L B n)(hs:s.size<=200)(f g l1 l2)(hp:(f=103/\g=145/\l1=1/\l2=2)\/(f=145/\g=192/\l1=2/\l2=3))(H:∀m,m<=n->RT s L B g l2 m):RT s L B f l1 (n+1):=by
 rcases hp with⟨rfl,rfl,rfl,rfl⟩|⟨rfl,rfl,rfl,rfl⟩
 case' inl=>let lv:Nat:=1;let G:Nat:=2;let Q:Nat:=4;let I:UInt8:=43;let K:UInt8:=45
 case' inr=>let lv:Nat:=2;let G:Nat:=3;let Q:Nat:=5;let I:UInt8:=42;let K:UInt8:=47
 all_goals
  intro C r i M w c hd a8 a4 hg h hc;have h1:=H n (af _) C r i M w c hd a8 (by simp[bY.nd]at a4 ⊢;omega) hg h hc;have ab:=hg.P n G C r;have P:bY.andThen M (bY.P s.1.1 (n+1) lv C r)=bY.andThen (bY.andThen M (bY.P s.1.1 n G C r)) (bY.P s.1.1 n Q C r):=by
   cases M with
   |error y=>rfl
   |ok k=>rfl
  rw[P];have a0:∀j,bY.andThen M (bY.P s.1.1 n G C r)=.ok j->8*(s.size-j)+1<=n:=λj O=>by
   obtain⟨k,e1,e2⟩:=andThen_ok O;have a1:=hg k e1;have a2:=kS s.1.1 n G C r k j e2 (by simpa using a1.2);simp at a2;simp[bY.nd]at a4;omega
  generalize bY.andThen M (bY.P s.1.1 n G C r)=bg at h1 ab a0;generalize bl:bY.andThen bg (bY.P s.1.1 n Q C r)=ax;have H1:=bZ h1;have HF:=bZ bl;have HH:=bZ H;have hT:∀m j,bY.P s.1.1 (m+1) Q C r j=if gq s.1.1 j [I,K]=true then bY.andThen (bY.P s.1.1 m G C r (fX s.1.1 j)) λj=>bY.P s.1.1 m Q C r j else .ok j:=λ_ _=>rfl;have HT:=bZ hT
  first|go_enter func103,ntmps103|go_enter func145,ntmps145
  go_wp2_with fail;refine H1.Z.mono ?_;rintro e w1⟨x1,z,rfl,k1,R,b1,U,ao⟩;go_wp2
  go_loopw [5] (λx wr=>∃(xi:Int) (E:Except (Nat×Nat) Nat) (m:Nat) (F:List Nd),x=.int .i64 xi/\RX s L B r F E wr/\RF L B w wr/\Good s i E/\(∀j,E=.ok j->8*(s.size-j)+1<=m)/\m<=n/\F.length+jl s E<=c.length+jl s M/\Ex w c F/\(∀j,E=.ok j->∃k:Nat,xi=(k:Int)/\k<F.length/\ML s.1.1 (n+1) lv C r M Q m j F k)/\Hid (bY.andThen E (bY.P s.1.1 m Q C r)=ax)) (λ_ wr=>wm wr L s.size)
  case atStart=>exact⟨x1,bg,n,z,rfl,k1,R,ab,a0,af _,b1,U,λj O=>(by obtain⟨k,e1,e2,N⟩:=ao j O;exact⟨k,e1,e2,(by first|exact GK N|exact DQ N)⟩),HF⟩
  case round =>
   obtain⟨xi,E,m,F,rfl,k1,R,ab,hm,bt,b1,U,ao,HM⟩:=hrel;cases E with
   |error y =>
    have hf:=HM.Z.symm;subst hf;obtain⟨hy,v,i1,t1,q1,q2⟩:=k1.err;obtain⟨c0,c1,c2,c3,c4,c5,c6,cf⟩:=q1.cells;go_wp2;go_ret;exact⟨xi,F,rfl,k1,R,b1,U,λj O=>(by cases O)⟩
   |ok j =>
    obtain⟨a1,rfl,bh,bk⟩:=ao j rfl;have bf:=bZ (rG k1);obtain⟨v,p,q1,q2⟩:=k1.ok;obtain⟨c0,c1,c2,c3,c4,c5,c6,cf⟩:=q1.cells;have O:=ab j rfl;have br:=hm j rfl;obtain⟨m,rfl⟩:∃m',m=m'+1:=⟨m-1,by omega⟩;have T:=bZ bk;have ai:=E6 s.1.1 j I K S4 S4;have t60:=sI s j [I] S4;have t61:=sI s j [K] S4;dsimp only[I,K]at t60 t61 ai;have P:(if gq s.1.1 j [I,K]=true then bY.andThen (bY.andThen (.ok (fX s.1.1 j)) (bY.P s.1.1 m G C r)) (bY.P s.1.1 m Q C r)else .ok j)=ax:=(HT.Z m j).symm.trans HM.Z;rw[ai]at P;by_cases D:(tx s.1.1 j==[I]||tx s.1.1 j==[K])=true
    ·rw[ag D]at P;have bn:∃c,jy c=true/\known [c]=true/\tx s.1.1 j=[c]:=by
      rw[Rv]at D;rcases D with D|D
      ·exact⟨I,by decide,by decide,eq_of_beq D⟩
      exact⟨K,by decide,by decide,eq_of_beq D⟩
     obtain⟨ch,bq,a9,aa⟩:=bn;have bo:=E5 s j ch a9 aa;have bp:=BG s j ch a9 aa (by rw[bo];decide);have J:Hid (gq s.1.1 j [I,K]=true/\(((tx s.1.1 j).headD 0).toNat:Int)=(ch.toNat:Int)):=bZ ⟨by rw[ai];exact D,by rw[aa];rfl⟩;have a6:=j8 (l:=s.1.1) (i:=j) (by rw[aa];simp);have bu:=gu (qL _ a6);have bc:fX s.1.1 j<=s.size:=by have:=fu s.1.1 j (by simpa using O.2);simpa using this
     have HN:=bZ (wj s L B r F j wr k1 hs O.2 a6);have bv:F.length+jl s (.ok (fX s.1.1 j))+4<=c.length+jl s M:=by simp only[jl]at b1 ⊢;omega
     have a7:Good s (fX s.1.1 j) (.ok (fX s.1.1 j)):=λa V=>by cases V;exact⟨af _,bc⟩
     have HS:=bZ (λ(w2:Xa) (k2:RX s L B r F (.ok (fX s.1.1 j)) w2)=>HH.Z m R5 C r (fX s.1.1 j) (.ok (fX s.1.1 j)) w2 F hd a8 Tk a7 k2 R5);have ad:=a7.P m G C r;have am:∀a,bY.andThen (.ok (fX s.1.1 j)) (bY.P s.1.1 m G C r)=.ok a->8*(s.size-a)+1<=m:=λa V=>by
      have:=(ad a V).1;have:=kS s.1.1 m G C r _ a V (by simpa using bc);simp at this;omega
     generalize bY.andThen (.ok (fX s.1.1 j)) (bY.P s.1.1 m G C r)=E at P HS ad am;have av:=bZ P;have aC:∀wz (nz:List Nd),RX s L B r nz E wz->wm wz L s.size<s.size-j+1:=λwz nz hz=>by
      cases E with
      |error y=>rw[GJ hz];omega
      |ok a=>rw[rG hz];have:=ad a rfl;omega
     have a5:Good s i E:=λa V=>by have:=ad a V;omega
     cases ay:(tx s.1.1 j==[I]) with
     |true =>
      rw[ay]at t60;go_wp2_with fail;refine b_ HN.Z λw2 ⟨k2,Y⟩=>?_;go_wp2_with fail;refine(HS.Z _ k2).mono ?_;rintro e w3⟨x3,b,rfl,k3,Z,b3,S,ap⟩;go_wp2_with fail;refine b_ (kQ s L B r b E w3 k3 _ _ _ _ _ R5) λw4 ⟨k4,r4⟩=>?_;go_wp2;refine⟨⟨_,E,m,_,rfl,k4,R.trans (Y.trans (Z.trans r4)),a5,am,by omega,by rw[aj,aD];omega,U.then (S.then (Ex.one w3 b _ rfl) Z.size) (R.trans Y).size,λj3 ak=>⟨b.length,rfl,by rw[aj,aD];omega,(by obtain⟨a3,N,bj,X⟩:=ap j3 ak;exact UG)⟩,av⟩,?_⟩;rw[bf.Z];exact aC _ _ k4
     |false =>
      rw[ay]at t60 D;rw[Sr]at D;rw[D]at t61;go_wp2_with fail;refine b_ HN.Z λw2 ⟨k2,Y⟩=>?_;go_wp2_with fail;refine(HS.Z _ k2).mono ?_;rintro e w3⟨x3,b,rfl,k3,Z,b3,S,ap⟩;go_wp2_with fail;refine b_ (kQ s L B r b E w3 k3 _ _ _ _ _ R5) λw4 ⟨k4,r4⟩=>?_;go_wp2;refine⟨⟨_,E,m,_,rfl,k4,R.trans (Y.trans (Z.trans r4)),a5,am,by omega,by rw[aj,aD];omega,U.then (S.then (Ex.one w3 b _ rfl) Z.size) (R.trans Y).size,λj3 ak=>⟨b.length,rfl,by rw[aj,aD];omega,(by obtain⟨a3,N,bj,X⟩:=ap j3 ak;exact UG)⟩,av⟩,?_⟩;rw[bf.Z];exact aC _ _ k4
    rw[ae D]at P;subst P;have bd:(tx s.1.1 j==[I])=false/\(tx s.1.1 j==[K])=false:=by
     rw[Rv,not_or]at D;exact⟨by simpa using D.1,by simpa using D.2⟩
    rw[bd.1]at t60;rw[bd.2]at t61;have J:Hid (¬gq s.1.1 j [I,K]=true):=bZ (by rw[ai];simpa using D);go_wp2;go_ret;exact⟨_,F,rfl,k1,R,b1,U,λj' bm=>(by cases bm;exact⟨a1,rfl,bh,(by first|exact MN T.Z J.Z|exact J3 T.Z J.Z)⟩)⟩
end Ref
end
section
open bY
namespace Ref
variable{p:List Nat}{ts:List bY.T}{v:Xb}{xs:List Xb}
def ql(l:a_)(n b e i:Nat):bY.RT :=if tx l i=[125]then .ok (fX l i,[])else dh (PT l n 0 b e i []) λj ts=>PT l n 6 b e j ts
def Qs(l m e n j b):PT l (m+1) 6 e n j b=if tx l j=[44]then dh (PT l m 0 e n (fX l j) []) λj r=>PT l m 6 e n j (b++r)else eX l [125] j b:=by
 rw[PT,ae S4,ae S4,ae S4,ae S4,ae S4,ae S4]
def tP(b:List Nd)(p:List Nat)(ts:List bY.T):Prop:=∃h,p.length=ts.length/\∀(k a:Nat) (u:bY.T),p[k]?=some a->ts[k]?=some u->nT b h a u
theorem tP.nil(b):tP b [] []:=⟨0,rfl,λk a u h=>by cases h⟩
def tP.snoc{r l:List Nd}{m a:Nat}{t:bY.T}(h:tP r p ts)(y:Ext r l)(B:nT l m a t):tP l (p++[a]) (ts++[t]):=by
 obtain⟨j,n,h1⟩:=h;refine⟨max j m,by rw[aj,aj,n];rfl,λk b u e hu=>?_⟩;by_cases z:k<p.length
 ·rw[aP z]at e;rw[aP R5]at hu;exact y.rep (h1 k b u e hu) (Sy _ _)
 rw[aX R5]at e;rw[aX R5]at hu;have j:k-p.length=0:=by
  have:=(aA.1 e).1;simp at this;omega
 rw[j]at e;rw[<-n,j]at hu;cases e;cases hu;exact B.mono (λ_ _ h=>h) (Sz _ _)
def wq{w:Xa}{b j size n:Nat}{e:TypeId}(h:w.ownsRow b e size v n xs)(y:j<=b):w.ownsRow j e size v n xs:=by
 refine⟨h.1,?_⟩;rcases h.2 with r|⟨g,l,m,h1,h2,u⟩
 ·exact .inl r
 exact .inr ⟨g,l,m,h1,ah y h2,u⟩
end Ref
end
section
namespace Ref
variable{s:ba}{n:List Nd}{v:Xb}{xs:List Xb}{t:a_}
def MO:(Tryz.prog.info? 3).map (λi=>(i.zero,i.size,i.bytes))=some (some (.int .i64 0),1,8):=S8
def RF.grown{p B:Nat}{a w w':Xa}{row:Option Nat}(h:RF p B a w)(b:w.grownBy w' row)(m:∀k,row=some k->a.1.size<=k):RF p B a w' :=⟨b.os.trans h.os,b.tape.trans h.tape,b.output.trans h.output,ah h.size b.size,λk r l u=>(b.block k (aw l h.size) (λe=>by have:=m k e.symm;omega)).trans (h.low k r l u),λk o j h1 h2=>(b.block k (lt_of_heap (h.other k o j h1 h2)) (λe=>by have:=m k e.symm;have:=lt_of_heap j;omega)).trans (h.other k o j h1 h2)⟩
def RX.grown{l B its:Nat}{z:Except (Nat×Nat) Nat}{w w':Xa}(h:RX s l B its n z w){base m:Nat}(r:w.ownsRow base 3 1 v m xs)(E:l<base)(hd:∀d∈n,∀g,(Value.slice d.p d.pn d.pc).ownBlock=some g->v.ownBlock≠some g)(b:w.grownBy w' v.ownBlock):RX s l B its n z w':=by
 obtain⟨u,i,t,code,place,h1,h2,C,D⟩:=h.held;obtain⟨y,p⟩:=h2;refine⟨⟨u,i,t,code,place,h1.grown b (J1 r E),⟨y.kept b ?_,λd j=>⟨(p d j).1,(p d j).2.kept b ?_⟩⟩,C,D⟩,h.lt,ah h.le b.size⟩
 ·rcases y.2 with⟨rfl,_⟩|⟨L,I,K,rfl,_,k4,_⟩
  ·exact Or.inl rfl
  refine Or.inr λe=>?_;rcases r.2 with⟨rfl,_⟩|⟨g,G,J,rfl,_,k3,_⟩
  ·simp[Value.ownBlock]at e
  simp[Value.ownBlock]at e;subst e;rw[k3]at k4;injection k4 with k4
  injection k4 with _ k4 _
  exact absurd k4 S4
 cases F:(Value.slice d.p d.pn d.pc).ownBlock with
 |none=>exact Or.inl rfl
 |some g=>exact Or.inr (λe=>hd d j g F e.symm)
def eV{b:Except (Nat×Nat) Nat}{i:Nat}(e:Good s i b)(l:t≠[]):jl s (bY.andThen b (bY.cD s.1.1 t))<=jl s b:=by
 cases b with
 |error y=>exact af _
 |ok k =>
  show jl s (bY.cD s.1.1 t k)<=_;cases hx:bY.cD s.1.1 t k with
  |error y=>exact ar _
  |ok j =>
   have:=bY.fP hx l (by simpa using(e k rfl).2);simp only[jl];omega
def zU(b:Xb)(k:Nat):Nat :=match b with
 |.bool true=>k
 |_=>0
def RX.alloc{b B its:Nat}{j:Except (Nat×Nat) Nat}{w:Xa}(h:RX s b B its n j w)(o):RX s b B its n j (w.alloc o):=by
 obtain⟨u,i,t,code,place,h1,h2,l,m⟩:=h.held;have e:w.grownBy (w.alloc o) (some b):=Fr.alloc (VQ _ _) _;exact⟨⟨u,i,t,code,place,h1.alloc o,h2.fr e h.lt,l,m⟩,h.lt,ah h.le e.size⟩
end Ref
end
section
open bY
open Tryz
namespace Ref
variable{l:a_}{C E:List Nd}{r:List Int}{D:List Nat}{ts:List bY.T}{p:Option Addr}{x:Int}{s:ba}{v:Xb}{xs:List Xb}
def LC(l:a_)(n b e i j:Nat)(C:List Nd)(k:Nat):Prop :=∃(d:Nd) (D:List Nat) (ts:List bY.T),C[k]?=some d/\d.op=123/\d.all=D.map (λ(a:Nat)=>(a:Int))/\tP C D ts/\ql l n b e i=.ok (j,ts)
def Cl(C:List Nd)(r:List Int)(R:List bY.T->Prop):Prop :=∃(D:List Nat) (ts:List bY.T),r=D.map (λ(a:Nat)=>(a:Int))/\tP C D ts/\R ts
def Cl.snoc{T:bY.RT}{m b e k k2 a:Nat}(h:Cl C r λts=>T=dh (PT l m 0 b e k []) λj z=>PT l m 6 b e j (ts++z))(y:Ext C E)(hi:Is l m 0 b e (.ok k) k2 E a):Cl E (r++[(a:Int)]) λts=>T=PT l m 6 b e k2 ts:=by
 obtain⟨D,ts,rfl,h1,h2⟩:=h;obtain⟨t,B,n,u⟩:=hi k rfl;refine⟨D++[a],ts++[t],by rw[aZ];rfl,h1.snoc y u,?_⟩;rw[h2,n];rfl
def Cl.imp{R R':List bY.T->Prop}(h:Cl C r R)(e:∀ts,R ts->R' ts):Cl C r R':=by
 obtain⟨D,ts,h1,h2,b⟩:=h;exact⟨D,ts,h1,h2,e ts b⟩
def kW{t:a_}{a b:Nat}(h:bY.cD l t a=.ok b)(ts):eX l t a ts=.ok (b,ts):=by
 unfold bY.cD at h;unfold eX;split at h
 ·rename_i h1;rw[ag h1];cases h;rfl
 cases h
def tP.ext(h:tP C D ts)(j:Ext C E):tP E D ts:=by
 obtain⟨b,m,h1⟩:=h;exact⟨b,m,λk a u e hu=>j.rep (h1 k a u e hu) (af _)⟩
def Cl.fin{n b e i k j:Nat}{B u:Nat}{y z:Int}(h:Cl C r λts=>ql l n b e i=eX l [125] k ts)(m:bY.cD l [125] k=.ok j):LC l n b e i j (C++[⟨123,s,x,y,z,p,B,u,r⟩]) C.length:=by
 obtain⟨D,ts,rfl,h1,h2⟩:=h;exact⟨_,D,ts,iz C _,rfl,rfl,h1.ext (Ext.one C _),h2.trans (kW m ts)⟩
def lE(C:List Nd)(v:Xb):Prop:=∀d∈C,∀g,(Value.slice d.p d.pn d.pc).ownBlock=some g->v.ownBlock≠some g
def lE.ex{w:Xa}{base m:Nat}(h:lE C v)(j:Ex w C E)(n:w.ownsRow base 3 1 v m xs):lE E v:=λd hd g b e=>by
 rcases j.new d hd with h1|h1
 ·exact h d h1 g b e
 have:=h1 g b;have:=(n.lt g e).2;omega
def lE.grow{z B y:Nat}{F:Except (Nat×Nat) Nat}{w w1:Xa}{b:Xb}(h:lE C v)(n:RX s z B y C F w)(m:b.ownBlock=v.ownBlock\/b.ownBlock=some w1.1.size)(G:w.1.size<=w1.1.size):lE C b:=λd hd g j e=>by
 rcases m with h1|h1
 ·exact h d hd g j (h1▸e)
 obtain⟨u,i,t,code,place,_,h2,_⟩:=n.held;have:=((h2.all d hd).2.lt g j).2;rw[h1]at e;cases e;omega
def wu{w:Xa}{base b:Nat}(e:r.length=b)(h:w.ownsRow base 3 1 v (b+1) (r.map (λa=>.int .i64 a)++[.int .i64 x])):w.ownsRow base 3 1 v (r++[x]).length ((r++[x]).map λa=>.int .i64 a):=by
 subst e;rw[aj,aZ];exact h
def J4(l:a_)(n b e i:Nat):Except (Nat×Nat) Nat :=if tx l i=[125]then .ok (fX l i)else bY.andThen (bY.andThen (.ok i) (bY.P l n 0 b e)) (bY.P l n 6 b e)
def DR(s F B n z u i c)(hs:s.size<=200)(hi:i<=s.size)(hd:z<=20)(bK:u<=z)(bJ:8*(s.size-i)+4<=n)(H:∀m,m<=n->RT s F B 65 0 m)(w)(h:RX s F B u c (.ok i) w)(hc:c.length+jl s (.ok i)<=2000):Calls prog 272 #[.pointer (some ⟨F,0,none⟩),.int .i64 z] w (RP s F B u c w (.ok i) 1 (J4 s.1.1 n z u i) (LC s.1.1 n z u i)):=by
 unfold J4;obtain⟨v,p,K,q2⟩:=h.ok;obtain⟨X,Y,Z,c3,c4,c5,c6,cf⟩:=K.cells;have t0:=sI s i [125] S4;by_cases L:tx s.1.1 i=[125]
 ·rw[ag L];have aa:=j8 (l:=s.1.1) (i:=i) (by rw[L];simp);have bE:=gu (qL _ aa);have HN:=bZ (wj s F B u c i w h hs hi aa);have ap:(tx s.1.1 i==[125])=true:=by rw[L];rfl
  rw[ap]at t0;have bG:c.length+jl s (.ok (fX s.1.1 i))<=c.length+jl s (.ok i):=Ut;have HE:Hid (ql s.1.1 n z u i=.ok (fX s.1.1 i,[])):=bZ (by unfold ql;rw[ag L]);clear L ap aa bE H;go_enter func272,ntmps272;go_wp2_with fail;refine b_ HN.Z λw2 ⟨k2,r2⟩=>?_;clear X Y Z c3 c4 c5 c6 cf;go_wp2_with fail;refine b_ (kQ s F B u c _ w2 k2 _ _ _ _ _ R5) λw4 ⟨k4,O⟩=>?_;go_wp2;go_ret;exact⟨_,_,rfl,k4,r2.trans O,by rw[aj,aD];omega,Ex.one w c _ rfl,λj hj=>⟨c.length,rfl,by rw[aj,aD];omega,(by cases hj;exact⟨_,[],[],iz c _,rfl,rfl,tP.nil _,HE.Z⟩)⟩⟩
 rw[ae L];have ap:(tx s.1.1 i==[125])=false:=by rw[az];exact L
 rw[ap]at t0;generalize bz:bY.andThen (bY.andThen (.ok i) (bY.P s.1.1 n 0 z u)) (bY.P s.1.1 n 6 z u)=fin;have HF:=bZ bz;have bC:Cl c [] λts=>ql s.1.1 n z u i=dh (PT s.1.1 n 0 z u i []) λj us=>PT s.1.1 n 6 z u j (ts++us):=⟨[],[],rfl,tP.nil c,by unfold ql;rw[ae L];rfl⟩;have bt:=bZ bC;clear bC;have HH:=bZ H;have bn:=h.lt;have a3:=h.le;have hT:∀m j,bY.P s.1.1 (m+1) 6 z u j=if tx s.1.1 j=[44]then bY.andThen (bY.P s.1.1 m 0 z u (fX s.1.1 j)) λj=>bY.P s.1.1 m 6 z u j else bY.cD s.1.1 [125] j:=λ_ _=>rfl;have HT:=bZ hT;have bv:∀(m j:Nat) (ts:List bY.T),PT s.1.1 (m+1) 6 z u j ts=if tx s.1.1 j=[44]then dh (PT s.1.1 m 0 z u (fX s.1.1 j) []) λj us=>PT s.1.1 m 6 z u j (ts++us)else eX s.1.1 [125] j ts:=λm j ts=>Qs _ m z u j ts;have ai:=bZ bv;clear bv;obtain⟨i0,bm,bp,bq,br⟩:=VW MO;clear L ap bz H hT;go_enter func272,ntmps272;go_wp2_with fail;clear K q2 X Y Z c3 c4 c5 c6 cf t0
 go_loopw [5,6] (λv mo wr=>∃(more:Bool) (U:Except (Nat×Nat) Nat) (m:Nat) (G:List Nd) (r:List Int),mo=.bool more/\wr.ownsRow w.1.size 3 1 v r.length (r.map λa=>.int .i64 a)/\RX s F B u G U wr/\RF F B w wr/\Good s i U/\G.length+jl s U<=c.length+jl s (.ok i)/\m<=n/\Ex w c G/\lE G v/\(more=true->∃k,U=.ok k/\r.length<=k/\8*(s.size-k)+4<=m/\Hid (bY.andThen (bY.andThen (.ok k) (bY.P s.1.1 m 0 z u)) (bY.P s.1.1 m 6 z u)=fin)/\Hid (Cl G r λts=>ql s.1.1 n z u i=dh (PT s.1.1 m 0 z u k []) λj us=>PT s.1.1 m 6 z u j (ts++us)))/\(more=false->Hid (bY.andThen U (bY.cD s.1.1 [125])=fin)/\Hid (∀k,U=.ok k->Cl G r λts=>ql s.1.1 n z u i=eX s.1.1 [125] k ts))) (λ_ mo wr=>zU mo (wm wr F s.size))
 case atStart=>exact⟨true,.ok i,n,c,[],rfl,⟨rfl,Or.inl ⟨rfl,rfl⟩⟩,h,RF.refl _ _ _,λa I=>(by cases I;exact⟨af _,hi⟩),af _,af _,Ex.refl w c,(λd hd g hg e=>by cases e),λ_=>⟨i,rfl,ar _,bJ,HF,bt⟩,λhx=>TW⟩
 case round =>
  clear HF h bt;obtain⟨more,U,m,G,r,rfl,ab,k1,r1,bj,b1,bD,bu,bx,bg,bh⟩:=hrel;have a7:=bZ bu;have a9:=bZ bx;clear bu bx;obtain⟨vp,vc,rfl⟩:=dD ab;cases more with
  |false =>
   obtain⟨J,ax⟩:=bh rfl;clear bg bh HH HT ai;have bL:=eV bj (t:=[125]) S5;have HK:=bZ (kk s F B u G U wr k1 hs ⟨#[125]⟩ S4 i bj);have bf:=bZ ab;clear ab;generalize a4:r.length=na at bf;have bd:=bZ a4;clear a4;go_wp2_with fail;refine b_ HK.Z λw2 ⟨k2,r2⟩=>?_;have bM:RX s F B u G fin w2:=by rw[<-J.Z];exact k2
   rw[J.Z]at bL;have bw:=wq (sH r2 bf.Z (aw bn a3)) a3;rw[<-bd.Z]at bw;go_wp2_with fail;refine b_ (J2 s F B u G _ w2 bM _ _ _ _ _ _ _ _ r R5 bd.Z.symm (by rw[<-bd.Z];exact bw)) λw4 ⟨k4,O⟩=>?_;go_wp2;go_ret;refine⟨_,_,rfl,k4,r1.trans (r2.trans O),by rw[aj,aD];omega,a7.Z.then (Ex.add w G _ (λg hg=>(bf.Z.lt g hg).1)) (af _),λj hj=>⟨G.length,rfl,by rw[aj,aD];omega,?_⟩⟩;obtain⟨k,Q,a2⟩:=andThen_ok (J.Z.trans hj);exact Cl.fin (ax.Z k Q) a2
  |true =>
   obtain⟨k,rfl,a4,hm,J,ax⟩:=bg rfl;generalize bF:r.length=na at ab a4 a9;clear bg bh;have bo:=bZ (rG k1);obtain⟨v,p,K,q2⟩:=k1.ok;obtain⟨X,Y,Z,c3,c4,c5,c6,cf⟩:=K.cells;have Q:=bj k rfl;have bl:Good s k (.ok k):=λa I=>by cases I;exact⟨af _,Q.2⟩
   have HS:=bZ (HH.Z m bD z u k (.ok k) wr G hd bK hm bl k1 R5);have bk:=bl.P m 0 z u;have bB:∀a,bY.andThen (.ok k) (bY.P s.1.1 m 0 z u)=.ok a->k+1<=a:=λa I=>by
    have:=kS s.1.1 m 0 z u k a I (by simpa using Q.2);simp at this;omega
   generalize bY.andThen (.ok k) (bY.P s.1.1 m 0 z u)=bH at HS J bk bB;have bA:Good s i bH:=λa I=>by have:=bk a I;omega
   clear bl k1;go_wp2_with fail;refine HS.Z.mono ?_;rintro e w3⟨V,T,rfl,k3,r3,b3,a0,bI⟩;have a8:=bZ (a7.Z.then a0 r1.size);have ad:=bZ (lE.ex a9.Z a0 ab);have ay:=bZ (And.intro a0.ext bI);clear HS X Y Z c3 c4 c5 c6 cf K q2 a0 bI a7 a9;have N:=sH r3 ab (aw bn a3);have a6:=r1.trans r3;have bP:w.1.size<=w3.1.size:=a6.size;clear r1 r3 ab;have a5:F<w.1.size:=aw bn a3;have aC:=bZ bF;clear bF;cases bH with
   |error y =>
    have hf:fin=.error y:=J.Z.symm;have am:Hid (bY.andThen (.error y) (bY.cD s.1.1 [125])=fin):=bZ hf.symm;have bQ:((y.1:Int)==0)=false:=by rw[az];have:=k3.err.1;omega
    clear J HT HH ai;go_wp2_with(at_builtin;go_must (refine wpList_append_own_at _ rfl _ _ 51 rfl w.1.size 3 i0 (.int .i64 0) 1 8 underlying51 bm bp bq br rfl S4 (.slice vp na vc) _ _ rfl (N.alloc _) ⟨w3.1.size,0,none⟩ 1 1 [.int .i64 V] rfl rfl (cell_one_new _ _ _) (λx hx=>by simp at hx;subst hx;rfl) Th R5 Tc ?_);intro v' w4 S P _ R;have k4:=RX.grown (k3.alloc _) (N.alloc _) a5 ad.Z P;have ak:=bZ (ad.Z.grow k3 R S5);have ao:=bZ (wu aC.Z S);clear S R;have O:=RF.grown (a6.fr (Fr.alloc (VQ _ _) _)) P (λb e=>(N.lt b e).1);obtain⟨_,v4,i4,t4,K,q2⟩:=k4.err;obtain⟨X,Y,Z,c3,c4,c5,c6,cf⟩:=K.cells);refine⟨⟨false,.error y,m,T,r++[V],rfl,ao.Z,k4,O,bA,by omega,bD,a8.Z,ak.Z,λhx=>TW,λ_=>⟨am,bZ (λk Q=>by cases Q)⟩⟩,?_⟩;rw[bo.Z];simp only[zU];omega
   |ok k2 =>
    have a2:=bk k2 rfl;have bN:=bB k2 rfl;have t44:=sI s k2 [44] S4;obtain⟨m,rfl⟩:∃m',m=m'+1:=⟨m-1,by omega⟩;by_cases M:tx s.1.1 k2=[44]
    ·have av:(tx s.1.1 k2==[44])=true:=by rw[M];rfl
     rw[av]at t44;have aa:=j8 (l:=s.1.1) (i:=k2) (by rw[M];simp);have bE:=gu (qL _ aa);have bO:fX s.1.1 k2<=s.size:=by have:=fu s.1.1 k2 (by simpa using a2.2);simpa using this
     have am:Hid (bY.andThen (bY.andThen (.ok (fX s.1.1 k2)) (bY.P s.1.1 m 0 z u)) (bY.P s.1.1 m 6 z u)=fin):=bZ (by
      have h6:=(HT.Z m k2).symm.trans J.Z;rw[ag M]at h6;exact h6)
     have bc:Hid (∃a:Nat,V=(a:Int)/\Cl T (r++[(a:Int)]) λts=>ql s.1.1 n z u i=dh (PT s.1.1 m 0 z u (fX s.1.1 k2) []) λj us=>PT s.1.1 m 6 z u j (ts++us)):=bZ (by
      obtain⟨a,I,_,hc⟩:=ay.Z.2 k2 rfl;exact⟨a,I,(Cl.snoc ax.Z ay.Z.1 hc).imp (λts h=>by rw[h,ai.Z m k2 ts,ag M])⟩)
     have bG:T.length+jl s (.ok (fX s.1.1 k2))<=c.length+jl s (.ok i):=by simp only[jl]at b1 b3 ⊢;omega
     have HN:=bZ (λ(w5:Xa) (k5:RX s F B u T (.ok k2) w5)=>wj s F B u T k2 w5 k5 hs a2.2 aa);clear J HT HH ai M av aa;go_wp2_with(at_builtin;go_must (refine wpList_append_own_at _ rfl _ _ 51 rfl w.1.size 3 i0 (.int .i64 0) 1 8 underlying51 bm bp bq br rfl S4 (.slice vp na vc) _ _ rfl (N.alloc _) ⟨w3.1.size,0,none⟩ 1 1 [.int .i64 V] rfl rfl (cell_one_new _ _ _) (λx hx=>by simp at hx;subst hx;rfl) Th R5 Tc ?_);intro v' w4 S P _ R;have k4:=RX.grown (k3.alloc _) (N.alloc _) a5 ad.Z P;have ak:=bZ (ad.Z.grow k3 R S5);have ao:=bZ (wu aC.Z S);clear S R;have O:=RF.grown (a6.fr (Fr.alloc (VQ _ _) _)) P (λb e=>(N.lt b e).1);obtain⟨v4,p4,K,q2⟩:=k4.ok;obtain⟨X,Y,Z,c3,c4,c5,c6,cf⟩:=K.cells);refine b_ (HN.Z _ k4) λw5 ⟨k5,r5⟩=>?_;go_wp2;refine⟨⟨true,.ok (fX s.1.1 k2),m,T,r++[V],rfl,sH r5 ao.Z a5,k5,O.trans r5,λa I=>(by cases I;omega),bG,by omega,a8.Z,ak.Z,λ_=>⟨_,rfl,by have:=aC.Z;rw[aj,aD];omega,by omega,am,bZ (by obtain⟨a,rfl,h⟩:=bc.Z;exact h)⟩,λhx=>TW⟩,?_⟩;rw[bo.Z];simp only[zU];rw[rG k5];omega
    have av:(tx s.1.1 k2==[44])=false:=by rw[az];exact M
    rw[av]at t44;have am:Hid (bY.andThen (.ok k2) (bY.cD s.1.1 [125])=fin):=bZ (by
     have h6:=(HT.Z m k2).symm.trans J.Z;rw[ae M]at h6;exact h6)
    have bc:Hid (∃a:Nat,V=(a:Int)/\Cl T (r++[(a:Int)]) λts=>ql s.1.1 n z u i=eX s.1.1 [125] k2 ts):=bZ (by
     obtain⟨a,I,_,hc⟩:=ay.Z.2 k2 rfl;exact⟨a,I,(Cl.snoc ax.Z ay.Z.1 hc).imp (λts h=>by rw[h,ai.Z m k2 ts,ae M])⟩)
    clear J HT HH ai M av;go_wp2_with(at_builtin;go_must (refine wpList_append_own_at _ rfl _ _ 51 rfl w.1.size 3 i0 (.int .i64 0) 1 8 underlying51 bm bp bq br rfl S4 (.slice vp na vc) _ _ rfl (N.alloc _) ⟨w3.1.size,0,none⟩ 1 1 [.int .i64 V] rfl rfl (cell_one_new _ _ _) (λx hx=>by simp at hx;subst hx;rfl) Th R5 Tc ?_);intro v' w4 S P _ R;have k4:=RX.grown (k3.alloc _) (N.alloc _) a5 ad.Z P;have ak:=bZ (ad.Z.grow k3 R S5);have ao:=bZ (wu aC.Z S);clear S R;have O:=RF.grown (a6.fr (Fr.alloc (VQ _ _) _)) P (λb e=>(N.lt b e).1);obtain⟨v4,p4,K,q2⟩:=k4.ok;obtain⟨X,Y,Z,c3,c4,c5,c6,cf⟩:=K.cells);refine⟨⟨false,.ok k2,m,T,r++[V],rfl,ao.Z,k4,O,bA,by omega,by omega,a8.Z,ak.Z,λhx=>TW,λ_=>⟨am,bZ (λk Q=>by cases Q;obtain⟨a,rfl,h⟩:=bc.Z;exact h)⟩⟩,?_⟩;rw[bo.Z];simp only[zU];omega
end Ref
end
