/- Out of Y8. -/
import Derived.Test.YtpekpdimdelncaaGreatDoorP31
set_option linter.unusedVariables false
set_option maxRecDepth 100000
set_option maxHeartbeats 6000000
set_option linter.defProp false
namespace Go.Proofs.YtpekpdimdelncaaGreatDoor
open Go.RowKit
section
open bY
open Tryz
namespace Ref
variable{s:ba}{n ns u b:List Nd}{y:Nat×Nat}{l:a_}{d:Nd}
def vo(w:QV)(e size:Nat):Nat :=match w.cell? ⟨e,3,none⟩,w.cell? ⟨e,1,none⟩ with
 |some (.int _ 0),some (.int _ k)=>size-k.toNat+1
 |_,_=>0
def rk{w:QV}{e B m j:Nat}(h:RX s e B m n (.ok j) w):vo w e s.size=s.size-j+1:=by
 obtain⟨v,p,h1,_⟩:=h.ok;rw[vo,h1.cells.2.2.2.1,h1.cells.2.1];rfl
def FQ{w:QV}{e B j:Nat}(h:RX s e B j n (.error y) w):vo w e s.size=0:=by
 obtain⟨hy,v,i,t,h1,_⟩:=h.err;rw[vo,h1.cells.2.2.2.1,h1.cells.2.1];split
 ·rename_i k _ h2 m;injection h2 with h2;injection h2 with h2 p;omega
 rfl
def LD(l:a_)(n z e p:Nat)(st:Except (Nat×Nat) Nat)(r m j:Nat)(ns:List Nd)(k:Nat):Prop :=∀i,st=.ok i->∃t h,nB ns h k t/\PT l n z e p i []=PT l m r e p j [t]
def FR{n p z j k:Nat}{st:Except (Nat×Nat) Nat}(h:Is l n 2 p z st j ns k):LD l (n+1) 1 p z st 4 n j ns k:=by
 intro i hi;obtain⟨t,m,e,r⟩:=h i hi;refine⟨t,m,r,?_⟩;rw[PT,ae RZ,ag rfl,e];rfl
def C9{n p z j k:Nat}{st:Except (Nat×Nat) Nat}(h:Is l n 3 p z st j ns k):LD l (n+1) 2 p z st 5 n j ns k:=by
 intro i hi;obtain⟨t,m,e,r⟩:=h i hi;refine⟨t,m,r,?_⟩;rw[PT,ae RZ,ae RZ,ag rfl,e];rfl
def OE(l:a_)(m p r j:Nat)(e:List bY.T):PT l (m+1) 4 p r j e=if fY l j [43,45]=true then cZ (PT l m 2 p r (fC l j) []) λz us=>PT l m 4 p r z [iT l j e us]else .ok (j,e):=by
 rw[PT,ae RZ,ae RZ,ae RZ,ae RZ,ag rfl]
def OG(l:a_)(m p r j:Nat)(e:List bY.T):PT l (m+1) 5 p r j e=if fY l j [42,47]=true then cZ (PT l m 3 p r (fC l j) []) λz us=>PT l m 5 p r z [iT l j e us]else .ok (j,e):=by
 rw[PT,ae RZ,ae RZ,ae RZ,ae RZ,ae RZ,ag rfl]
def A1{n e p m j k x1 r:Nat}{st:Except (Nat×Nat) Nat}(h1:LD l n 1 e p st 4 (m+1) j u x1)(z:Ext u b)(B:fY l j [43,45]=true)(h2:Is l m 2 e p (.ok (fC l j)) k b r)(C:d.op=(((tx l j).headD 0).toNat:Int))(hx:d.x=x1)(hy:d.y=r):LD l n 1 e p st 4 m k (b++[d]) b.length:=by
 intro i hi;obtain⟨t1,F,D,e1⟩:=h1 i hi;obtain⟨t2,G,e2,E⟩:=h2 _ rfl;refine⟨_,_,vk D z E C hx hy,?_⟩;rw[e1,OE,ag B,e2];rfl
def xO{n e p m j k x1 r:Nat}{st:Except (Nat×Nat) Nat}(h1:LD l n 2 e p st 5 (m+1) j u x1)(z:Ext u b)(B:fY l j [42,47]=true)(h2:Is l m 3 e p (.ok (fC l j)) k b r)(C:d.op=(((tx l j).headD 0).toNat:Int))(hx:d.x=x1)(hy:d.y=r):LD l n 2 e p st 5 m k (b++[d]) b.length:=by
 intro i hi;obtain⟨t1,F,D,e1⟩:=h1 i hi;obtain⟨t2,G,e2,E⟩:=h2 _ rfl;refine⟨_,_,vk D z E C hx hy,?_⟩;rw[e1,OG,ag B,e2];rfl
def LF{n p z m j k:Nat}{st:Except (Nat×Nat) Nat}(h:LD l n 1 p z st 4 (m+1) j ns k)(B:¬fY l j [43,45]=true):Is l n 1 p z st j ns k:=by
 intro i hi;obtain⟨t,m,r,e⟩:=h i hi;exact⟨t,m,by rw[e,OE,ae B],r⟩
def Ja{n p z m j k:Nat}{st:Except (Nat×Nat) Nat}(h:LD l n 2 p z st 5 (m+1) j ns k)(B:¬fY l j [42,47]=true):Is l n 2 p z st j ns k:=by
 intro i hi;obtain⟨t,m,r,e⟩:=h i hi;exact⟨t,m,by rw[e,OG,ae B],r⟩
def vq(s:ba)(J B n:Nat)(hs:s.size<=200)(f g l1 l2:Nat)(hp:(f=103/\g=145/\l1=1/\l2=2)\/(f=145/\g=192/\l1=2/\l2=3))(H:∀m,m<=n->RT s J B g l2 m):RT s J B f l1 (n+1):=by
 rcases hp with⟨rfl,rfl,rfl,rfl⟩|⟨rfl,rfl,rfl,rfl⟩
 case' inl=>let lv:Nat:=1;let hl:Nat:=2;let M:Nat:=4;let F:UInt8:=43;let I:UInt8:=45
 case' inr=>let lv:Nat:=2;let hl:Nat:=3;let M:Nat:=5;let F:UInt8:=42;let I:UInt8:=47
 all_goals
  intro z r i st w c hd a0 av hg h hc;have h1:=H n (af _) z r i st w c hd a0 (by simp[bY.nd]at av ⊢;omega) hg h hc;have X:=hg.P n hl z r;have L:bY.andThen st (bY.P s.1.1 (n+1) lv z r)=bY.andThen (bY.andThen st (bY.P s.1.1 n hl z r)) (bY.P s.1.1 n M z r):=by
   cases st with
   |error y=>rfl
   |ok k=>rfl
  rw[L];have ap:∀j,bY.andThen st (bY.P s.1.1 n hl z r)=.ok j->8*(s.size-j)+1<=n:=λj hj=>by
   obtain⟨k,e1,e2⟩:=andThen_ok hj;have a1:=hg k e1;have a2:=jv s.1.1 n hl z r k j e2 (by simpa using a1.2);simp at a2;simp[bY.nd]at av;omega
  generalize bY.andThen st (bY.P s.1.1 n hl z r)=a8 at h1 X ap;generalize bf:bY.andThen a8 (bY.P s.1.1 n M z r)=fin;have H1:=bZ h1;have HF:=bZ bf;have HH:=bZ H;have hT:∀m j,bY.P s.1.1 (m+1) M z r j=if fY s.1.1 j [F,I]=true then bY.andThen (bY.P s.1.1 m hl z r (fC s.1.1 j)) λj=>bY.P s.1.1 m M z r j else .ok j:=λ_ _=>rfl;have HT:=bZ hT
  first|go_enter func103,ntmps103|go_enter func145,ntmps145
  go_wp2_with fail;refine H1.Z.mono ?_;rintro e w1⟨x1,u,rfl,k1,N,b1,Q,ad⟩;go_wp2_with fail
  go_loopw [5] (λx wr=>∃(xi:Int) (D:Except (Nat×Nat) Nat) (m:Nat) (E:List Nd),x=.int .i64 xi/\RX s J B r E D wr/\RF J B w wr/\Good s i D/\(∀j,D=.ok j->8*(s.size-j)+1<=m)/\m<=n/\E.length+i_ s D<=c.length+i_ s st/\Ex w c E/\(∀j,D=.ok j->∃k:Nat,xi=(k:Int)/\k<E.length/\LD s.1.1 (n+1) lv z r st M m j E k)/\Hid (bY.andThen D (bY.P s.1.1 m M z r)=fin)) (λ_ wr=>vo wr J s.size)
  case atStart=>exact⟨x1,a8,n,u,rfl,k1,N,X,ap,af _,b1,Q,λj hj=>(by obtain⟨k,e1,e2,K⟩:=ad j hj;exact⟨k,e1,e2,(by first|exact FR K|exact C9 K)⟩),HF⟩
  case round =>
   obtain⟨xi,D,m,E,rfl,k1,N,X,hm,bn,b1,Q,ad,HM⟩:=hrel;cases D with
   |error y =>
    have hf:=HM.Z.symm;subst hf;obtain⟨hy,v,i1,t1,q1,q2⟩:=k1.err;obtain⟨c0,c1,c2,c3,c4,c5,c6,cf⟩:=q1.cells;go_wp2_with fail;go_ret;exact⟨xi,E,rfl,k1,N,b1,Q,λj hj=>SH⟩
   |ok j =>
    obtain⟨a1,rfl,a9,bd⟩:=ad j rfl;have a7:=bZ (rk k1);obtain⟨v,p,q1,q2⟩:=k1.ok;obtain⟨c0,c1,c2,c3,c4,c5,c6,cf⟩:=q1.cells;have hj:=X j rfl;have bm:=hm j rfl;obtain⟨m,rfl⟩:∃m',m=m'+1:=⟨m-1,by omega⟩;have P:=bZ bd;have Z:=Ea s.1.1 j F I RZ RZ;have t60:=sf s j [F] RZ;have t61:=sf s j [I] RZ;dsimp only[F,I]at t60 t61 Z;have L:(if fY s.1.1 j [F,I]=true then bY.andThen (bY.andThen (.ok (fC s.1.1 j)) (bY.P s.1.1 m hl z r)) (bY.P s.1.1 m M z r)else .ok j)=fin:=(HT.Z m j).symm.trans HM.Z;rw[Z]at L;by_cases C:(tx s.1.1 j==[F]||tx s.1.1 j==[I])=true
    ·rw[ag C]at L;have bh:∃c,jl c=true/\known [c]=true/\tx s.1.1 j=[c]:=by
      rw[Ql]at C;rcases C with C|C
      ·exact⟨F,by decide,by decide,eq_of_beq C⟩
      exact⟨I,by decide,by decide,eq_of_beq C⟩
     obtain⟨ch,bl,a4,V⟩:=bh;have bj:=D_ s j ch a4 V;have bk:=A0 s j ch a4 V (by rw[bj];decide);have G:Hid (fY s.1.1 j [F,I]=true/\(((tx s.1.1 j).headD 0).toNat:Int)=(ch.toNat:Int)):=bZ ⟨by rw[Z];exact C,by rw[V];rfl⟩;have ay:=jQ (l:=s.1.1) (i:=j) (by rw[V];simp);have bo:=fO (qx _ ay);have a5:fC s.1.1 j<=s.size:=by have:=fb s.1.1 j Sh;simpa using this
     have HN:=bZ (vh s J B r E j wr k1 hs hj.2 ay);have bp:E.length+i_ s (.ok (fC s.1.1 j))+4<=c.length+i_ s st:=by simp only[i_]at b1 ⊢;omega
     have aC:Good s (fC s.1.1 j) (.ok (fC s.1.1 j)):=λa R=>by cases R;exact⟨af _,a5⟩
     have HS:=bZ (λ(w2:QV) (k2:RX s J B r E (.ok (fC s.1.1 j)) w2)=>HH.Z m RM z r (fC s.1.1 j) (.ok (fC s.1.1 j)) w2 E hd a0 R8 aC k2 RM);have Y:=aC.P m hl z r;have ab:∀a,bY.andThen (.ok (fC s.1.1 j)) (bY.P s.1.1 m hl z r)=.ok a->8*(s.size-a)+1<=m:=λa R=>by
      have:=(Y a R).1;have:=jv s.1.1 m hl z r _ a R (by simpa using a5);simp at this;omega
     generalize bY.andThen (.ok (fC s.1.1 j)) (bY.P s.1.1 m hl z r)=D at L HS Y ab;have ak:=bZ L;have ao:∀wz (nz:List Nd),RX s J B r nz D wz->vo wz J s.size<s.size-j+1:=λwz nz hz=>by
      cases D with
      |error y=>rw[FQ hz];omega
      |ok a=>rw[rk hz];have:=Y a rfl;omega
     have ax:Good s i D:=λa R=>by have:=Y a R;omega
     cases am:(tx s.1.1 j==[F]) with
     |true =>
      rw[am]at t60;go_wp2_with fail;refine HN.Z.mono ?_;rintro e w2⟨rfl,k2,T⟩;go_wp2_with fail;refine(HS.Z _ k2).mono ?_;rintro e w3⟨x3,b,rfl,k3,U,b3,O,ai⟩;go_wp2_with fail;refine(kD s J B r b D w3 k3 _ _ _ _ _ RM).mono ?_;rintro e w4⟨rfl,k4,r4⟩;go_wp2_with fail;refine⟨⟨_,D,m,_,rfl,k4,N.trans (T.trans (U.trans r4)),ax,ab,by omega,by rw[aj,aD];omega,Q.then (O.then (Ex.one w3 b _ rfl) U.size) (N.trans T).size,λj3 aa=>⟨b.length,rfl,by rw[aj,aD];omega,(by obtain⟨a3,K,bc,S⟩:=ai j3 aa;exact Ty)⟩,ak⟩,?_⟩;rw[a7.Z];exact ao _ _ k4
     |false =>
      rw[am]at t60 C;rw[QK]at C;rw[C]at t61;go_wp2_with fail;refine HN.Z.mono ?_;rintro e w2⟨rfl,k2,T⟩;go_wp2_with fail;refine(HS.Z _ k2).mono ?_;rintro e w3⟨x3,b,rfl,k3,U,b3,O,ai⟩;go_wp2_with fail;refine(kD s J B r b D w3 k3 _ _ _ _ _ RM).mono ?_;rintro e w4⟨rfl,k4,r4⟩;go_wp2_with fail;refine⟨⟨_,D,m,_,rfl,k4,N.trans (T.trans (U.trans r4)),ax,ab,by omega,by rw[aj,aD];omega,Q.then (O.then (Ex.one w3 b _ rfl) U.size) (N.trans T).size,λj3 aa=>⟨b.length,rfl,by rw[aj,aD];omega,(by obtain⟨a3,K,bc,S⟩:=ai j3 aa;exact Ty)⟩,ak⟩,?_⟩;rw[a7.Z];exact ao _ _ k4
    rw[ae C]at L;subst L;have a6:(tx s.1.1 j==[F])=false/\(tx s.1.1 j==[I])=false:=by
     rw[Ql,not_or]at C;exact⟨by simpa using C.1,by simpa using C.2⟩
    rw[a6.1]at t60;rw[a6.2]at t61;have G:Hid (¬fY s.1.1 j [F,I]=true):=bZ (by rw[Z];simpa using C);go_wp2_with fail;go_ret;exact⟨_,E,rfl,k1,N,b1,Q,λj' bg=>(by cases bg;exact⟨a1,rfl,a9,(by first|exact LF P.Z G.Z|exact Ja P.Z G.Z)⟩)⟩
end Ref
end
section
open bY
namespace Ref
variable{p:List Nat}{ts:List bY.T}{v:Xa}{xs:List Xa}
def pZ(l:a_)(n b e i:Nat):bY.RT :=if tx l i=[125]then .ok (fC l i,[])else cZ (PT l n 0 b e i []) λj ts=>PT l n 6 b e j ts
def Pb(l:a_)(m e n j:Nat)(b:List bY.T):PT l (m+1) 6 e n j b=if tx l j=[44]then cZ (PT l m 0 e n (fC l j) []) λj us=>PT l m 6 e n j (b++us)else eQ l [125] j b:=by
 rw[PT,ae RZ,ae RZ,ae RZ,ae RZ,ae RZ,ae RZ]
def s8(ns:List Nd)(p:List Nat)(ts:List bY.T):Prop:=∃h,p.length=ts.length/\∀(k a:Nat) (u:bY.T),p[k]?=some a->ts[k]?=some u->nB ns h a u
def s8.nil(ns:List Nd):s8 ns [] []:=⟨0,rfl,λk a u h=>by cases h⟩
def s8.snoc{ns j:List Nd}{m a:Nat}{t:bY.T}(h:s8 ns p ts)(l:Ext ns j)(r:nB j m a t):s8 j (p++[a]) (ts++[t]):=by
 obtain⟨e,hl,h1⟩:=h;refine⟨max e m,by rw[aj,aj,hl];rfl,λk b u hb hu=>?_⟩;by_cases n:k<p.length
 ·rw[aU n]at hb;rw[aU RM]at hu;exact l.rep (h1 k b u hb hu) (Ri _ _)
 rw[aY RM]at hb;rw[aY RM]at hu;have e:k-p.length=0:=by
  have:=(az.1 hb).1;simp at this;omega
 rw[e]at hb;rw[<-hl,e]at hu;cases hb;cases hu;exact r.mono (λ_ _ h=>h) (Rk _ _)
def vt{w:QV}{b b0 size n:Nat}{e:TypeId}(h:w.ownsRow b e size v n xs)(hb:b0<=b):w.ownsRow b0 e size v n xs:=by
 refine⟨h.1,?_⟩;rcases h.2 with m|⟨g,j,l,h1,h2,r⟩
 ·exact .inl m
 exact .inr ⟨g,j,l,h1,ah hb h2,r⟩
end Ref
end
section
namespace Ref
variable{s:ba}{n:List Nd}{v:Xa}{xs:List Xa}{t:a_}
def LG:(Tryz.prog.info? 3).map (λi=>(i.zero,i.size,i.bytes))=some (some (.int .i64 0),1,8):=RO
def RF.grown{p B:Nat}{a w w':QV}{row:Option Nat}(h:RF p B a w)(b:w.grownBy w' row)(m:∀k,row=some k->a.1.size<=k):RF p B a w' :=⟨b.os.trans h.os,b.tape.trans h.tape,b.output.trans h.output,ah h.size b.size,λk r l u=>(b.block k (aA l h.size) (λe=>by have:=m k e.symm;omega)).trans (h.low k r l u),λk o j h1 h2=>(b.block k (lt_of_heap (h.other k o j h1 h2)) (λe=>by have:=m k e.symm;have:=lt_of_heap j;omega)).trans (h.other k o j h1 h2)⟩
def RX.grown{l B its:Nat}{st:Except (Nat×Nat) Nat}{w w':QV}(h:RX s l B its n st w){p m:Nat}(y:w.ownsRow p 3 1 v m xs)(hb:l<p)(hd:∀d∈n,∀g,(Value.slice d.p d.pn d.pc).ownBlock=some g->v.ownBlock≠some g)(b:w.grownBy w' v.ownBlock):RX s l B its n st w':=by
 obtain⟨u,i,t,code,place,h1,h2,C,D⟩:=h.held;obtain⟨z,r⟩:=h2;refine⟨⟨u,i,t,code,place,h1.grown b (I9 y hb),⟨z.kept b ?_,λd j=>⟨(r d j).1,(r d j).2.kept b ?_⟩⟩,C,D⟩,h.lt,ah h.le b.size⟩
 ·rcases z.2 with⟨rfl,_⟩|⟨g',G,J,rfl,_,k4,_⟩
  ·exact Or.inl rfl
  refine Or.inr λe=>?_;rcases y.2 with⟨rfl,_⟩|⟨g,F,I,rfl,_,k3,_⟩
  ·simp[Value.ownBlock]at e
  simp[Value.ownBlock]at e;subst e;rw[k3]at k4;injection k4 with k4
  injection k4 with _ k4 _
  exact absurd k4 RZ
 cases E:(Value.slice d.p d.pn d.pc).ownBlock with
 |none=>exact Or.inl rfl
 |some g=>exact Or.inr (λe=>hd d j g E e.symm)
def eO{st:Except (Nat×Nat) Nat}{i:Nat}(b:Good s i st)(e:t≠[]):i_ s (bY.andThen st (bY.cv s.1.1 t))<=i_ s st:=by
 cases st with
 |error y=>exact af _
 |ok k =>
  show i_ s (bY.cv s.1.1 t k)<=_;cases hx:bY.cv s.1.1 t k with
  |error y=>exact au _
  |ok j =>
   have:=bY.fI hx e (by simpa using(b k rfl).2);simp only[i_];omega
def zp(b:Xa)(k:Nat):Nat :=match b with
 |.bool true=>k
 |_=>0
def RX.alloc{b B its:Nat}{st:Except (Nat×Nat) Nat}{w:QV}(h:RX s b B its n st w)(o:Obj):RX s b B its n st (w.alloc o):=by
 obtain⟨u,i,t,code,place,h1,h2,j,l⟩:=h.held;have e:w.grownBy (w.alloc o) (some b):=Fr.alloc (UD _ _) _;exact⟨⟨u,i,t,code,place,h1.alloc o,h2.fr e h.lt,j,l⟩,h.lt,ah h.le e.size⟩
end Ref
end
section
open bY
open Tryz
namespace Ref
variable{l:a_}{ns C:List Nd}{al:List Int}{r:List Nat}{ts:List bY.T}{p:Option Addr}{x:Int}{s:ba}{v:Xa}{xs:List Xa}
def LC(l:a_)(n b e i j:Nat)(ns:List Nd)(k:Nat):Prop :=∃(d:Nd) (r:List Nat) (ts:List bY.T),ns[k]?=some d/\d.op=123/\d.all=r.map (λ(a:Nat)=>(a:Int))/\s8 ns r ts/\pZ l n b e i=.ok (j,ts)
def BG(ns:List Nd)(al:List Int)(R:List bY.T->Prop):Prop :=∃(r:List Nat) (ts:List bY.T),al=r.map (λ(a:Nat)=>(a:Int))/\s8 ns r ts/\R ts
def BG.snoc{T:bY.RT}{m b e k k2 a:Nat}(h:BG ns al λts=>T=cZ (PT l m 0 b e k []) λj us=>PT l m 6 b e j (ts++us))(y:Ext ns C)(hi:Is l m 0 b e (.ok k) k2 C a):BG C (al++[(a:Int)]) λts=>T=PT l m 6 b e k2 ts:=by
 obtain⟨r,ts,rfl,h1,h2⟩:=h;obtain⟨t,z,n,u⟩:=hi k rfl;refine⟨r++[a],ts++[t],by rw[aV];rfl,h1.snoc y u,?_⟩;rw[h2,n];rfl
def BG.imp{R R':List bY.T->Prop}(h:BG ns al R)(e:∀ts,R ts->R' ts):BG ns al R':=by
 obtain⟨r,ts,h1,h2,b⟩:=h;exact⟨r,ts,h1,h2,e ts b⟩
def kM{t:a_}{a b:Nat}(h:bY.cv l t a=.ok b)(ts:List bY.T):eQ l t a ts=.ok (b,ts):=by
 unfold bY.cv at h;unfold eQ;split at h
 ·rename_i h1;rw[ag h1];cases h;rfl
 cases h
def s8.ext(h:s8 ns r ts)(j:Ext ns C):s8 C r ts:=by
 obtain⟨b,hl,h1⟩:=h;exact⟨b,hl,λk a u e hu=>j.rep (h1 k a u e hu) (af _)⟩
def BG.fin{n b e i k j:Nat}{u m:Nat}{y z:Int}(h:BG ns al λts=>pZ l n b e i=eQ l [125] k ts)(hj:bY.cv l [125] k=.ok j):LC l n b e i j (ns++[⟨123,s,x,y,z,p,u,m,al⟩]) ns.length:=by
 obtain⟨r,ts,rfl,h1,h2⟩:=h;exact⟨_,r,ts,ie ns _,rfl,rfl,h1.ext (Ext.one ns _),h2.trans (kM hj ts)⟩
def ln(ns:List Nd)(v:Xa):Prop:=∀d∈ns,∀g,(Value.slice d.p d.pn d.pc).ownBlock=some g->v.ownBlock≠some g
def ln.ex{w:QV}{j m:Nat}(h:ln ns v)(n:Ex w ns C)(u:w.ownsRow j 3 1 v m xs):ln C v:=λd hd g b e=>by
 rcases n.new d hd with h1|h1
 ·exact h d h1 g b e
 have:=h1 g b;have:=(u.lt g e).2;omega
def ln.grow{n B m:Nat}{st:Except (Nat×Nat) Nat}{w w1:QV}{v':Xa}(h:ln ns v)(j:RX s n B m ns st w)(hl:v'.ownBlock=v.ownBlock\/v'.ownBlock=some w1.1.size)(y:w.1.size<=w1.1.size):ln ns v':=λd hd g b e=>by
 rcases hl with h1|h1
 ·exact h d hd g b (h1▸e)
 obtain⟨u,i,t,code,place,_,h2,_⟩:=j.held;have:=((h2.all d hd).2.lt g b).2;rw[h1]at e;cases e;omega
def vu{w:QV}{b e:Nat}(j:al.length=e)(h:w.ownsRow b 3 1 v (e+1) (al.map (λa=>.int .i64 a)++[.int .i64 x])):w.ownsRow b 3 1 v (al++[x]).length ((al++[x]).map λa=>.int .i64 a):=by
 subst j;rw[aj,aV];exact h
def Jb(l:a_)(n b e i:Nat):Except (Nat×Nat) Nat :=if tx l i=[125]then .ok (fC l i)else bY.andThen (bY.andThen (.ok i) (bY.P l n 0 b e)) (bY.P l n 6 b e)
def C'(s:ba)(D B n z u i:Nat)(c:List Nd)(hs:s.size<=200)(hi:i<=s.size)(hd:z<=20)(bI:u<=z)(bH:8*(s.size-i)+4<=n)
  (H:∀m,m<=n->RT s D B 65 0 m) (w:QV) (h:RX s D B u c (.ok i) w) (hc:c.length+i_ s (.ok i)<=2000) :
  Calls prog 272 #[.pointer (some ⟨D,0,none⟩),.int .i64 (z:Int)] w (RP s D B u c w (.ok i) 1 (Jb s.1.1 n z u i) (LC s.1.1 n z u i)):=by
 unfold Jb;obtain⟨v,p,I,q2⟩:=h.ok;obtain⟨T,c1,c2,U,V,X,Y,cf⟩:=I.cells;have t0:=sf s i [125] RZ;by_cases hb:tx s.1.1 i=[125]
 ·rw[ag hb];have Z:=jQ (l:=s.1.1) (i:=i) SV;have bC:=fO (qx _ Z);have HN:=bZ (vh s D B u c i w h hs hi Z);have ao:(tx s.1.1 i==[125])=true:=by rw[hb];rfl
  rw[ao]at t0;have bE:c.length+i_ s (.ok (fC s.1.1 i))<=c.length+i_ s (.ok i):=Ti;have HE:Hid (pZ s.1.1 n z u i=.ok (fC s.1.1 i,[])):=bZ (by unfold pZ;rw[ag hb]);clear hb ao Z bC H;go_enter func272,ntmps272;go_wp2_with fail;refine HN.Z.mono ?_;rintro e w2⟨rfl,k2,r2⟩;clear T c1 c2 U V X Y cf;go_wp2_with fail;refine(kD s D B u c _ w2 k2 _ _ _ _ _ RM).mono ?_;rintro e w4⟨rfl,k4,L⟩;go_wp2_with fail;go_ret;exact⟨_,_,rfl,k4,r2.trans L,by rw[aj,aD];omega,Ex.one w c _ rfl,λj hj=>⟨c.length,rfl,by rw[aj,aD];omega,(by cases hj;exact⟨_,[],[],ie c _,rfl,rfl,s8.nil _,HE.Z⟩)⟩⟩
 rw[ae hb];have ao:(tx s.1.1 i==[125])=false:=by rw[aw];exact hb
 rw[ao]at t0;generalize bw:bY.andThen (bY.andThen (.ok i) (bY.P s.1.1 n 0 z u)) (bY.P s.1.1 n 6 z u)=fin;have HF:=bZ bw;have bA:BG c [] λts=>pZ s.1.1 n z u i=cZ (PT s.1.1 n 0 z u i []) λj us=>PT s.1.1 n 6 z u j (ts++us):=⟨[],[],rfl,s8.nil c,by unfold pZ;rw[ae hb];rfl⟩;have bq:=bZ bA;clear bA;have HH:=bZ H;have bl:=h.lt;have a2:=h.le;have hT:∀m j,bY.P s.1.1 (m+1) 6 z u j=if tx s.1.1 j=[44]then bY.andThen (bY.P s.1.1 m 0 z u (fC s.1.1 j)) λj=>bY.P s.1.1 m 6 z u j else bY.cv s.1.1 [125] j:=λ_ _=>rfl;have HT:=bZ hT;have bt:∀(m j:Nat) (ts:List bY.T),PT s.1.1 (m+1) 6 z u j ts=if tx s.1.1 j=[44]then cZ (PT s.1.1 m 0 z u (fC s.1.1 j) []) λj us=>PT s.1.1 m 6 z u j (ts++us)else eQ s.1.1 [125] j ts:=λm j ts=>Pb _ m z u j ts;have ad:=bZ bt;clear bt;obtain⟨i0,bk,bn,bo,bp⟩:=UJ LG;clear hb ao bw H hT;go_enter func272,ntmps272;go_wp2_with fail;clear I q2 T c1 c2 U V X Y cf t0
 go_loopw [5,6] (λv mo wr=>∃(more:Bool) (R:Except (Nat×Nat) Nat) (m:Nat) (E:List Nd) (al:List Int),mo=.bool more/\wr.ownsRow w.1.size 3 1 v al.length (al.map λa=>.int .i64 a)/\RX s D B u E R wr/\RF D B w wr/\Good s i R/\E.length+i_ s R<=c.length+i_ s (.ok i)/\m<=n/\Ex w c E/\ln E v/\(more=true->∃k,R=.ok k/\al.length<=k/\8*(s.size-k)+4<=m/\Hid (bY.andThen (bY.andThen (.ok k) (bY.P s.1.1 m 0 z u)) (bY.P s.1.1 m 6 z u)=fin)/\Hid (BG E al λts=>pZ s.1.1 n z u i=cZ (PT s.1.1 m 0 z u k []) λj us=>PT s.1.1 m 6 z u j (ts++us)))/\(more=false->Hid (bY.andThen R (bY.cv s.1.1 [125])=fin)/\Hid (∀k,R=.ok k->BG E al λts=>pZ s.1.1 n z u i=eQ s.1.1 [125] k ts))) (λ_ mo wr=>zp mo (vo wr D s.size))
 case atStart=>exact⟨true,.ok i,n,c,[],rfl,⟨rfl,Or.inl ⟨rfl,rfl⟩⟩,h,RF.refl _ _ _,λa F=>(by cases F;exact⟨af _,hi⟩),af _,af _,Ex.refl w c,(λd hd g hg e=>by cases e),λ_=>⟨i,rfl,au _,bH,HF,bq⟩,λhx=>Sr⟩
 case round =>
  clear HF h bq;obtain⟨more,R,m,E,al,rfl,aa,k1,r1,bg,b1,bB,br,bv,bd,bf⟩:=hrel;have a6:=bZ br;have a8:=bZ bv;clear br bv;obtain⟨vp,vc,rfl⟩:=dP aa;cases more with
  |false =>
   obtain⟨G,av⟩:=bf rfl;clear bd bf HH HT ad;have bJ:=eO bg (t:=[125]) R2;have HK:=bZ (j9 s D B u E R wr k1 hs ⟨#[125]⟩ RZ i bg);have HOW:=bZ aa;clear aa;generalize a3:al.length=na at HOW;have bc:=bZ a3;clear a3;go_wp2_with fail;refine HK.Z.mono ?_;rintro e w2⟨rfl,k2,r2⟩;have bK:RX s D B u E fin w2:=by rw[<-G.Z];exact k2
   rw[G.Z]at bJ;have bu:=vt (se r2 HOW.Z (aA bl a2)) a2;rw[<-bc.Z]at bu;go_wp2_with fail;refine(I_ s D B u E _ w2 bK _ _ _ _ _ _ _ _ al RM bc.Z.symm (by rw[<-bc.Z];exact bu)).mono ?_;rintro e w4⟨rfl,k4,L⟩;go_wp2_with fail;go_ret;refine⟨_,_,rfl,k4,r1.trans (r2.trans L),by rw[aj,aD];omega,a6.Z.then (Ex.add w E _ (λg hg=>(HOW.Z.lt g hg).1)) (af _),λj hj=>⟨E.length,rfl,by rw[aj,aD];omega,?_⟩⟩;obtain⟨k,N,a0⟩:=andThen_ok (G.Z.trans hj);exact BG.fin (av.Z k N) a0
  |true =>
   obtain⟨k,rfl,a3,hm,G,av⟩:=bd rfl;generalize bD:al.length=na at aa a3 a8;clear bd bf;have bm:=bZ (rk k1);obtain⟨v,p,I,q2⟩:=k1.ok;obtain⟨T,c1,c2,U,V,X,Y,cf⟩:=I.cells;have N:=bg k rfl;have bj:Good s k (.ok k):=λa F=>by cases F;exact⟨af _,N.2⟩
   have HS:=bZ (HH.Z m bB z u k (.ok k) wr E hd bI hm bj k1 RM);have bh:=bj.P m 0 z u;have bz:∀a,bY.andThen (.ok k) (bY.P s.1.1 m 0 z u)=.ok a->k+1<=a:=λa F=>by
    have:=jv s.1.1 m 0 z u k a F (by simpa using N.2);simp at this;omega
   generalize bY.andThen (.ok k) (bY.P s.1.1 m 0 z u)=bF at HS G bh bz;have bx:Good s i bF:=λa F=>by have:=bh a F;omega
   clear bj k1;go_wp2_with fail;refine HS.Z.mono ?_;rintro e w3⟨S,Q,rfl,k3,r3,b3,aC,bG⟩;have a7:=bZ (a6.Z.then aC r1.size);have ab:=bZ (ln.ex a8.Z aC aa);have ax:=bZ (And.intro aC.ext bG);clear HS T c1 c2 U V X Y cf I q2 aC bG a6 a8;have K:=se r3 aa (aA bl a2);have a5:=r1.trans r3;have bN:w.1.size<=w3.1.size:=a5.size;clear r1 r3 aa;have a4:D<w.1.size:=aA bl a2;have ay:=bZ bD;clear bD;cases bF with
   |error y =>
    have hf:fin=.error y:=G.Z.symm;have ak:Hid (bY.andThen (.error y) (bY.cv s.1.1 [125])=fin):=bZ hf.symm;have bO:((y.1:Int)==0)=false:=by rw[aw];have:=k3.err.1;omega
    clear G HT HH ad;go_wp2_with(at_builtin;go_must (refine wpList_append_own_at _ rfl _ _ 51 rfl w.1.size 3 i0 (.int .i64 0) 1 8 underlying51 bk bn bo bp rfl RZ (.slice vp na vc) _ _ rfl (K.alloc _) ⟨w3.1.size,0,none⟩ 1 1 [.int .i64 S] rfl rfl (cell_one_new _ _ _) (λx hx=>by simp at hx;subst hx;rfl) R6 RM R5 ?_);intro v' w4 P M _ O;have k4:=RX.grown (k3.alloc _) (K.alloc _) a4 ab.Z M;have ai:=bZ (ab.Z.grow k3 O R2);have am:=bZ (vu ay.Z P);clear P O;have L:=RF.grown (a5.fr (Fr.alloc (UD _ _) _)) M (λb e=>(K.lt b e).1);obtain⟨_,v4,i4,t4,I,q2⟩:=k4.err;obtain⟨T,c1,c2,U,V,X,Y,cf⟩:=I.cells);refine⟨⟨false,.error y,m,Q,al++[S],rfl,am.Z,k4,L,bx,by omega,bB,a7.Z,ai.Z,λhx=>Sr,λ_=>⟨ak,bZ (λk N=>by cases N)⟩⟩,?_⟩;rw[bm.Z];simp only[zp];omega
   |ok k2 =>
    have a0:=bh k2 rfl;have bL:=bz k2 rfl;have t44:=sf s k2 [44] RZ;obtain⟨m,rfl⟩:∃m',m=m'+1:=⟨m-1,by omega⟩;by_cases J:tx s.1.1 k2=[44]
    ·have ap:(tx s.1.1 k2==[44])=true:=by rw[J];rfl
     rw[ap]at t44;have Z:=jQ (l:=s.1.1) (i:=k2) (by rw[J];simp);have bC:=fO (qx _ Z);have bM:fC s.1.1 k2<=s.size:=by have:=fb s.1.1 k2 (by simpa using a0.2);simpa using this
     have ak:Hid (bY.andThen (bY.andThen (.ok (fC s.1.1 k2)) (bY.P s.1.1 m 0 z u)) (bY.P s.1.1 m 6 z u)=fin):=bZ (by
      have h6:=(HT.Z m k2).symm.trans G.Z;rw[ag J]at h6;exact h6)
     have a9:Hid (∃a:Nat,S=(a:Int)/\BG Q (al++[(a:Int)]) λts=>pZ s.1.1 n z u i=cZ (PT s.1.1 m 0 z u (fC s.1.1 k2) []) λj us=>PT s.1.1 m 6 z u j (ts++us)):=bZ (by
      obtain⟨a,F,_,hc⟩:=ax.Z.2 k2 rfl;exact⟨a,F,(BG.snoc av.Z ax.Z.1 hc).imp (λts h=>by rw[h,ad.Z m k2 ts,ag J])⟩)
     have bE:Q.length+i_ s (.ok (fC s.1.1 k2))<=c.length+i_ s (.ok i):=by simp only[i_]at b1 b3 ⊢;omega
     have HN:=bZ (λ(w5:QV) (k5:RX s D B u Q (.ok k2) w5)=>vh s D B u Q k2 w5 k5 hs a0.2 Z);clear G HT HH ad J ap Z;go_wp2_with(at_builtin;go_must (refine wpList_append_own_at _ rfl _ _ 51 rfl w.1.size 3 i0 (.int .i64 0) 1 8 underlying51 bk bn bo bp rfl RZ (.slice vp na vc) _ _ rfl (K.alloc _) ⟨w3.1.size,0,none⟩ 1 1 [.int .i64 S] rfl rfl (cell_one_new _ _ _) (λx hx=>by simp at hx;subst hx;rfl) R6 RM R5 ?_);intro v' w4 P M _ O;have k4:=RX.grown (k3.alloc _) (K.alloc _) a4 ab.Z M;have ai:=bZ (ab.Z.grow k3 O R2);have am:=bZ (vu ay.Z P);clear P O;have L:=RF.grown (a5.fr (Fr.alloc (UD _ _) _)) M (λb e=>(K.lt b e).1);obtain⟨v4,p4,I,q2⟩:=k4.ok;obtain⟨T,c1,c2,U,V,X,Y,cf⟩:=I.cells);refine(HN.Z _ k4).mono ?_;rintro e w5⟨rfl,k5,r5⟩;go_wp2_with fail;refine⟨⟨true,.ok (fC s.1.1 k2),m,Q,al++[S],rfl,se r5 am.Z a4,k5,L.trans r5,λa F=>(by cases F;omega),bE,by omega,a7.Z,ai.Z,λ_=>⟨_,rfl,by have:=ay.Z;rw[aj,aD];omega,by omega,ak,bZ (by obtain⟨a,rfl,h⟩:=a9.Z;exact h)⟩,λhx=>Sr⟩,?_⟩;rw[bm.Z];simp only[zp];rw[rk k5];omega
    have ap:(tx s.1.1 k2==[44])=false:=by rw[aw];exact J
    rw[ap]at t44;have ak:Hid (bY.andThen (.ok k2) (bY.cv s.1.1 [125])=fin):=bZ (by
     have h6:=(HT.Z m k2).symm.trans G.Z;rw[ae J]at h6;exact h6)
    have a9:Hid (∃a:Nat,S=(a:Int)/\BG Q (al++[(a:Int)]) λts=>pZ s.1.1 n z u i=eQ s.1.1 [125] k2 ts):=bZ (by
     obtain⟨a,F,_,hc⟩:=ax.Z.2 k2 rfl;exact⟨a,F,(BG.snoc av.Z ax.Z.1 hc).imp (λts h=>by rw[h,ad.Z m k2 ts,ae J])⟩)
    clear G HT HH ad J ap;go_wp2_with(at_builtin;go_must (refine wpList_append_own_at _ rfl _ _ 51 rfl w.1.size 3 i0 (.int .i64 0) 1 8 underlying51 bk bn bo bp rfl RZ (.slice vp na vc) _ _ rfl (K.alloc _) ⟨w3.1.size,0,none⟩ 1 1 [.int .i64 S] rfl rfl (cell_one_new _ _ _) (λx hx=>by simp at hx;subst hx;rfl) R6 RM R5 ?_);intro v' w4 P M _ O;have k4:=RX.grown (k3.alloc _) (K.alloc _) a4 ab.Z M;have ai:=bZ (ab.Z.grow k3 O R2);have am:=bZ (vu ay.Z P);clear P O;have L:=RF.grown (a5.fr (Fr.alloc (UD _ _) _)) M (λb e=>(K.lt b e).1);obtain⟨v4,p4,I,q2⟩:=k4.ok;obtain⟨T,c1,c2,U,V,X,Y,cf⟩:=I.cells);refine⟨⟨false,.ok k2,m,Q,al++[S],rfl,am.Z,k4,L,bx,by omega,by omega,a7.Z,ai.Z,λhx=>Sr,λ_=>⟨ak,bZ (λk N=>by cases N;obtain⟨a,rfl,h⟩:=a9.Z;exact h)⟩⟩,?_⟩;rw[bm.Z];simp only[zp];omega
end Ref
end
section
open bY
open Tryz
namespace Ref
def RX.its{s:ba}{e B its:Nat}{n:List Nd}{st:Except (Nat×Nat) Nat}{w:QV}(h:RX s e B its n st w)(k:Nat):RX s e B k n st (w.setCell ⟨e,5,none⟩ (.int .i64 (k:Int))):=by
 obtain⟨u,i,t,code,place,h1,h2,r,C⟩:=h.held;have m:w.grownBy (w.setCell ⟨e,5,none⟩ (.int .i64 (k:Int))) (some e):=Fr.set (UD _ _) _ _;exact⟨⟨u,i,t,code,place,ig h1 5 (.int .i64 (k:Int)),h2.fr m h.lt,r,C⟩,h.lt,ah h.le m.size⟩
def RX.cells{s:ba}{e B its:Nat}{n:List Nd}{st:Except (Nat×Nat) Nat}{w:QV}(h:RX s e B its n st w):w.cell? ⟨e,5,none⟩=some (.int .i64 (its:Int))/\(∀o,w.frozen? ⟨e,o,none⟩=false)/\e<w.1.size:=by
 obtain⟨u,i,t,code,place,h1,_⟩:=h.held;have:=h1.cells;exact⟨this.2.2.2.2.2.1,this.2.2.2.2.2.2.2,h1.lt⟩
def RF.set{e B:Nat}{w:QV}(o:Nat)(v:Xa):RF e B w (w.setCell ⟨e,o,none⟩ v):=RF.rj (Fr.set (UD _ _) _ _)
def Sub(l:a_)(n e p its i j:Nat)(ns:List Nd)(k:Nat):Prop:=∃t m,PT l n e p its i []=.ok (j,[t])/\nB ns m k t
def Sub.ext{l:a_}{n r p its i j k:Nat}{ns e:List Nd}(h:Sub l n r p its i j ns k)(u:Ext ns e):Sub l n r p its i j e k:=by
 obtain⟨t,m,h1,h2⟩:=h;exact⟨t,m,h1,u.rep h2 (af _)⟩
def PC(l:a_)(n p its k z i j:Nat)(ns:List Nd)(y:Nat):Prop :=∃m ts,gq l k i (λj=>PT l n 0 p its j []) (λj=>PT l n 3 p its j []) (λj=>PT l n 0 p (its+1) j []) (λj ts=>PT l n 6 p its j ts)=.ok (j,ts)/\mH ns (nB ns m) y (ij l k z ts)
def PK(l:a_)(n p its k:Nat)(t:a_)(i j:Nat)(ns:List Nd)(y:Nat):Prop:=∀z,tx l z=t->PC l n p its k z i j ns y
def jh(s:ba)(e B n p its:Nat)(t:ba)(F:Nat->Except (Nat×Nat) Nat)(C:Nat->Nat->List Nd->Nat->Prop):Prop :=∀(i:Nat) (c:List Nd) (w:QV),i<=s.size->8*(s.size-i)+4<=n->RX s e B its c (.ok i) w->c.length+i_ s (.ok i)<=1996 ->Calls prog 230 #[.pointer (some ⟨e,0,none⟩),.string t,.int .i64 (p:Int)] w (RP s e B its c w (.ok i) 2 (F i) (C i))
section
variable {l:a_} {n p its z i j j1 D E G I y a b c:Nat} {ns:List Nd} {d d0:Nd}
def Pc(hd:ns[y]?=some d)(e:d.op=110):PC l n p its 4 z j j ns y:=⟨0,[],by simp[gq],by simp only[mH,ij];exact⟨d,hd,e⟩⟩
def Pd(hd:ns[y]?=some d)(B:d.op=45)(hx:d.x=a)(hy:d.y=b)(hz:ns[a]?=some d0)(u:d0.op=118)(hs:d0.s.1.1=[48])(h1:Sub l n 3 p its i j ns b):PC l n p its 5 z i j ns y:=by
 obtain⟨t,m,e,r⟩:=h1;exact⟨m,[t],by simp only[gq];exact e,by simp only[mH,ij];exact⟨d,d0,a,b,hd,B,hx,hy,hz,u,hs,r⟩⟩
def Pf(h1:Sub l n 0 p its i j1 ns y)(e1:bY.cv l [41] j1=.ok j):PC l n p its 6 z i j ns y:=by
 obtain⟨t,m,e,r⟩:=h1;exact⟨m,[t],by simp only[gq];rw[e];exact kM e1 _,by simp only[mH,ij];exact r⟩
def Pj(hd:ns[y]?=some d)(u:d.op=91)(hx:d.x=a)(h1:Sub l n 0 p its i j1 ns a)(e1:bY.cv l [93] j1=.ok j):PC l n p its 7 z i j ns y:=by
 obtain⟨t,m,e,r⟩:=h1;exact⟨m,[t],by simp only[gq];rw[e];exact kM e1 _,by simp only[mH,ij];exact⟨d,a,hd,u,hx,r⟩⟩
def Pk(h:LC l n p its i j ns y):PC l n p its 8 z i j ns y:=by
 obtain⟨d,e,ts,hd,u,r,⟨m,hl,B⟩,C⟩:=h;exact⟨m,ts,by simp only[gq];exact C,by simp only[mH,ij];exact⟨d,e,hd,u,r,hl,B⟩⟩
def nC{m m' x:Nat}{t:bY.T}(h:nB ns m x t)(e:m<=m'):nB ns m' x t:=h.mono (λ_ _ h=>h) e
def Pm(hd:ns[y]?=some d)(m:d.op=63)(hx:d.x=a)(hy:d.y=b)(hz:d.z=c)(h1:Sub l n 0 p its i j1 ns a)(e1:bY.cv l [116,104,101,110] j1=.ok D)(h2:Sub l n 0 p its D E ns b)(e2:bY.cv l [101,108,115,101] E=.ok G)(e:Sub l n 3 p its G j ns c):PC l n p its 9 z i j ns y:=by
 obtain⟨t1,r,f1,C⟩:=h1;obtain⟨t2,u,f2,F⟩:=h2;obtain⟨t3,B,f3,J⟩:=e;refine⟨r+u+B,[t1,t2,t3],?_,?_⟩
 ·simp only[gq];rw[f1];simp[cZ,kM e1,f2,kM e2,f3]
 simp only[mH,ij];exact⟨d,a,b,c,hd,m,hx,hy,hz,nC C RM,nC F RM,nC J RM⟩
def OH{k:Nat}(u:k=10\/k=11\/k=12)(hd:ns[y]?=some d)(B:d.op=49)(hs:d.s.1.1=if k=10 then[115,105,122,101]else if k=11 then[115,117,109] else[119,111,114,100])(hx:d.x=a)(e1:bY.cv l [40] i=.ok j1)(h1:Sub l n 0 p its j1 D ns a)(e2:bY.cv l [41] D=.ok j):PC l n p its k z i j ns y:=by
 obtain⟨t,m,e,r⟩:=h1;rcases u with rfl|rfl|rfl
 all_goals
  refine⟨m,[t],?_,?_⟩
  ·simp only[gq];simp[kM e1,cZ,e,kM e2]
  simp only[mH,ij];exact⟨d,a,hd,B,hs,hx,r⟩
def OI(hd:ns[y]?=some d)(m:d.op=(I7 13 (bY.byteOf (tx l z)):Int))(hx:d.x=a)(hy:d.y=b)(e1:bY.cv l [40] i=.ok j1)(h1:Sub l n 0 p its j1 D ns a)(e2:bY.cv l [44] D=.ok E)(h2:Sub l n 0 p its E G ns b)(e:bY.cv l [41] G=.ok j):PC l n p its 13 z i j ns y:=by
 obtain⟨t1,r,f1,B⟩:=h1;obtain⟨t2,u,f2,C⟩:=h2;refine⟨r+u,[t1,t2],?_,?_⟩
 ·simp only[gq];simp[kM e1,cZ,f1,kM e2,f2,kM e]
 simp only[mH,ij];exact⟨d,a,b,hd,m,hx,hy,nC B RM,nC C RM⟩
def OJ(hd:ns[y]?=some d)(m:d.op=116)(hx:d.x=a)(hy:d.y=b)(e1:bY.cv l [40] i=.ok j1)(h1:Sub l n 0 p its j1 D ns a)(e2:bY.cv l [44] D=.ok E)(h2:Sub l n 0 p its E G ns b)(e:bY.cv l [41] G=.ok j):PC l n p its 14 z i j ns y:=by
 obtain⟨t1,r,f1,B⟩:=h1;obtain⟨t2,u,f2,C⟩:=h2;refine⟨r+u,[t1,t2],?_,?_⟩
 ·simp only[gq];simp[kM e1,cZ,f1,kM e2,f2,kM e]
 simp only[mH,ij];exact⟨d,a,b,hd,m,hx,hy,nC B RM,nC C RM⟩
def OL{k:Nat}(m:k=15\/k=16)(hd:ns[y]?=some d)(r:d.op=if k=15 then 101 else 115)(hx:d.x=a)(hy:d.y=b)(e1:bY.cv l [40] i=.ok j1)(h1:Sub l n 0 p its j1 D ns a)(e2:bY.cv l [44] D=.ok E)(h2:Sub l n 0 p (its+1) E G ns b)(e:bY.cv l [41] G=.ok j):PC l n p its k z i j ns y:=by
 obtain⟨t1,u,f1,C⟩:=h1;obtain⟨t2,B,f2,F⟩:=h2;rcases m with rfl|rfl
 all_goals
  refine⟨u+B,[t1,t2],?_,?_⟩
  ·simp only[gq];simp[kM e1,cZ,f1,kM e2,f2,kM e]
  simp only[mH,ij];exact⟨d,a,b,hd,r,hx,hy,nC C RM,nC F RM⟩
end
def LH(w:QV):Calls prog 273 #[.string ⟨#[109,105,110]⟩] w λe w'=>e=.returned (.int .u8 105)/\w=w':=by
 go_enter func273,ntmps273;go_wp2_with fail;go_ret;exact⟨rfl,rfl⟩
def LI(w:QV):Calls prog 273 #[.string ⟨#[109,97,120]⟩] w λe w'=>e=.returned (.int .u8 97)/\w=w':=by
 go_enter func273,ntmps273;go_wp2_with fail;go_ret;exact⟨rfl,rfl⟩
def NG(w:QV):Calls prog 273 #[.string ⟨#[97,116]⟩] w λe w'=>e=.returned (.int .u8 64)/\w=w':=by
 go_enter func273,ntmps273;go_wp2_with fail;go_ret;exact⟨rfl,rfl⟩
def LJ(w:QV):Calls prog 273 #[.string ⟨#[116,114,121]⟩] w λe w'=>e=.returned (.int .u8 116)/\w=w':=by
 go_enter func273,ntmps273;go_wp2_with fail;go_ret;exact⟨rfl,rfl⟩
def Jc(w:QV):Calls prog 273 #[.string ⟨#[101,97,99,104]⟩] w λe w'=>e=.returned (.int .u8 101)/\w=w':=by
 go_enter func273,ntmps273;go_wp2_with fail;go_ret;exact⟨rfl,rfl⟩
def Jd(w:QV):Calls prog 273 #[.string ⟨#[115,111,109,101]⟩] w λe w'=>e=.returned (.int .u8 115)/\w=w':=by
 go_enter func273,ntmps273;go_wp2_with fail;go_ret;exact⟨rfl,rfl⟩
end Ref
end
