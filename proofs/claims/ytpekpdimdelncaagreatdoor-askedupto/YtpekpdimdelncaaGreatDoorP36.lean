/- Out of A5. -/
import Derived.Test.YtpekpdimdelncaaGreatDoorP34
set_option linter.unusedVariables false
set_option linter.unusedSimpArgs false
set_option maxRecDepth 100000
set_option maxHeartbeats 4000000
set_option linter.defProp false
namespace Go.Proofs.YtpekpdimdelncaaGreatDoor
open Go.RowKit Go.Shelf
section
open bY
open Tryz
namespace Ref
variable{S:QV->(Nat->Prop)->Prop}{k:Nat}{x y:Xa}
def eX.on{a b c:QV}{L e:Nat->Prop}(h2:∀k,e k->L k\/a.1.size<=k)(z:∀k,L k->e k)(l:ed L a b)(h:eX S b e c):eX S a L c:=by
 obtain⟨m,n,p,r,u⟩:=h;refine⟨m,n,λk j=>?_,λk j=>r k (z k j),l.trans u h2⟩;rcases p k j with h|h
 ·exact h2 k h
 have:=l.size;exact .inr RM
def gO(w:QV)(c:Int)(t:ba):QV:=w.alloc (.cells #[.int .i64 c,.string t] 166)
def eB(w:QV)(c:Int)(t:ba):Xb w (gO w c t):=(Uz _ w).alloc (af _) _
def nK(w:QV)(c:Int)(t:ba):(gO w c t).1[w.1.size]?=some (.cells #[.int .i64 c,.string t] 166 (0,0)):=heap_alloc_new w _
def qm(w:QV)(k:Nat)(o:Obj):Xb w ((w.drewN k).alloc o):=(below_drewN (Uz _ w) k).alloc (af _) o
def cM{w:QV}(h:w.1[k]?=some (.cells #[x,y] 166 (0,0))):w.cell? ⟨k,0,none⟩=some x/\w.cell? ⟨k,1,none⟩=some y/\w.frozen? ⟨k,0,none⟩=false/\w.frozen? ⟨k,1,none⟩=false/\k<w.1.size:=by
 refine⟨by simp[World.cell?,h],by simp[World.cell?,h],by simp[World.frozen?,h],by simp[World.frozen?,h],cj h⟩
def eP(w:QV):(dR w).1[w.1.size]?=some (.cells #[.int .i64 0,.string ⟨#[]⟩] 166 (0,0)):=heap_alloc_new w _
def dZ(w:QV):Xb w (dR w):=(Uz _ w).alloc (af _) _
def kJ{b:Nat}{w:QV}(hb:b<=k)(h:w.1[k]?=some (.cells #[x,y] 166 (0,0)))(x' y':Xa):Bx b w ((w.setCell ⟨k,0,none⟩ x').setCell ⟨k,1,none⟩ y') :=(Bx.set hb h x').trans (Bx.set hb (heap_setCell_same w k 0 _ _ _ h) y')
def qN(c:Cx)(b:ba)(w:QV)(M:Nat->Prop)(s:LS)(nd:List (a_×Wo))(f:Nat)(m:Xa)(h:ES c s nd f m w M)(B:Pu c s nd (f+1))(z:b.size<=200):Calls prog 233 #[ptr c.rb,ptr c.qb,.string b] w (ql c (kr b.1.1 f) s nd m w M):=by
 show Calls _ _ _ _ λe w'=>e=.returned (dw (cC c.n b.1.1 s).1)/\eX (ES c (cC c.n b.1.1 s).2 (dW nd b.1.1 (cC c.n b.1.1 s).1) f m) w M w';have h8:8<=w.1.size:=by obtain⟨L,vN,_,_,h3,_,_,h6,_⟩:=h;exact ah (h6 _ h3).1 (aE (h6.lt h3))
 obtain⟨kO,ay,a5,a6⟩:=B.p8;have a9:nd.length<=400:=RM;obtain⟨L,hL,C⟩:=(h.below (dZ w)).H_;have hs:=c.says (dR w) s c.rn L b hL B.pre (λk z=>by rw[ay.b_];exact c.run k z);have hM:∀k,M k->k<w.1.size:=λk z=>h.ct.lt z;generalize cC c.n b.1.1 s=R at hs C;obtain⟨r,s'⟩:=R;simp only at hs C ⊢;obtain⟨tc,ts,V⟩:=dG r;have a0:ei r=[.int .i64 tc,.string ts]:=by cases r<;>(cases V;rfl)
 rw[V]at hs ⊢;have HS:=bZ hs;have HT:=bZ C;have HX:=bZ (And.intro a0 B);clear hs C V a0 B hL h ay a5 a6;unfold ptr;go_enter func233,ntmps233;go_wp2_with fail;refine HS.Z.mono ?_;rintro e w1⟨rfl,ak⟩;have hP:=HT.Z _ _ ak;clear HS HT ak;obtain⟨M1,ab,ad,ai,p⟩:=hP;have j:w1.1[w.1.size]?=some (.cells #[.int .i64 0,.string ⟨#[]⟩] 166 (0,0)):=(p.block _ (cj (eP w)) (λhm=>by have:=hM _ hm;omega)).trans (eP w);have l:=eB w1 tc ts;have K:=ab.below l;have N:=(l.block _ (cj j)).trans j;obtain⟨b0,b1,b2,b3,b4⟩:=cM N;obtain⟨b5,b6,b7,b8,b9⟩:=cM (nK w1 tc ts);have a7:8<=(gO w1 tc ts).1.size:=by have:=p.size;have:=l.size;have:=(dZ w).size;omega
 have ap:∀(E:QV) (Y:List (a_×Wo)),eX (ES c s' Y f m) (gO w1 tc ts) M1 E->E.1[w.1.size]?=some (.cells #[.int .i64 0,.string ⟨#[]⟩] 166 (0,0))->eX (ES c s' Y f m) w M ((E.setCell ⟨w.1.size,0,none⟩ (.int .i64 tc)).setCell ⟨w.1.size,1,none⟩ (.string ts)):=λE Y hz hb=>by
  exact eX.post (eX.pre (dZ w) (eX.on ad ai p (eX.pre l hz))) (kJ (af _) hb _ _) (λL' a3=>a3.bx (kJ (af _) hb _ _))
 obtain⟨vN,n1,n2,n3,n4,X,T⟩:=K.push (b.1.1,r);have aC:eA (b.1.1,r)=[.string b,.int .i64 tc,.string ts]:=by unfold eA;rw[HX.Z.1,dF]
 rw[aC]at T;obtain⟨oN,cN,rfl⟩:=dP X;have a2:=bZ K;have n:=bZ ap;have G:=bZ T;have aa:=bZ X;have Z:=bZ N;clear ab K ap T X ad ai p l j N aC HX;go_wp2_with fail
 go_loopw [8] (λiv wr=>∃i:Nat,iv=.int .i64 (i:Int)/\i<=nd.length/\wr=gO w1 tc ts/\Hid (bY.cr nd b.1.1=bY.cr (nd.drop i) b.1.1)) (λiv _=>nd.length-(intOf iv).toNat)
 case atStart=>exact⟨0,rfl,au _,rfl,bZ rfl⟩
 case round =>
  obtain⟨i,rfl,hi,rfl,HL⟩:=hrel;by_cases ax:i<nd.length
  ·have a4:(i:Int)<(nd.length:Int):=RM;have U:=aq ax;have O:=aR ax;generalize nd[i]=q at U O;obtain⟨g,J,hv,P,hc⟩:=iI xS RZ aa.Z U;cases hv;have z0:=hc 0 _ rfl;simp only[Qc]at z0;unfold str at z0;obtain⟨x,hx⟩:∃x:ba,(⟨q.1.toArray⟩:ba)=x:=⟨_,rfl⟩;have D:x.1.1=q.1:=Ss;rw[hx]at z0;have ao:=jb x b;have HP:=bZ O;clear O hc hx U;by_cases heq:x.1.1=b.1.1
   ·rw[aS heq]at ao;have I:Hid (dW nd b.1.1 r=nd):=bZ (by
     unfold dW;rw[HL.Z,HP.Z,dV,ag (D.symm.trans heq)];rfl)
    have F:=bZ (n.Z _ nd (eX.refl a2.Z) Z.Z);clear heq D G n;go_wp2_with fail;exact UA (v:=.agg #[.int .i64 tc,.string ts]) (by simp[results,results233,go_sem,b0,b1,b2,b3,b4]) rfl ⟨rfl,by rw[I.Z];exact F.Z⟩
   rw[aF heq]at ao;have HQ:Hid (¬q.1=b.1.1):=bZ (λe=>heq (D.trans e));clear heq D;go_wp2_with fail;refine⟨⟨i+1,by go_num,by omega,by first|rfl|trivial,bZ (by rw[HL.Z,HP.Z,dV,ae HQ.Z])⟩,?_⟩;simp[intOf];omega
  have a4:¬(i:Int)<(nd.length:Int):=RM;have I:Hid (dW nd b.1.1 r=nd++[(b.1.1,r)]):=bZ (by
   unfold dW;rw[HL.Z,aQ RM];rfl)
  go_wp2_with fail
  go_region_law (refine jc rfl (.tmp 36) (.tmp 40) 98 rfl 204 _ 3 40 underlying98 Eg MX RZ (.slice oN nd.length cN) _ (nd.flatMap eA) rfl (UL (w:=(gO w1 tc ts).drewN _) aa.Z _) ⟨(gO w1 tc ts).1.size,0,none⟩ 1 [.string b,.int .i64 tc,.string ts] rfl rfl (nH _ _ _ _) TC RM R6 R5 ?_;intro g J w3 ho P av hold;obtain⟨⟨v0,bd⟩,a8,bc,Q,am⟩:=G.Z _ (qm _ _ _) g J w3 ho P av hold;have j:=Q _ _ Z.Z;obtain⟨e5,e6,e7,e8,e9⟩:=cM (Q _ _ (nK w1 tc ts));obtain⟨e0,e1,e2,e3,e4⟩:=cM j;have F:=bZ (n.Z _ _ am j);clear G n am j Q ho P av hold)
  all_goals
   generalize w3.setCell ⟨c.qb,1,none⟩ (.slice (some ⟨g,0,none⟩) (nd.length+1) J)=w4 at *;go_wp2_with fail;exact UA (v:=.agg #[.int .i64 tc,.string ts]) (by simp[results,results233,go_sem,e0,e1,e2,e3,e4]) rfl ⟨rfl,by rw[I.Z];exact F.Z⟩
end Ref
end
section
open bY
open Tryz
namespace Ref
variable{M:Nat->Prop}{ts:ba}
def vW{p:UInt8->Bool}:∀{l:a_},l.all p=true->dC p l=l.length
 |[],_=>rfl
 |c :: r,h=>by
  rw[Qy,QB]at h;unfold dC;rw[ag h.1,vW h.2];rfl
def pK(l:a_):jw l=dL l:=by
 rw[QE];constructor
 ·intro h;have m:=h;unfold jw at h;simp only[QB,QF]at h;obtain⟨⟨h1,_,n⟩,y,_⟩:=h;have j:jq l=l.length:=by
   cases l with
   |nil=>simp at h1
   |cons c r =>
    have hc:eo c=true:=S0;have p:¬c=39:=λe=>by subst e;revert hc;decide
    show(if c=39 then _ else if eo c=true then _ else _)=_;rw[ae p,ag hc];exact vW y
  have u:l=l.take (jq l):=by rw[j,Q1]
  rcases kZ l l u with⟨_,a⟩|⟨_,_,a⟩|⟨a,_⟩|⟨_,_,_,a,_⟩|⟨_,_,_,a,_⟩|⟨_,_,_,a,_⟩
  ·cases l with
   |nil=>simp at h1
   |cons c r =>
    have hc:eo c=true:=S0;have hd:dA c=false:=by
     cases hx:dA c with
     |false=>rfl
     |true =>
      exfalso;have a:=mb.1 hc;have b:=kd.1 hx;omega
    rw[iB hd]at a;cases a
  ·cases l with
   |nil=>simp at h1
   |cons c r =>
    have hc:eo c=true:=S0;have p:¬c=39:=λe=>by subst e;revert hc;decide
    rw[iK p]at a;cases a
  ·unfold dL;rw[a,<-kP l RM,j];simp
  ·rw[m]at a;cases a
  ·rw[m]at a;cases a
  rw[m]at a;cases a
 intro h;unfold dL at h;simp at h;have j:jq l=l.length:=by rw[kP l RM];exact h.2
 have u:l=l.take (jq l):=by rw[j,Q1]
 rcases kZ l l u with⟨a,_⟩|⟨a,_⟩|⟨_,_,_,a,_⟩|⟨a,_⟩|⟨a,_⟩|⟨a,_⟩
 ·omega
 ·omega
 ·exact a
 ·omega
 ·omega
 omega
abbrev Zero(w:QV)(k:Nat):Prop:=w.1[k]?=some (.cells #[.int .i64 0,.string ⟨#[]⟩] 166 (0,0))
abbrev fill(w:QV)(k:Nat)(c:Int)(t:ba):QV:=(w.setCell ⟨k,0,none⟩ (.int .i64 c)).setCell ⟨k,1,none⟩ (.string t)
def ql.fill{c:Cx}{p:Pe V}{s:LS}{nd:List (a_×Wo)}{m:Xa}{w W w':QV}{M:Nat->Prop}{e:Ending}(h:ql c p s nd m W M e w')(n:ed M w W)(j:Zero W w.1.size)(hM:∀k,M k->k<w.1.size):∃(tc:Int) (ts:ba),e=.returned (.agg #[.int .i64 tc,.string ts])/\Zero w' w.1.size/\ql c p s nd m w M (.returned (.agg #[.int .i64 tc,.string ts])) (fill w' w.1.size tc ts):=by
 obtain⟨rfl,b⟩:=h;obtain⟨tc,ts,l⟩:=dG (p.run (Nn c) (s,nd)).1.1;have hb:Zero w' w.1.size:=by
  obtain⟨y,_,_,_,hF⟩:=b;exact(hF.block _ (cj j) (λu=>by have:=hM _ u;omega)).trans j
 exact⟨tc,ts,by rw[l],hb,by rw[l],eX.post (eX.on (λ_ h=>.inl h) (λ_ h=>h) n b) (kJ (af _) hb _ _) (λL' r=>r.bx (kJ (af _) hb _ _))⟩
def ES.fill{c:Cx}{s:LS}{nd:List (a_×Wo)}{f:Nat}{j:Xa}{w W:QV}(h:ES c s nd f j w M)(b:Xb w W)(e:Zero W w.1.size){r:Wo}{tc:Int}(m:dw r=.agg #[.int .i64 tc,.string ts]):ql c (.ret (r,f)) s nd j w M (.returned (.agg #[.int .i64 tc,.string ts])) (Ref.fill W w.1.size tc ts) :=⟨by rw[<-m];rfl,eX.post (eX.pre b (eX.refl (h.below b))) (kJ (af _) e _ _) (λL' l=>l.bx (kJ (af _) e _ _))⟩
def F8(c:Cx)(v:V)(x:ba)(w:QV)(M:Nat->Prop)(s:LS)(nd:List (a_×Wo))(f:Nat)(C:Xa)(hx:Tx x v)(hv:L3 v)(h:ES c s nd f C w M)(U:Pu c s nd (f+1)):Calls prog 237 #[ptr c.rb,ptr c.qb,.string x] w (ql c (match bY.keyOf v with|.ok k=>kr k f|.error e=>.ret (.error e,f)) s nd C w M):=by
 have ai:x.size<=57500:=by rw[UB,hx];exact rp hv
 obtain⟨a,m,p,u,ks,k1,Q,_⟩:=kinds hv x hx RM;have hM:∀k,M k->k<w.1.size:=λk z=>h.ct.lt z;have T:=λ(X:ba) (z:X.size<=200)=>(qN c X (dR w) M s nd f C (h.below (dZ w)) U z).mono (λe w' Y=>Y.fill (ed.below (dZ w)) (eP w) hM);have F:=bZ (h.fill (dZ w) (eP w) (r:=.error 9) (tc:=9) (ts:=⟨#[]⟩) rfl);have B:=bZ T;have y:=bZ (Q (dR w));obtain⟨b0,b1,b2,R,S⟩:=cM (eP w);clear T h U Q;rcases k1 with⟨rfl,rfl,rfl,rfl,N⟩|⟨rfl,rfl,rfl,b,rfl⟩|⟨rfl,rfl,rfl,l,rfl,_⟩
 ·have z:(⟨#[107]⟩++x:ba).1.1=107 :: Lib.itoa a:=by
   rw[dD,hx,wE];rfl
  have aa:(⟨#[107]⟩++x:ba).size<=200:=by
   rw[UB,z];have:=nh N.1 N.2;simp;omega
  have n:=bZ (B.Z _ aa);rw[z]at n;show Calls _ _ _ _ (ql c (kr (107 :: Lib.itoa a) f) s nd C w M);generalize kr (107 :: Lib.itoa a) f=P at n ⊢;clear z N B F;have ad:¬9223372036854775807<(⟨#[107]⟩:ba).size+x.size:=by show ¬_<1+x.size;omega
  unfold ptr at n ⊢;go_enter func237,ntmps237;go_wp2_with fail;refine y.Z.1.mono ?_;rintro e w1⟨rfl,j⟩;obtain rfl:=j.symm;dsimp only;go_wp2_with fail;refine n.Z.mono ?_;rintro e w2⟨tc,ts,rfl,hb,D⟩;obtain⟨e0,e1,e2,J,K⟩:=cM hb;have I:=bZ D;clear D hb;dsimp only;go_wp2_with fail;exact UA (v:=.agg #[.int .i64 tc,.string ts]) TD rfl I.Z
 ·obtain⟨hz,hb⟩:=ny hx;have ab:=(kU hv rfl).1;have O:x.size-1=b.length+1:=RM;rw[O]at hb;have Z:(x.extract 1 (b.length+1)).size<=200:=by rw[UB,hb];omega
  have E:=bZ (eg (x.extract 1 (b.length+1)) (dR w) RM);have n:=bZ (B.Z _ Z);rw[hb,pK]at E;rw[hb]at n;have L:bY.keyOf (vw b)=if dL b=true then .ok b else .error 9:=rfl;rw[L];cases G:dL b with
  |true =>
   rw[G]at E;rw[ag rfl];show Calls _ _ _ _ (ql c (kr b f) s nd C w M);generalize kr b f=P at n ⊢;clear G L hb B F hx hv O;unfold ptr at n ⊢;go_enter func237,ntmps237;go_wp2_with fail;refine y.Z.1.mono ?_;rintro e w1⟨rfl,j⟩;obtain rfl:=j.symm;dsimp only;go_wp2_with fail;refine y.Z.2.1.mono ?_;rintro e w1⟨rfl,j⟩;obtain rfl:=j.symm;dsimp only;go_wp2_with fail;refine E.Z.mono ?_;rintro e w1⟨rfl,j⟩;obtain rfl:=j;dsimp only;go_wp2_with fail;refine n.Z.mono ?_;rintro e w2⟨tc,ts,rfl,hb,D⟩;obtain⟨e0,e1,e2,J,K⟩:=cM hb;have I:=bZ D;clear D hb;dsimp only;go_wp2_with fail;exact UA (v:=.agg #[.int .i64 tc,.string ts]) TD rfl I.Z
  |false =>
   rw[G]at E;rw[ae RZ];clear G L hb B n hx hv O;unfold ptr;go_enter func237,ntmps237;go_wp2_with fail;refine y.Z.1.mono ?_;rintro e w1⟨rfl,j⟩;obtain rfl:=j.symm;dsimp only;go_wp2_with fail;refine y.Z.2.1.mono ?_;rintro e w1⟨rfl,j⟩;obtain rfl:=j.symm;dsimp only;go_wp2_with fail;refine E.Z.mono ?_;rintro e w1⟨rfl,j⟩;obtain rfl:=j;dsimp only;go_wp2_with fail;exact UA (v:=.agg #[.int .i64 9,.string ⟨#[]⟩]) TE rfl F.Z
 show Calls _ _ _ _ (ql c (.ret (.error 9,f)) s nd C w M);clear B;unfold ptr;go_enter func237,ntmps237;go_wp2_with fail;refine y.Z.1.mono ?_;rintro e w1⟨rfl,j⟩;obtain rfl:=j.symm;dsimp only;go_wp2_with fail;refine y.Z.2.1.mono ?_;rintro e w1⟨rfl,j⟩;obtain rfl:=j.symm;dsimp only;go_wp2_with fail;exact UA (v:=.agg #[.int .i64 9,.string ⟨#[]⟩]) TE rfl F.Z
end Ref
end
section
open bY
open Tryz
namespace Ref
variable{c:Cx}{s:LS}{f x:Nat}{j v:Xa}{M:Nat->Prop}{d:Nd}{it:Option V}{k:a_}
def Dg(w:QV)(d:Nd):QV:=(dR w).alloc (.cells #[.int .u8 d.op,.string d.s,.int .i64 d.x,.int .i64 d.y,.int .i64 d.z,.slice d.p d.pn d.pc] 147)
def lJ(w:QV)(d:Nd):Xb w (Dg w d):=(dZ w).alloc (dZ w).size _
def sj(w:QV)(d:Nd):Zero (Dg w d) w.1.size:=(UE (dR w) _ _ (cj (eP w))).trans (eP w)
def x8(w:QV)(d:Nd):(Dg w d).1[w.1.size+1]?=some (.cells #[.int .u8 d.op,.string d.s,.int .i64 d.x,.int .i64 d.y,.int .i64 d.z,.slice d.p d.pn d.pc] 147 (0,0)):=by
 have:=heap_alloc_new (dR w) (.cells #[.int .u8 d.op,.string d.s,.int .i64 d.x,.int .i64 d.y,.int .i64 d.z,.slice d.p d.pn d.pc] 147);have e:(dR w).1.size=w.1.size+1:=by unfold dR;simp
 rw[e]at this;exact this
def ES.begin{nd:List (a_×Wo)}{w:QV}(h:ES c s nd f j w M)(hd:c.ns[x]?=some d):∃g l,(dR w).cell? ⟨c.qb,0,none⟩=some (.slice (some ⟨g,0,none⟩) c.ns.length l)/\g<(dR w).1.size/\c.qb<w.1.size/\(x:Int)<(c.ns.length:Int) /\((dR w).cell? ⟨g,x*6,none⟩=some (.int .u8 d.op)/\(dR w).cell? ⟨g,x*6+1,none⟩=some (.string d.s)/\(dR w).cell? ⟨g,x*6+2,none⟩=some (.int .i64 d.x)/\(dR w).cell? ⟨g,x*6+3,none⟩=some (.int .i64 d.y)/\(dR w).cell? ⟨g,x*6+4,none⟩=some (.int .i64 d.z)/\(dR w).cell? ⟨g,x*6+5,none⟩=some (.slice d.p d.pn d.pc))/\(∀k,M k->k<w.1.size):=by
 have hM:∀k,M k->k<w.1.size:=λk n=>h.ct.lt n;have p:c.qb<w.1.size:=by obtain⟨L,r,_,_,m,_⟩:=h;exact hM _ m
 obtain⟨g,l,e,a,b,e0,e1,e2⟩:=(h.below (dZ w)).cells hd;rw[e]at e0;exact⟨g,l,e0,a,p,e1,⟨e2 0 _ rfl,e2 1 _ rfl,e2 2 _ rfl,e2 3 _ rfl,e2 4 _ rfl,e2 5 _ rfl⟩,hM⟩
def ES.ret{nd:List (a_×Wo)}{w:QV}(h:ES c s nd f j w M)(r:Wo)(e:dw r=v):∀W,Xb w W->ql c (.ret (r,f)) s nd j w M (.returned v) W :=λW b=>⟨by rw[<-e];rfl,eX.pre b (eX.refl (h.below b))⟩
def ES.PR{nd:List (a_×Wo)}{w:QV}(h:ES c s nd f j w M):f<=400:=by
 obtain⟨_,_,_,_,_,_,_,_,_,b,_⟩:=h;exact b
def ES.OS{nd:List (a_×Wo)}{w:QV}(h:ES c s nd (f+1) j w M):w.cell? ⟨c.qb,2,none⟩=some (.int .i64 (400-(f+1:Nat):Int))/\(∀o,w.frozen? ⟨c.qb,o,none⟩=false)/\ES c s nd f j (w.setCell ⟨c.qb,2,none⟩ (.int .i64 (400-f:Int))) M/\ed M w (w.setCell ⟨c.qb,2,none⟩ (.int .i64 (400-f:Int))):=by
 obtain⟨L,G,h1,h2,p,u,C,y,l,I,D,B⟩:=h;have m:∀k,k≠c.qb->(w.setCell ⟨c.qb,2,none⟩ (.int .i64 (400-f:Int))).1[k]?=w.1[k]? := λk b=>UI w ⟨c.qb,2,none⟩ k _ b;have hb:=heap_setCell_same w c.qb 2 _ _ (.int .i64 (400-f:Int)) l;have z:KN w (w.setCell ⟨c.qb,2,none⟩ (.int .i64 (400-f:Int))):=λk cs t fz b F=>by
  have n:k≠c.qb:=λe=>by rw[e,l]at b;cases b;rcases F with h|h<;>cases h
  exact(m k n).trans b
 refine⟨by simp[World.cell?,l],λo=>by simp[World.frozen?,l],⟨L,G,h1.st (λk b=>m k (λe=>u (e▸b))) z,h2,p,u,C,λk b=>?_,hb,by omega,cD D (λg J cs fz r=>(m g (λe=>?_)).trans r),B.st z⟩,⟨rfl,rfl,rfl,by simp,λk b E=>m k (λe=>E (e▸p))⟩⟩
 ·by_cases n:k=c.qb
  ·subst n;exact⟨(y _ p).1,_,_,_,hb,.inr (.inr (.inr (.inr (.inr rfl))))⟩
  rw[m k n];exact y k b
 rw[e,l]at r;cases r
def PS{y:Nat}{P:Nat->Pe V}(hd:c.ns[x]?=some d)(G:d.op=102)(hx:d.x=(y:Int))(H:nF c y it P 1):nF c x it (λf=>if f=0 then .ret (.error 11,f)else P (f-1)) 0:=by
 intro w M s nd f e j h _ u hi;obtain⟨g,aa,Q,R,q2,q3,⟨z0,z,B,C,z4,D⟩,hM⟩:=h.begin hd;obtain⟨op,S,xx,T,U,p,O,N,al⟩:=d;simp only at G hx z0 z B C z4 D;subst G hx;cases f with
 |zero =>
  show Calls _ _ _ _ (ql c (.ret (.error 11,0)) s nd j w M);have c2:w.cell? ⟨c.qb,2,none⟩=some (.int .i64 400):=by
   obtain⟨L,vN,_,_,_,_,_,_,h7,_⟩:=h;simp[World.cell?,h7]
  have X:=bZ (h.ret (.error 11) rfl);clear h u hi H;unfold dR at Q R z0 z B C z4 D;unfold ptr;go_enter func196,ntmps196;go_wp2_with fail;exact UA (v:=.agg #[.int .i64 11,.string ⟨#[]⟩]) Tj rfl (X.Z _ (((Uz _ w).alloc (af _) _).alloc R2 _))
 |succ f =>
  show Calls _ _ _ _ (ql c (P f) s nd j w M);obtain⟨c2,cf,l,hF⟩:=h.OS;obtain⟨sp,J⟩:∃sp:Nat,(sp:Int)=400-((f+1:Nat):Int):=⟨399-f,by have:=(h.PR);omega⟩;rw[<-J]at c2;have I:(400-(f:Int))=(sp:Int)+1:=RM;rw[I]at l hF;have ad:sp<=399:=RM;have ab:¬(400:Int)<=(sp:Int):=RM;have K:(w.setCell ⟨c.qb,2,none⟩ (.int .i64 ((sp:Int)+1))).1.size=w.1.size:=R2;have b:=lJ (w.setCell ⟨c.qb,2,none⟩ (.int .i64 ((sp:Int)+1))) ⟨102,S,y,T,U,p,O,N,al⟩;have n:=sj (w.setCell ⟨c.qb,2,none⟩ (.int .i64 ((sp:Int)+1))) ⟨102,S,y,T,U,p,O,N,al⟩;rw[K]at n;have m:=hF.trans (ed.below (L:=M) b) (λk r=>.inl r);have E:=bZ ((H _ M s nd f (e+1) j (l.below b) RM (by rw[show f+(e+1)=f+1+e by omega];exact u) (hi.st m (λk r=>.inl r) RM)).mono (λe w' he=>he.fill m n hM));clear l h u hi H b hF m hM I J n K;unfold dR at Q R z0 z B C z4 D;unfold ptr at E ⊢;go_enter func196,ntmps196;go_wp2_with fail;refine E.Z.mono ?_;rintro e w2⟨tc,ts,rfl,hb,F⟩;obtain⟨e0,e1,e2,Z,e4⟩:=cM hb;have Y:=bZ F;clear F hb;dsimp only;go_wp2_with fail;exact UA (v:=.agg #[.int .i64 tc,.string ts]) (by simp[results,results196,go_sem,e0,e1,e2,Z,e4]) rfl Y.Z
def PM{v:V}(hd:c.ns[x]?=some d)(b:d.op=118)(hs:d.s.1.1=wr 3 v)(d0:Nat):nF c x it (λf=>.ret (.ok v,f)) d0:=by
 intro w M s nd f e j h _ z hi;obtain⟨g,D,B,C,G,I,⟨z0,m,n,r,z4,u⟩,hM⟩:=h.begin hd;obtain⟨op,l,J,K,L,p,F,E,al⟩:=d;simp only at b hs z0 m n r z4 u;subst b;have y:=bZ (h.ret (.ok v) (v:=.agg #[.int .i64 0,.string l]) (by show Value.agg #[.int .i64 0,str (wr 3 v)]=_;rw[lF hs]));clear h z hi;unfold dR at B C z0 m n r z4 u;unfold ptr;go_enter func196,ntmps196;go_wp2_with fail;exact UA (v:=.agg #[.int .i64 0,.string l]) Tj rfl (y.Z _ (((Uz _ w).alloc (af _) _).alloc R2 _))
def PU(hd:c.ns[x]?=some d)(r:d.op=107)(hs:d.s.1.1=k)(G:k.length<=200):nF c x it (λf=>kr k f) 1:=by
 intro w M s nd f e j h n u hi;obtain⟨g,K,I,J,O,P,⟨z0,y,z,B,z4,C⟩,hM⟩:=h.begin hd;have l:=lJ w d;have b:=bZ ((qN c d.s (Dg w d) M s nd f j (h.below l) (u.le RM) (by rw[UB,hs];exact G)).mono (λe w' n=>n.fill (ed.below l) (sj w d) hM));rw[hs]at b;obtain⟨op,Q,R,S,T,p,N,L,al⟩:=d;simp only at r hs z0 y z B z4 C b;subst r;clear h u hi l hM;unfold dR at I J z0 y z B z4 C;unfold ptr at b ⊢;go_enter func196,ntmps196;go_wp2_with fail;refine b.Z.mono ?_;rintro e w2⟨tc,ts,rfl,hb,m⟩;obtain⟨e0,e1,e2,E,F⟩:=cM hb;have D:=bZ m;clear m hb;dsimp only;go_wp2_with fail;exact UA (v:=.agg #[.int .i64 tc,.string ts]) (by simp[results,results196,go_sem,e0,e1,e2,E,F]) rfl D.Z
def PX{u:V}(hd:c.ns[x]?=some d)(B:d.op=110)(d0:Nat):nF c x (some u) (λf=>.ret (.ok u,f)) d0:=by
 intro w M s nd f e j h _ K hi;obtain⟨g,Q,N,O,Z,q3,⟨z0,D,E,F,z4,G⟩,hM⟩:=h.begin hd;obtain⟨op,sx,xx,yy,zz,p,Y,X,al⟩:=d;simp only at B z0 D E F z4 G;subst B;have P:w.cell? ⟨c.qb,3,none⟩=some j:=by
  obtain⟨L,vN,_,_,_,_,_,_,J,_⟩:=h;simp[World.cell?,J]
 obtain⟨l,h1,h2,n,r⟩:=hi;obtain⟨_,b,rfl⟩:=r u rfl;have y:(b++[wr 3 u])[b.length]?=some (wr 3 u):=R2;have z:(b++[wr 3 u]).length=b.length+1:=R2;unfold dm at h1;rw[z]at h1 n;obtain⟨g',m,rfl⟩:∃g' m,j=.slice (some ⟨g',0,none⟩) (b.length+1) m:=by
  rcases h1.2 with⟨_,S⟩|⟨g',m,R,e,_⟩
  ·omega
  exact⟨g',m,e⟩
 have C:=UX h1 (g:=g') rfl b.length (str (wr 3 u)) (by rw[P2,y];rfl);rw[addr_add,aI]at C;unfold str at C;have T:=(UH h1 g' rfl).2;have I:=bZ (h.ret (.ok u) rfl);have U:b.length<=400:=RM;clear h K h1 h2 n r y z;unfold dR at N O z0 D E F z4 G;unfold ptr;go_enter func196,ntmps196;go_wp2_with fail
 go_region
 all_goals
  go_wp2_with fail;exact UA (v:=.agg #[.int .i64 0,.string ⟨(wr 3 u).toArray⟩]) Tj rfl (I.Z _ (((Uz _ w).alloc (af _) _).alloc R2 _).drew)
end Ref
end
section
open bY
open Tryz
namespace Ref
variable{M M1:Nat->Prop}{c:Cx}{p:Pe V}{nd1:List (a_×Wo)}{vI:Xa}{e:Ending}{s:LS}{it:Option V}
structure uY(w:QV)(M:Nat->Prop)(W:QV)(M1:Nat->Prop):Prop where
 Oe:∀k,M1 k->M k\/w.1.size<=k
 Z:∀k,M k->M1 k
 ot:ed M w W
 zero:Zero W w.1.size
 no:¬M1 w.1.size
def uY.below{w W b:QV}(h:uY w M W M1)(j:Xb W b):uY w M b M1 :=⟨h.Oe,h.Z,h.ot.trans (ed.below (L:=M1) j) h.Oe,(j.block _ (cj h.zero)).trans h.zero,h.no⟩
def uY.on{w W l:QV}{j:Nat->Prop}(h:uY w M W M1)(h2:∀k,j k->M1 k\/W.1.size<=k)(m:∀k,M1 k->j k)(hF:ed M1 W l):uY w M l j:=by
 have n:=cj h.zero;refine⟨λk b=>?_,λk b=>m k (h.Z k b),h.ot.trans hF h.Oe,(hF.block _ n h.no).trans h.zero,λb=>?_⟩
 ·rcases h2 k b with h'|h'
  ·exact h.Oe k h'
  have:=h.ot.size;exact .inr RM
 rcases h2 _ b with h'|h'
 ·exact h.no h'
 omega
def uY.fill{c:Cx}{p:Pe V}{s b:LS}{nd nd1:List (a_×Wo)}{f1:Nat}{r:Wo}{vI:Xa}{w W:QV}{M M1:Nat->Prop}{tc:Int}{ts:ba}(h:uY w M W M1)(j:ES c b nd1 f1 vI W M1)(n:p.run (Nn c) (s,nd)=((r,f1),(b,nd1)))(m:dw r=.agg #[.int .i64 tc,.string ts]):ql c p s nd vI w M (.returned (.agg #[.int .i64 tc,.string ts])) (fill W w.1.size tc ts):=by
 unfold ql;rw[n];exact⟨by rw[m],eX.post (eX.on h.Oe h.Z h.ot (eX.refl j)) (kJ (af _) h.zero _ _) (λL' l=>l.bx (kJ (af _) h.zero _ _))⟩
def ql.mid{y:LS}{w W w':QV}(h:ql c p y nd1 vI W M1 e w')(B:uY w M W M1):∃(r:Wo) (f2:Nat) (m:LS) (l:List (a_×Wo)) (b:Nat->Prop) (tc:Int) (ts:ba),p.run (Nn c) (y,nd1)=((r,f2),(m,l))/\dw r=.agg #[.int .i64 tc,.string ts]/\e=.returned (.agg #[.int .i64 tc,.string ts])/\ES c m l f2 vI w' b/\uY w M w' b /\(∀it g g',jF W M1 vI it g->g'<=g->jF w' b vI it g')/\(∀(k:Nat) (o:Obj),W.1[k]?=some o->¬M1 k->w'.1[k]?=some o)/\(∀k,b k->M1 k\/W.1.size<=k)/\ed M1 W w':=by
 obtain⟨rfl,b,h1,h2,z,j⟩:=h;rcases D:p.run (Nn c) _ with⟨⟨r,f2⟩,m,l⟩;rw[D]at h1;obtain⟨tc,ts,u⟩:=dG r;exact⟨r,f2,m,l,b,tc,ts,rfl,u,by rw[u],h1,B.on h2 z j,λit g g' hi hf=>hi.st j h2 hf,λk o n C=>(j.block k (cj n) C).trans n,h2,j⟩
def yh{w:QV}(d:Nd)(hM:∀k,M k->k<w.1.size):uY w M (Dg w d) M :=⟨λ_ h=>.inl h,λ_ h=>h,ed.below (lJ w d),sj w d,λh=>by have:=hM _ h;omega⟩
def ql.then{nd:List (a_×Wo)}{w W b:QV}(h:ql c p s nd vI w M e W)(j:Xb W b):ql c p s nd vI w M e b :=⟨h.1,eX.post h.2 (Bx.below j) (λL' l=>l.below j)⟩
structure PZ(c:Cx)(w:QV)(M:Nat->Prop)(d:Nd)(it:Option V)(vI:Xa)(e:Nat)(p:Pe V)(s:LS)(nd:List (a_×Wo))(w1:QV)(r:Wo)(f1:Nat)(s1:LS)(nd1:List (a_×Wo))(M1:Nat->Prop)(tc:Int)(ts:ba):Prop where
 run:p.run (Nn c) (s,nd)=((r,f1),(s1,nd1))
 told:dw r=.agg #[.int .i64 tc,.string ts]
 es:ES c s1 nd1 f1 vI w1 M1
 mid:uY w M w1 M1
 pu:Pu c s1 nd1 (f1+e)
 its:jF w1 M1 vI it (f1+e)
 l3:∀v,r=.ok v->L3 v
 ec:EC r
 node:w1.1[w.1.size+1]?=some (.cells #[.int .u8 d.op,.string d.s,.int .i64 d.x,.int .i64 d.y,.int .i64 d.z,.slice d.p d.pn d.pc] 147 (0,0))
 P0:¬M1 (w.1.size+1)
def ji{p:Nat->Pe V}{X:Nat}(H:nF c X it p 0)(d:Nd){w:QV}{nd:List (a_×Wo)}{f e:Nat}(h:ES c s nd f vI w M)(C:Pu c s nd (f+e))(hi:jF w M vI it (f+e))(hs:pa p 0):Calls prog 196 #[ptr c.rb,ptr c.qb,.int .i64 (X:Int)] (Dg w d) λe' w1=>∃r f1 l nd1 M1 tc ts,e'=.returned (.agg #[.int .i64 tc,.string ts])/\PZ c w M d it vI e (p f) s nd w1 r f1 l nd1 M1 tc ts:=by
 have hM:∀k,M k->k<w.1.size:=λk b=>h.ct.lt b;have j:=lJ w d;refine(H _ M s nd f e vI (h.below j) (au _) C (hi.below j)).mono ?_;intro e' w1 J;obtain⟨r,f1,l,nd1,M1,tc,ts,h1,h2,E,z,F,G,I,_⟩:=J.mid (yh d hM);obtain⟨m,n,u,y⟩:=sh c e (p f) f s nd C (hs.sp f) (hs.pp f) (hs.pe f);rw[h1]at m n u y;have B:=I _ _ (x8 w d) (λb=>by have:=hM _ b;omega);have K:¬M1 _:=λb=>by
  obtain⟨_,cs,t,fz,D,L⟩:=z.ct _ b;rw[B]at D;cases D;exact L.no (.inl rfl)
 exact⟨r,f1,l,nd1,M1,tc,ts,E,h1,h2,z,F,m,G it _ _ (hi.below j) (Rl u e),n,y,B,K⟩
def fB{w:QV}{k:Nat}{d:Nd}(h:w.1[k]?=some (.cells #[.int .u8 d.op,.string d.s,.int .i64 d.x,.int .i64 d.y,.int .i64 d.z,.slice d.p d.pn d.pc] 147 (0,0))):w.cell? ⟨k,0,none⟩=some (.int .u8 d.op)/\w.cell? ⟨k,1,none⟩=some (.string d.s)/\w.cell? ⟨k,2,none⟩=some (.int .i64 d.x)/\w.cell? ⟨k,3,none⟩=some (.int .i64 d.y)/\w.cell? ⟨k,4,none⟩=some (.int .i64 d.z)/\w.cell? ⟨k,5,none⟩=some (.slice d.p d.pn d.pc)/\k<w.1.size:=by
 refine⟨?_,?_,?_,?_,?_,?_,cj h⟩
 all_goals simp[World.cell?,h]
def JZ(o:Int):Prop:=(o==118)=false/\(o==107)=false/\(o==110)=false/\(o==102)=false/\(o==123)=false/\(o==116)=false
def Bm{c:Cx}{x X:Nat}{it:Option V}{p P:Nat->Pe V}{d:Nd}(hd:c.ns[x]?=some d)(m:JZ d.op)(hx:d.x=(X:Int))(H:nF c X it p 0){w:QV}{M:Nat->Prop}{s:LS}{nd:List (a_×Wo)}{f e:Nat}{vI:Xa}(h:ES c s nd f vI w M)(F:Pu c s nd (f+e))(hi:jF w M vI it (f+e))(hs:pa p 0)
  {ec:Nat} (b:((p f).run (Nn c) (s,nd)).1.1=.error ec) (j:(P f).run (Nn c) (s,nd)=(p f).run (Nn c) (s,nd)) :
  Calls prog 196 #[ptr c.rb,ptr c.qb,.int .i64 (x:Int)] w (ql c (P f) s nd vI w M):=by
 obtain⟨g,L,J,K,q2,q3,⟨z0,n,u,y,z4,z⟩,hM⟩:=h.begin hd;have l:=bZ (ji H d h F hi hs);obtain⟨op,sx,xx,yy,zz,pp,pn,pc,al⟩:=d;simp only at m hx z0 n u y z4 z l;subst hx;obtain⟨Z,o2,o3,o4,o5,o6⟩:=m;have C:=bZ (And.intro b j);unfold dR at J K z0 n u y z4 z;unfold ptr at l ⊢;go_enter func196,ntmps196;go_wp2_with fail;refine l.Z.mono ?_;rintro e' w1⟨r,f1,s1,nd1,M1,tc,ts,rfl,hF⟩;obtain⟨b,j⟩:=C.Z;have G:=hF.run;rw[G]at b j;simp only at b;subst b;have I:=hF.told;cases I;have B:=bZ (hF.mid.fill hF.es j rfl);obtain⟨O,Q,R,S,T,U,Y⟩:=fB hF.node;obtain⟨b0,b1,b2,D,E⟩:=cM hF.mid.zero;have N:((ec:Int) != 0)=true:=by rw[aZ];have:=hF.ec ec rfl;omega
 go_wp2_with fail;exact UA (v:=.agg #[.int .i64 ec,.string ⟨#[]⟩]) (by simp[results,results196,go_sem,b0,b1,b2,D,E]) rfl (B.Z.then ((Uz _ _).alloc (af _) _))
end Ref
end
section
open bY
open Tryz
namespace Ref
variable{v:V}{tc:Int}{ts:ba}
def kV(h:dw (.ok v)=.agg #[.int .i64 tc,.string ts]):tc=0/\Tx ts v:=by
 cases h;exact⟨rfl,rfl⟩
def rz{b:Nat}(h:dw (.error b)=.agg #[.int .i64 tc,.string ts]):tc=b/\ts=⟨#[]⟩:=by
 cases h;exact⟨rfl,rfl⟩
def nN(h:Tx ts v)(hv:L3 v):ts.size<=57500:=by rw[UB,h];exact rp hv
def Dm{c:Cx}{x X Y:Nat}{it:Option V}{p q:Nat->Pe V}{d:Nd}(hd:c.ns[x]?=some d)(T:JZ d.op)(am:(d.op==49)=false/\(d.op==91)=false/\(d.op==63)=false/\(d.op==101)=false/\(d.op==115)=false)(hx:d.x=(X:Int))(hy:d.y=(Y:Int))(H:nF c X it p 0)(H':nF c Y it q 0)
  (hs:pa p 0) (ax:pa q 0) (k op:Nat) (ao:(k=1/\op∈[43,45,42,47,60,61])\/(k=13/\op∈[109,120,64])) (R:d.op=(I7 k op:Int)) :
  nF c x it (λf=>eL (p f) λv f=>eL (q f) λu f=>.ret (bY.make op v u,f)) 0:=by
 intro w M s nd f e vI h _ U hi;have h8:8<=w.1.size:=by obtain⟨L,vN,_,_,h3,_,_,h6,_⟩:=h;exact ah (h6 _ h3).1 (aE (h6.lt h3))
 cases j:((p f).run (Nn c) (s,nd)).1.1 with
 |error F =>
  refine Bm (P:=λf=>eL (p f) λv f=>eL (q f) λu f=>.ret (bY.make op v u,f)) hd T hx H h U hi hs j ?_;rcases ap:(p f).run (Nn c) (s,nd) with⟨⟨r,f1⟩,s1⟩;rw[ap]at j;cases j;exact fF ap
 |ok v =>
  obtain⟨g,a7,q0,q1,q2,q3,⟨z0,z1,z2,z3,z4,z5⟩,hM⟩:=h.begin hd;have C:=bZ (ji H d h U hi hs);obtain⟨o,sx,xx,yy,zz,pp,pn,pc,al⟩:=d;simp only at T am hx hy R z0 z1 z2 z3 z4 z5 C;subst hx hy;obtain⟨o1,o2,o3,o4,o5,o6⟩:=T;obtain⟨o7,o8,o9,bc,bd⟩:=am;have HX:=bZ j;have HH:=bZ H';have O:=bZ ax;have HD:=bZ (And.intro ao R);clear h U hi H hs j H' ax ao R;unfold dR at q0 q1 z0 z1 z2 z3 z4 z5;unfold ptr at C ⊢;go_enter func196,ntmps196;go_wp2_with fail;refine C.Z.mono ?_;rintro e' w1⟨r,f1,s1,a0,M1,tc,ts,rfl,hF⟩;have j:=HX.Z;rw[hF.run]at j;simp only at j;subst j;obtain⟨rfl,ay⟩:=kV hF.told;have b:=eB w1 0 ts;have ai:=hF.es.below b;have y:=hF.mid.below b;have a4:¬M1 w1.1.size:=λhk=>by have:=hF.es.ct.lt hk;omega
  have z:=(b.block _ (cj hF.node)).trans hF.node;have D:=bZ ((HH.Z (gO w1 0 ts) M1 s1 a0 f1 e vI ai (au _) hF.pu (hF.its.below b)).mono (λe' w' he=>And.intro (he.mid y) (And.intro y z)));obtain⟨n0,n1,n2,n3,n4,n5,n6⟩:=fB hF.node;have m:=bZ hF;clear hF ai y HX C b z;unfold ptr at D;dsimp only;go_wp2_with fail;refine D.Z.mono ?_;rintro e' w3⟨⟨r2,f2,s2,a9,M2,bf,l,B,N,rfl,J,n,_,K,_⟩,y,z⟩;have S:=K _ _ z m.Z.P0;have aa:=K _ _ (nK w1 0 ts) a4;obtain⟨g1,G,g3,I⟩:=sh c e (q f1) f1 s1 a0 m.Z.pu (O.Z.sp f1) (O.Z.pp f1) (O.Z.pe f1);rw[B]at G I;obtain⟨m0,m1,m2,m3,m4,m5,m6⟩:=fB (d:=⟨o,sx,X,Y,zz,pp,pn,pc,al⟩) S;obtain⟨b0,b1,b2,b3,b4⟩:=cM n.zero;obtain⟨b5,b6,b7,b8,b9⟩:=cM aa;cases av:r2 with
  |error F =>
   subst av;obtain⟨rfl,rfl⟩:=rz N;have a8:((F:Int) != 0)=true:=by rw[aZ];have:=I F rfl;omega
   have E:=bZ (n.fill J ((fL m.Z.run).trans (fF B)) (p:=eL (p f) λv f=>eL (q f) λu f=>.ret (bY.make op v u,f)) (s:=s) (nd:=nd) rfl);clear n J B N K y z S aa m D n0 n1 n2 n3 n4 n5 n6 g1 G g3 I;dsimp only;go_wp2_with fail;exact UA (v:=.agg #[.int .i64 F,.string ⟨#[]⟩]) S_ rfl (E.Z.then ((Uz _ _).alloc (af _) _))
  |ok u =>
   subst av;obtain⟨rfl,aC⟩:=kV N;have hv:=m.Z.l3 v rfl;have hu:=G u rfl;have a3:8<=(gO w3 0 l).1.size:=by have:=n.ot.size;have:=(eB w3 0 l).size;omega
   have Q:=I8 k op HD.Z.1 v u ts l (gO w3 0 l) a3 hv hu ay aC (ah (nN ay hv) RZ) (ah (nN aC hu) RZ);obtain⟨a5,a6,Z⟩:=dG (bY.make op v u);rw[Z,<-HD.Z.2]at Q;have E:=bZ (λw4 (b:Below (gO w3 0 l).1.size (gO w3 0 l) w4)=>And.intro ((n.below (eB w3 0 l)).below b).zero (((n.below (eB w3 0 l)).below b).fill ((J.below (eB w3 0 l)).below b) (p:=eL (p f) λv f=>eL (q f) λu f=>.ret (bY.make op v u,f)) (s:=s) (nd:=nd) ((fL m.Z.run).trans (fL B)) Z));have ab:=bZ Q;clear n J B N K y z S aa m D Q Z n0 n1 n2 n3 n4 n5 n6 g1 G g3 I;dsimp only;go_wp2_with fail;refine ab.Z.mono ?_;rintro e' w4⟨rfl,ad⟩;obtain⟨hz,ak⟩:=E.Z w4 ad;obtain⟨e0,e1,e2,e3,e4⟩:=cM hz;have a2:=bZ ak;clear hz ak ad E ab;dsimp only;go_wp2_with fail;exact UA (v:=.agg #[.int .i64 a5,.string a6]) Tl rfl a2.Z
end Ref
end
section
open bY
open Tryz
namespace Ref
variable{c:Cx}{s:LS}{f x X:Nat}{j:Xa}{M:Nat->Prop}{e:Ending}{it:Option V}{p q k:Nat->Pe V}{d:Nd}
def ES.eight{nd:List (a_×Wo)}{w:QV}(h:ES c s nd f j w M):8<=w.1.size:=by
 obtain⟨L,m,_,_,b,_,_,l,_⟩:=h;exact ah (l _ b).1 (aE (l.lt b))
def ql.last{p P:Pe V}{n:LS}{nd m:List (a_×Wo)}{w W w':QV}{b:Nat->Prop}(h:ql c p n m j W b e w')(B:uY w M W b)(z:P.run (Nn c) (s,nd)=p.run (Nn c) (n,m)):∃(tc:Int) (ts:ba),e=.returned (.agg #[.int .i64 tc,.string ts])/\Zero w' w.1.size/\ql c P s nd j w M (.returned (.agg #[.int .i64 tc,.string ts])) (Ref.fill w' w.1.size tc ts):=by
 obtain⟨r,f2,E,D,C,tc,ts,h1,h2,u,y,l,_⟩:=h.mid B;exact⟨tc,ts,u,l.zero,l.fill y (z.trans h1) h2⟩
def J0(hd:c.ns[x]?=some d)(z:d.op=49)(hx:d.x=(X:Int))(H:nF c X it p 0)(hs:pa p 0){G:V->Wo}(C:∀(v:V) (x:ba) (w:QV),8<=w.1.size->L3 v->Tx x v->x.size<=100000->Calls prog 236 #[.string d.s,.string x] w λe w'=>e=.returned (dw (G v))/\Xb w w'):nF c x it (λf=>eL (p f) λv f=>.ret (G v,f)) 0:=by
 intro w M s nd f e j h ai J hi;cases b:((p f).run (Nn c) _).1.1 with
 |error ec =>
  refine Bm (P:=λf=>eL (p f) λv f=>.ret (G v,f)) hd (by rw[z];unfold JZ;decide) hx H h J hi hs b ?_;rcases K:(p f).run (Nn c) (s,nd) with⟨⟨r,f1⟩,s1⟩;rw[K]at b;cases b;exact fF K
 |ok v =>
  obtain⟨g,ad,q0,q1,q2,q3,⟨z0,O,Q,R,z4,S⟩,hM⟩:=h.begin hd;have y:=bZ (ji H d h J hi hs);obtain⟨o,sx,xx,yy,zz,pp,pn,pc,al⟩:=d;simp only at z hx C z0 O Q R z4 S y;subst z hx;have Z:=bZ b;have Y:=bZ C;unfold dR at q0 q1 z0 O Q R z4 S;unfold ptr at y ⊢;go_enter func196,ntmps196;go_wp2_with fail;refine y.Z.mono ?_;rintro e' w1⟨r,f1,s1,ak,M1,tc,ts,rfl,hF⟩;have b:=Z.Z;rw[hF.run]at b;simp only at b;subst b;obtain⟨rfl,N⟩:=kV hF.told;have D:=eB w1 0 ts;have E:=hF.es.below D;have I:=hF.mid.below D;obtain⟨n0,n1,n2,n3,n4,n5,n6⟩:=fB hF.node;have hv:=hF.l3 v rfl;have ab:=hF.run;have F:=Y.Z v ts (gO w1 0 ts) E.eight hv N (ah (nN N hv) RZ);obtain⟨m,n,L⟩:=dG (G v);rw[L]at F;have T:=bZ (F.mono (λe' u (l:e'=.returned (.agg #[.int .i64 m,.string n])/\Below (gO w1 0 ts).1.size (gO w1 0 ts) u)=>show ∃(tc:Int) (B:ba),e'=.returned (.agg #[.int .i64 tc,.string B])/\Zero u w.1.size/\ql c (eL (p f) λv f=>.ret (G v,f)) s nd j w M (.returned (.agg #[.int .i64 tc,.string B])) (fill u w.1.size tc B) from⟨m,n,l.1,(I.below l.2).zero,(I.below l.2).fill (E.below l.2) (fL ab) L⟩));go_wp2_with fail;refine T.Z.mono ?_;rintro e' u⟨m,n,rfl,hz,aa⟩;obtain⟨e0,e1,e2,e3,e4⟩:=cM hz;have U:=bZ aa;go_wp2_with fail;exact UA (v:=.agg #[.int .i64 m,.string n]) Tl rfl U.Z
def OU(hd:c.ns[x]?=some d)(m:d.op=91)(hx:d.x=(X:Int))(H:nF c X it p 0)(hs:pa p 0):nF c x it (λf=>eL (p f) λv f=>match bY.keyOf v with|.ok k=>kr k f|.error e=>.ret (.error e,f)) 1:=by
 intro w M s nd f e j h ad y hi;cases b:((p f).run (Nn c) _).1.1 with
 |error ec =>
  refine Bm (P:=λf=>eL (p f) λv f=>match bY.keyOf v with|.ok k=>kr k f|.error e=>.ret (.error e,f)) hd (by rw[m];unfold JZ;decide) hx H h y hi hs b ?_;rcases z:(p f).run (Nn c) _ with⟨⟨r,f1⟩,B⟩;rw[z]at b;cases b;exact fF z
 |ok v =>
  obtain⟨g,ab,V,Y,q2,q3,⟨z0,C,D,E,z4,F⟩,hM⟩:=h.begin hd;have l:=bZ (ji H d h y hi hs);obtain⟨o,sx,xx,yy,zz,pp,pn,pc,al⟩:=d;simp only at m hx z0 C D E z4 F l;subst m hx;have I:=bZ b;unfold dR at V Y z0 C D E z4 F;unfold ptr at l ⊢;go_enter func196,ntmps196;go_wp2_with fail;refine l.Z.mono ?_;rintro e' w1⟨r,f1,B,U,J,tc,ts,rfl,hF⟩;have b:=I.Z;rw[hF.run]at b;simp only at b;subst b;obtain⟨rfl,T⟩:=kV hF.told;have u:=eB w1 0 ts;have N:=hF.es.below u;have R:=hF.mid.below u;obtain⟨n0,n1,n2,n3,n4,n5,n6⟩:=fB hF.node;have hv:=hF.l3 v rfl;have S:=hF.run;have n:=bZ ((F8 c v ts (gO w1 0 ts) J B U f1 j T hv N (hF.pu.le RM)).mono (λe' w4 O=>O.last (P:=eL (p f) λv f=>match bY.keyOf v with|.ok k=>kr k f|.error e=>.ret (.error e,f)) (s:=s) (nd:=nd) R (fL S)));unfold ptr at n;go_wp2_with fail;refine n.Z.mono ?_;rintro e' w4⟨Z,aa,rfl,hz,Q⟩;obtain⟨e0,e1,e2,K,L⟩:=cM hz;have G:=bZ Q;go_wp2_with fail;exact UA (v:=.agg #[.int .i64 Z,.string aa]) (by simp[results,results196,go_sem,e0,e1,e2,K,L]) rfl G.Z
def Pt(hd:c.ns[x]?=some d)(N:d.op=63)(hx:d.x=(X:Int))(H:nF c X it p 0)(hs:pa p 0){Y Z:Nat}{r:Nat->Pe V}(hy:d.y=(Y:Int))(hz:d.z=(Z:Int))(HY:nF c Y it q 0)(HZ:nF c Z it r 0):nF c x it (λf=>eL (p f) λv f=>match fg v with|.ok i=>if i=0 then r f else q f|.error e=>.ret (.error e,f)) 0:=by
 intro w M s nd f e j h aC n hi;cases y:((p f).run (Nn c) _).1.1 with
 |error ec =>
  refine Bm (P:=λf=>eL (p f) λv f=>match fg v with|.ok i=>if i=0 then r f else q f|.error e=>.ret (.error e,f)) hd (by rw[N];unfold JZ;decide) hx H h n hi hs y ?_;rcases ai:(p f).run (Nn c) (s,nd) with⟨⟨r,f1⟩,O⟩;rw[ai]at y;cases y;exact fF ai
 |ok v =>
  obtain⟨g,ay,q0,q1,q2,q3,⟨z0,z1,z2,z3,z4,z5⟩,hM⟩:=h.begin hd;have D:=bZ (ji H d h n hi hs);obtain⟨o,sx,xx,yy,zz,pp,pn,pc,al⟩:=d;simp only at N hx hy hz z0 z1 z2 z3 z4 z5 D;subst N hx hy hz;have HX:=bZ y;have ao:=bZ HY;have ap:=bZ HZ;unfold dR at q0 q1 z0 z1 z2 z3 z4 z5;unfold ptr at D ⊢;go_enter func196,ntmps196;go_wp2_with fail;refine D.Z.mono ?_;rintro e' w1⟨r,f1,O,am,M1,tc,ts,rfl,hF⟩;have y:=HX.Z;rw[hF.run]at y;simp only at y;subst y;obtain⟨rfl,ak⟩:=kV hF.told;have z:=eB w1 0 ts;have ab:=hF.es.below z;have ad:=hF.mid.below z;obtain⟨n0,n1,n2,n3,n4,n5,n6⟩:=fB hF.node;have hv:=hF.l3 v rfl;have av:=hF.run;obtain⟨a,m,p0,u,ks,k1,HK,_⟩:=kinds hv ts ak (ah (nN ak hv) RZ);have HN:=bZ (HK (w1.alloc (.cells #[.int .i64 0,.string ts] 166))).1;have B:=fL (k:=λv f=>match fg v with|.ok i=>if i=0 then r f else q f|.error e=>.ret (.error e,f)) av;have U:=bZ (λn=>(ao.Z (gO w1 0 ts) M1 O am f1 e j ab (au _) hF.pu (hF.its.below z)).mono (λe' S K=>K.last (P:=eL (p f) λv f=>match fg v with|.ok i=>if i=0 then r f else q f|.error e=>.ret (.error e,f)) (s:=s) (nd:=nd) ad n));have aa:=bZ (λn=>(ap.Z (gO w1 0 ts) M1 O am f1 e j ab (au _) hF.pu (hF.its.below z)).mono (λe' S K=>K.last (P:=eL (p f) λv f=>match fg v with|.ok i=>if i=0 then r f else q f|.error e=>.ret (.error e,f)) (s:=s) (nd:=nd) ad n));obtain⟨b0,b1,b2,b3,b4⟩:=cM hF.mid.zero
  have T:=bZ (λn=>hF.mid.fill hF.es (p:=eL (p f) λv f=>match fg v with|.ok i=>if i=0 then r f else q f|.error e=>.ret (.error e,f)) (s:=s) (nd:=nd) (r:=.error 9) (tc:=9) (ts:=⟨#[]⟩) n rfl);unfold ptr at U aa;go_wp2_with fail;refine HN.Z.mono ?_;rintro e' w2⟨rfl,ax⟩;obtain rfl:=ax.symm;rcases k1 with⟨rfl,rfl,rfl,rfl,_⟩|⟨rfl,rfl,rfl,b,rfl⟩|⟨rfl,rfl,rfl,l,rfl,_⟩
  ·by_cases J:a=0
   ·subst J;have C:=bZ (aa.Z B);go_wp2_with fail;refine C.Z.mono ?_;rintro e' S⟨Q,R,rfl,hz,L⟩;obtain⟨e0,e1,e2,G,I⟩:=cM hz;have F:=bZ L;go_wp2_with fail;exact UA (v:=.agg #[.int .i64 Q,.string R]) TI rfl F.Z
   have ha':(a != 0)=true:=by rw[aZ];exact J
   have C:=bZ (U.Z (B.trans (by show(if a=0 then r f1 else q f1).run _ _=_;rw[ae J])));go_wp2_with fail;refine C.Z.mono ?_;rintro e' S⟨Q,R,rfl,hz,L⟩;obtain⟨e0,e1,e2,G,I⟩:=cM hz;have F:=bZ L;go_wp2_with fail;exact UA (v:=.agg #[.int .i64 Q,.string R]) TI rfl F.Z
  ·have E:=bZ (T.Z B);go_wp2_with fail;exact UA (v:=.agg #[.int .i64 9,.string ⟨#[]⟩]) S_ rfl (E.Z.then ((Uz _ _).alloc (af _) _))
  have E:=bZ (T.Z B);go_wp2_with fail;exact UA (v:=.agg #[.int .i64 9,.string ⟨#[]⟩]) S_ rfl (E.Z.then ((Uz _ _).alloc (af _) _))
def NX(k:Nat->Pe V)(f:Nat):Wo->Pe V
 |.ok v=>.ret (.ok v,f)
 |.error e=>if e=7\/e=8\/e=9\/e=10 then k f else .ret (.error e,f)
def Mn{σ:Type}{N:a_->σ->Wo×σ}{p:Pe V}{s b:σ}{r:Wo}(h:p.run N s=((r,f),b)):(pN p k).run N s=(NX k f r).run N b:=by
 unfold pN;rw[Pg.run_bind,h];cases r<;>rfl
def OV(hd:c.ns[x]?=some d)(F:d.op=116)(hx:d.x=(X:Int))(H:nF c X it p 0)(hs:pa p 0){Y:Nat}(hy:d.y=(Y:Int))(R:nF c Y it q 0):nF c x it (λf=>pN (p f) λf=>q f) 0:=by
 intro w M s nd f e j h ao l hi;obtain⟨g,am,q0,q1,q2,q3,⟨z0,I,J,K,z4,L⟩,hM⟩:=h.begin hd;have m:=bZ (ji H d h l hi hs);obtain⟨o,sx,xx,yy,zz,pp,pn,pc,al⟩:=d;simp only at F hx hy z0 I J K z4 L m;subst F hx hy;have Q:=bZ R;unfold dR at q0 q1 z0 I J K z4 L;unfold ptr at m ⊢;go_enter func196,ntmps196;go_wp2_with fail;refine m.Z.mono ?_;rintro e' w1⟨r,f1,s1,ad,S,tc,ts,rfl,hF⟩;have u:=eB w1 tc ts;have V:=hF.es.below u;have ab:=hF.mid.below u;obtain⟨n0,n1,n2,n3,n4,n5,n6⟩:=fB hF.node;have ap:=hF.run;have b:=Mn (k:=q) hF.run;obtain⟨b0,b1,b2,B,C⟩:=cM hF.mid.zero;have y:=bZ (λl=>hF.mid.fill hF.es (p:=pN (p f) λf=>q f) (s:=s) (nd:=nd) l hF.told);have z:=bZ (λl=>(Q.Z (gO w1 tc ts) S s1 ad f1 e j V (au _) hF.pu (hF.its.below u)).mono (λe' w4 Z=>Z.last (P:=pN (p f) λf=>q f) (s:=s) (nd:=nd) ab l));have E:=hF.ec;have G:=hF.told;unfold ptr at z;cases r with
 |ok v =>
  obtain⟨rfl,av⟩:=kV G;have n:=bZ (y.Z b);go_wp2_with fail;exact UA (v:=.agg #[.int .i64 0,.string ts]) TJ rfl (n.Z.then ((Uz _ _).alloc (af _) _))
 |error ec =>
  obtain⟨rfl,rfl⟩:=rz G;have E:=E ec rfl;by_cases D:ec=7\/ec=8\/ec=9\/ec=10
  ·simp only[NX,ag D]at b;have N:=bZ (z.Z b);have k0:((ec:Int)==0)=false:=R7;have ax:((ec:Int)==12)=false:=R7;go_wp2_with fail;refine N.Z.mono ?_;rintro e' w4⟨ai,ak,rfl,hz,aa⟩;obtain⟨e0,e1,e2,T,U⟩:=cM hz;have O:=bZ aa;go_wp2_with fail;exact UA (v:=.agg #[.int .i64 ai,.string ak]) (by simp[results,results196,go_sem,e0,e1,e2,T,U]) rfl O.Z
  simp only[NX,ae D]at b;have n:=bZ (y.Z b);rcases(by omega:ec=11\/ec=12)with rfl|rfl
  all_goals
   go_wp2_with fail;exact UA (v:=.agg #[.int .i64 _,.string ⟨#[]⟩]) TJ rfl (n.Z.then ((Uz _ _).alloc (af _) _))
end Ref
end
