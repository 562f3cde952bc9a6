/- Out of A13. -/
import Derived.Test.YtpekpdimdelncaaGreatDoorP28
import Derived.Test.YtpekpdimdelncaaGreatDoorP27
set_option linter.unusedVariables false
set_option linter.unusedSimpArgs false
set_option maxRecDepth 100000
set_option maxHeartbeats 8000000
set_option linter.defProp false
namespace Go.Proofs.YtpekpdimdelncaaGreatDoor
open Go.RowKit Go.Shelf
section
open bY
namespace Ref
variable{c:Cx}{M M1:Nat->Prop}{d:Nd}{it:Option V}{vI vV v:Xb}{e f1:Nat}{ks:List (a_)}{s1:LS}{nd1:List (a_×Wo)}{acc:List V}{u:V}{x:ba}
structure K3(c:Cx)(w w0:Xa)(M:Nat->Prop)(d:Nd)(it:Option V)(vI:Xb)(e:Nat)(vV:Xb)(ks:List (a_))(wr:Xa)(v:Xb)(f1:Nat)(s1:LS)(nd1:List (a_×Wo))(M1:Nat->Prop)(acc:List V):Prop where
 ls:Qa c w0 M d it vI e w.1.size wr v acc.length f1 s1 nd1 M1 acc
 qy:wQ w0.1.size wr M1 vV ks
 apart:∀g,vV.ownBlock=some g->v.ownBlock≠some g
def K3.push{w w0:Xa}{wr:Xa}(h:K3 c w w0 M d it vI e vV ks wr v f1 s1 nd1 M1 acc)(hu:L3 u)(hx:Tx x u)(I:acc.length<=1000)(G:∀g,vI.ownBlock=some g->g<w0.1.size):∃g p m,(Builtin.append_ #[40,40] 40 #[v,.slice (some ⟨wr.1.size,0,none⟩) 1 1]).run Tryz.prog (wr.alloc (.cells #[.string x] 9))=.ok (.slice (some ⟨g,0,none⟩) (acc.length+1) p) m/\K3 c w w0 M d it vI e vV ks m (.slice (some ⟨g,0,none⟩) (acc++[u]).length p) f1 s1 nd1 M1 (acc++[u]):=by
 obtain⟨b,z,y⟩:=h;have C:(acc.map (bY.wr 3)).length=acc.length:=aH _;obtain⟨r,D,m,B,n,j,F⟩:=b.Nr.push b.es.cz b.es.eight b.mid.mK.size x (by rw[C];omega);rw[C]at B n;have E:acc.map (bY.wr 3)++[x.1.1]=(acc++[u]).map (bY.wr 3):=by rw[aZ,hx];rfl
 have hlen:(acc++[u]).length=acc.length+1:=S5;rw[E]at n;refine⟨r,D,m,B,⟨rfl,j.es b.es b.Nr.no,j.mid b.mid b.Nr.new,b.pu,j.its b.its (λg l e=>by have:=G g l;have:=b.Nr.new g e;omega),ig b.l3 (kA hu),j.at b.node S4,by rw[hlen];exact n⟩,z.but j y,λg l e=>?_⟩;cases e;rcases F with h|h
 ·exact y _ l h
 have:r<wr.1.size:=(VT z.row _ l).2;omega
def K3.below{w w0:Xa}{wr w':Xa}(h:K3 c w w0 M d it vI e vV ks wr v f1 s1 nd1 M1 acc)(j:Xc wr w'):K3 c w w0 M d it vI e vV ks w' v f1 s1 nd1 M1 acc:=by
 obtain⟨b,m,l⟩:=h;exact⟨⟨b.len,b.es.below j,b.mid.below j,b.pu,b.its.below j,b.l3,(j.block _ (cj b.node)).trans b.node,b.Nr.below j⟩,m.below j,l⟩
def K3.enter{w w0:Xa}{wr:Xa}(h:K3 c w w0 M d it vI e vV ks wr v f1 s1 nd1 M1 acc)(U:1<=e)(hu:L3 u)(hx:Tx x u):∃(B:Option Addr) (j p:Nat) (E:Option Addr) (C:Nat) (n:Xa) (g:Nat) (m:Nat) (l:Xa),vI=.slice B j p/\j<=400 /\(Builtin.append_ #[40,40] 40 #[.slice none 0 0,.slice B j p]).run Tryz.prog wr=.ok (.slice E j C) n /\(Builtin.append_ #[40,40] 40 #[.slice E j C,.slice (some ⟨n.1.size,0,none⟩) 1 1]).run Tryz.prog (n.alloc (.cells #[.string x] 9))=.ok (.slice (some ⟨g,0,none⟩) (j+1) m) l /\Xc wr n/\Xc wr l/\jP (l.setCell ⟨c.qb,3,none⟩ (.slice (some ⟨g,0,none⟩) (j+1) m)) M1 (.slice (some ⟨g,0,none⟩) (j+1) m) (some u) (f1+(e-1)):=by
 obtain⟨b,h1,h2,J,T⟩:=h.ls.its;have F:=h.ls.es.eight;obtain⟨B,p,rfl⟩:=dD h1;have hT:wQ 8 wr M1 (.slice B b.length p) b:=⟨h1,λg N=>(VT h1 g N).1,h2⟩;obtain⟨E,C,n,K,I,V⟩:=(iY.nil wr).join (hT.Nq F) F Tc;simp only[Ra,aG,Rz]at K I;obtain⟨g,m,l,G,D⟩:=I.push F x R5;refine⟨B,b.length,p,E,C,n,g,m,l,rfl,by omega,K,G,I.eD,D.eD,b++[x.1.1],?_,λk z Q=>?_,?_,λX S=>?_⟩
 ·have R:∀r y,l.1[g]?=some (.cells r 9 y)->(l.setCell ⟨c.qb,3,none⟩ (.slice (some ⟨g,0,none⟩) (b.length+1) m)).1[g]?=some (.cells r 9 y):=λr y z=>(VU l ⟨c.qb,3,none⟩ g _ (by
   have N:=D.new g rfl;obtain⟨L,Y,_,_,J,_,_,P,_⟩:=h.ls.es;have:=P.lt J;show g≠c.qb;omega)).trans z
  unfold dX;have O:(b++[x.1.1]).length=b.length+1:=S5;rw[O];exact cJ (by have:=D.row;rw[O]at this;exact this) (λk z r y G=>by cases z;exact R r y G)
 ·cases z;have:=D.new g rfl;have:g<wr.1.size:=h.ls.es.cz.lt Q;omega
 ·rw[aj,aD];omega
 cases S;exact⟨hu,b,by rw[hx]⟩
end Ref
end
section
open bY
open Tryz
namespace Ref
variable{c:Cx}{b:Bool}{d:Nd}{q:V->Nat->Pe V}{x:ba}{M:Nat->Prop}{s:LS}{f:Nat}{j:Xb}{it:Option V}{l:List V}
def uo(c:Cx)(b:Bool)(d:Nd)(q:V->Nat->Pe V)(v:V)(x:ba)(w:Xa)(M:Nat->Prop)(s:LS)(nd:List (a_×Wo))(f:Nat)(j:Xb):Prop :=Calls prog 238 #[ptr c.rb,ptr c.qb,.agg #[.int .u8 d.op,.string d.s,.int .i64 d.x,.int .i64 d.y,.int .i64 d.z,.slice d.p d.pn d.pc],.string x] w (qF c (match eS v with|.ok l=>um b q l [] f|.error e=>.ret (.error e,f)) s nd j w M)
def B5{v:V}{w:Xa}{nd:List (a_×Wo)}(hx:Tx x v)(C:L3 v)(h:ES c s nd f j w M)(B:eS v=.error 9):uo c b d q v x w M s nd f j:=by
 unfold uo;rw[B];show Calls _ _ _ _ _;obtain⟨a,m,p,u,S,k1,F,_⟩:=kinds C x hx (ah (oj hx C) S4);have hu:u=false:=by
  rcases k1 with⟨_,_,h,_⟩|⟨_,_,h,_⟩|⟨_,_,_,l,rfl,_⟩
  ·exact h
  ·exact h
  cases B
 subst hu;have n:=wS w d;have r:=eg (lZ w d);have D:=bZ ((F (dV (lZ w d))).2.2 ((h.below n).below r).eight);have z:=bZ (λy (e:Below (dV (lZ w d)).1.size (dV (lZ w d)) y)=>And.intro ((e.block _ (cj (eP (lZ w d)))).trans (eP (lZ w d))) (((h.below n).fill (r.trans (e.mono r.size)) ((e.block _ (cj (eP (lZ w d)))).trans (eP (lZ w d))) (r:=.error 9) (tc:=9) (ts:=⟨#[]⟩) rfl).pre n));rw[yN]at z;unfold ptr;go_enter func238,ntmps238;go_wp2_with fail;refine D.Z.mono ?_;rintro R y⟨o,Q,rfl,O⟩;obtain⟨P,N⟩:=z.Z y O.eD;obtain⟨G,I,J,K,L⟩:=cX P;have E:=bZ N;go_wp2;exact VN (v:=.agg #[.int .i64 9,.string ⟨#[]⟩]) (by simp[results,results238,go_sem,G,I,J,K,L]) rfl E.Z
def D'{Y:Nat}{w:Xa}{nd:List (a_×Wo)}{e:Nat}(bB:d.op=if b=true then 101 else 115)(hy:d.y=Y)(HY:∀u,L3 u->nY c Y (some u) (q u) 0)(hs:∀u,L3 u->pC (q u) 0)(hx:Tx x (vl l))(hv:L3 (vl l))(K:1<=e)(h:ES c s nd f j w M)(hp:Pu c s nd (f+e))(hi:jP w M j it (f+e)):uo c b d q (vl l) x w M s nd f j:=by
 show Calls _ _ _ _ (qF c (um b q l [] f) s nd j w M);obtain⟨a,m,p,u,T,k1,HK,_⟩:=kinds hv x hx (ah (oj hx hv) S4);have cR:=vu hv rfl;obtain⟨hu,a8,ao⟩:u=true/\T=l.map (bY.wr 3)/\∀x∈l,L3 x:=by
  rcases k1 with⟨_,_,_,h,_⟩|⟨_,_,_,b,h⟩|⟨_,_,h,l',h',h2,h3⟩
  ·cases h
  ·cases h
  cases h';exact⟨h,h2,h3⟩
 subst hu;have bA:T.length=l.length:=by rw[a8,aH]
 have ad:=wS w d;have ai:=eg (lZ w d);have bL:∀k,M k->k<(lZ w d).1.size:=λk y=>(h.below ad).cz.lt y;have D:∀g,j.ownBlock=some g->g<(lZ w d).1.size:=λg hg=>by
  obtain⟨l,h1,_⟩:=hi.below ad;exact(VT h1 g hg).2
 have HC:=bZ ((HK (dV (lZ w d))).2.2 ((h.below ad).below ai).eight);rw[bA]at HC;have H0:=bZ (λ(w1:Xa) (o:Option Addr) (cc:Nat) (B:iY (dV (lZ w d)) w1 (.slice o l.length cc) T)=>show K3 c w (lZ w d) M d it j e (.slice o l.length cc) T w1 (.slice none 0 0) f s nd M [] from
  ⟨⟨rfl,((h.below ad).below ai).below B.eD,⟨λ_ h=>.inl h,λ_ h=>h,(eu.below ai).trans (eu.below (L:=M) B.eD) (λ_ h=>.inl h),(B.eD.block _ (cj (eP (lZ w d)))).trans (eP (lZ w d)),λy=>by have:=bL _ y;omega⟩,hp,((hi.below ad).below ai).below B.eD,(λx hx=>by cases hx),(B.eD.block _ (cj (yM w d))).trans (yM w d),wQ.nil _ _ _⟩,⟨by unfold dX;rw[bA];have:=B.row;rw[bA]at this;exact this,λg hg=>ah ai.size (B.new g hg),λg hg y=>by have:=bL _ y;have:=B.new g hg;have:=ai.size;omega⟩,λg hg e=>by cases e⟩)
 have HD:=bZ (And.intro HY (And.intro hs (And.intro ao (And.intro a8 D))));have HB:=bZ ad;obtain⟨G,sx,xx,yy,zz,pp,Z,X,Q⟩:=d;simp only at bB hy;subst hy;have aC:=bZ bB;clear bB;have bn:=yN w ⟨G,sx,xx,Y,zz,pp,Z,X,Q⟩;unfold ptr;go_enter func238,ntmps238;go_wp2_with fail;refine HC.Z.mono ?_;rintro z w1⟨oV,cV,rfl,B⟩;have bK:=H0.Z w1 oV cV B;obtain⟨i0,i1,i2,-,-,-⟩:=bK.ls.es.D9 j;have b7:=bZ (And.intro bK (show(um b q l [] f).run (Nn c) (s,nd)=(um b q (l.drop 0) [] f).run (Nn c) (s,nd)from rfl));go_wp2
 go_loopw [11,13] (λlv iv wr=>∃(i f1:Nat) (s1:LS) (U:List (a_×Wo)) (M1:Nat->Prop) (n:List V) (o:Option Addr) (cp:Nat),lv=.slice o n.length cp/\iv=.int .i64 (i:Int)/\i<=l.length/\n.length<=i/\Hid (K3 c w (lZ w ⟨G,sx,xx,Y,zz,pp,Z,X,Q⟩) M ⟨G,sx,xx,Y,zz,pp,Z,X,Q⟩ it j e (.slice oV l.length cV) T wr (.slice o n.length cp) f1 s1 U M1 n/\(um b q l [] f).run (Nn c) (s,nd)=(um b q (l.drop i) n f1).run (Nn c) (s1,U))) (λ_ iv _=>l.length-(intOf iv).toNat)
 case atStart=>exact⟨0,f,s,nd,M,[],none,0,rfl,rfl,ar _,af _,b7⟩
 case round =>
  obtain⟨i,f1,s1,U,M1,n,oL,cL,rfl,rfl,cP,cH,HI⟩:=hrel;obtain⟨n0,n1,n2,n3,n4,n5,n6⟩:=fH HI.Z.1.ls.node;obtain⟨HY,hs,ao,a8,D⟩:=HD.Z;by_cases bS:i<l.length
  ·have co:(i:Int)<(l.length:Int):=R5;have hu:=aq bS;have bM:=aU bS;generalize l[i]=u at hu bM;have bo:=ao u (aJ hu);obtain⟨r,N⟩:=HI.Z;rw[bM]at N;have bR:T[i]?=some (bY.wr 3 u):=by rw[a8,Q6,hu];rfl
   have bf:=bZ bR;obtain⟨gV,cx,bO,bH⟩:=r.qy.cell r.ls.es.eight bR;subst cx;obtain⟨xu,bp⟩:∃xu:ba,str (bY.wr 3 u)=.string xu:=⟨_,rfl⟩;have b3:Tx xu u:=by unfold str at bp;cases bp;rfl
   rw[bp]at bH;obtain⟨O,E,J,o1,c1,wa,g',bI,wb,cz,cU,ck,cl,bJ,ca,cq⟩:=r.enter K bo b3;subst cz;have ak:=r.below ca;obtain⟨i0,i1,i2,a3,bh,cg⟩:=ak.ls.es.D9 (.slice (some ⟨g',0,none⟩) (E+1) bI);have ct:=ak.ls.mid.on (λk y=>.inl y) (λk y=>y) bh;have R:=cg _ _ _ _ ak.ls.node S4;have a9:=hs u bo;have HC:=bZ ((HY u bo (wb.setCell ⟨c.qb,3,none⟩ (.slice (some ⟨g',0,none⟩) (E+1) bI)) M1 s1 U f1 (e-1) _ a3 (ar _) (r.ls.pu.le R5) cq).mono (λz w' K=>K.mid ct));have a6:=ak.qy.st bh (λ_ h=>.inl h);have bx:=ak.ls.Nr.st bh (λ_ h=>.inl h);have bv:=ak.ls.its.st bh (λ_ h=>.inl h) (af _);have cA:wa.cell? ⟨gV,i,none⟩=some (.string xu):=(bJ.cell (p:=⟨gV,i,none⟩) bO).trans bH;have cN:gV<wa.1.size:=aw bO bJ.size;obtain⟨m0,m1,m2,m3,m4,m5,m6⟩:=fH (d:=⟨G,sx,xx,Y,zz,pp,Z,X,Q⟩) R;have I:=bZ N;have HQ:=bZ (And.intro a6 (And.intro bx (And.intro bv (And.intro R (And.intro a9 (And.intro r.ls.pu (And.intro a3 (And.intro r.ls.l3 (And.intro r.apart D)))))))));unfold ptr at HC;go_wp2_with(at_builtin;first|(refine cW _ rfl _ _ _ _ rfl _ _ _ _ rfl rfl ck ?_)|(refine cW _ rfl _ _ _ _ rfl _ _ _ _ rfl rfl cl ?_));refine HC.Z.mono ?_;rintro z w3⟨r2,f2,s2,bd,M2,b4,bq,S,bX,rfl,a0,bT,cQ,bQ,a5,a4⟩;obtain⟨a6,bx,bv,R,a9,cy,a3,ao,ch,D⟩:=HQ.Z;obtain⟨g1,g2,g3,g4⟩:=sK c e (q u f1) f1 s1 U cy (a9.sp f1) (a9.pp f1) (a9.pe f1)
   rw[S]at g1 g2 g3 g4;obtain⟨j0,j1,j2,cb,bg,ce⟩:=a0.D9 (.slice O E J);have bU:=bT.on (λk y=>.inl y) (λk y=>y) bg;have cw:=ce _ _ _ _ (bQ _ _ R (wR a3 R rO)) S4;have cd:K3 c w (lZ w ⟨G,sx,xx,Y,zz,pp,Z,X,Q⟩) M ⟨G,sx,xx,Y,zz,pp,Z,X,Q⟩ it (.slice O E J) e (.slice (some ⟨gV,0,none⟩) l.length cV) T (w3.setCell ⟨c.qb,3,none⟩ (.slice O E J)) (.slice oL n.length cL) f2 s2 bd M2 n :=⟨⟨rfl,cb,bU,g1,(bv.st a4 a5 (SF g3 e)).st bg (λ_ h=>.inl h) (af _),ao,cw,(bx.st a4 a5).st bg (λ_ h=>.inl h)⟩,(a6.st a4 a5).st bg (λ_ h=>.inl h),ch⟩;have bF:=bT.zero;rw[bn]at bF;obtain⟨e0,e1,e2,e3,e4⟩:=cX bF;have bV:=bQ _ _ R (wR a3 R rO);obtain⟨y0,y1,y2,y3,y4,y5,y6⟩:=fH (d:=⟨G,sx,xx,Y,zz,pp,Z,X,Q⟩) bV;have bw:M2 c.qb:=by obtain⟨L,vN,_,_,h3,_⟩:=a0;exact h3
   have cY:c.qb≠w.1.size:=λe=>wR a0 bV rO (e▸bw);have c0:c.qb≠w.1.size+1:=λe=>wR a0 bF G3 (e▸bw);have bc:((w3.setCell ⟨c.qb,3,none⟩ (.slice O E J)).alloc (.cells #[.int .i64 b4,.string bq] 166)).1.size=w3.1.size+1:=S5;have b9:Below (w3.setCell ⟨c.qb,3,none⟩ (.slice O E J)).1.size (w3.setCell ⟨c.qb,3,none⟩ (.slice O E J)) ((w3.setCell ⟨c.qb,3,none⟩ (.slice O E J)).alloc (.cells #[.int .i64 b4,.string bq] 166)):=(VM _ _).alloc (af _) _;obtain⟨cB,cn,bP,bt⟩:=(a6.st a4 a5).cell a0.eight (i:=i) (x:=bY.wr 3 u) bf.Z;cases cn;rw[bp]at bt;have c3:c.qb≠gV:=λe=>(a6.st a4 a5).no gV rfl (e▸bw);have aa:=bZ cd;have ay:=bZ bU;cases r2 with
   |error ec =>
    obtain⟨rfl,rfl⟩:=rN bX;have cM:((ec:Int) != 0)=true:=by rw[Q5];have:=g4 ec rfl;omega
    have HE:=bZ ((ay.Z.fill aa.Z.ls.es (p:=um b q l [] f) (s:=s) (nd:=nd) (I.Z.trans (Nt S)) rfl).pre HB.Z);rw[bn]at HE;go_wp2;exact VN (v:=.agg #[.int .i64 ec,.string ⟨#[]⟩]) Uy rfl (HE.Z.then ((VM _ _).alloc (af _) _))
   |ok v =>
    obtain⟨rfl,ap⟩:=lk bX;have av:=g2 v rfl;obtain⟨a2,c5,p2,u2,c4,k2,b8,_⟩:=kinds av bq ap (ah (oj ap av) S4);have P:=bZ (b8 ((w3.setCell ⟨c.qb,3,none⟩ (.slice O E J)).alloc (.cells #[.int .i64 0,.string bq] 166))).1;have ab:=bZ (aa.Z.below b9);cases b with
    |true =>
     have ho:G=101:=aC.Z;subst ho;obtain⟨g5,bu,w5,am,bj⟩:=ab.Z.push av ap R5 D;rw[bc]at am;have ax:=bZ (And.intro bj (I.Z.trans (K0 S)));go_wp2_with fail;refine P.Z.mono ?_;rintro z w2⟨rfl,F⟩;obtain rfl:=F.symm;go_wp2_with(at_builtin;refine cW _ rfl _ _ _ _ rfl _ _ _ _ rfl rfl am ?_);refine⟨⟨i+1,f2,s2,bd,M2,n++[v],some ⟨g5,0,none⟩,bu,by rw[aj];rfl,by go_num,by omega,by rw[aj,aD];omega,ax⟩,?_⟩;simp[intOf];omega
    |false =>
     have ho:G=115:=aC.Z;subst ho;have C:=K1 (r:=l.drop (i+1)) (aC:=n) S;rcases k2 with⟨rfl,rfl,rfl,rfl,_⟩|⟨rfl,rfl,rfl,b2,rfl⟩|⟨rfl,rfl,rfl,l2,rfl,_⟩
     ·have C:(um false q (u::l.drop (i+1)) n f1).run (Nn c) (s1,U)=(if a2=0 then um false q (l.drop (i+1)) n f2 else um false q (l.drop (i+1)) (n++[u]) f2).run (Nn c) (s2,bd):=C;by_cases a7:a2=0
      ·rw[ag a7]at C;subst a7;have ax:=bZ (And.intro ab.Z (I.Z.trans C));clear aa ab ay I S aC bt bP bc bf ap av C D;dsimp only;go_wp2_with fail;refine P.Z.mono ?_;rintro z w2⟨rfl,F⟩;obtain rfl:=F.symm;clear P;dsimp only;go_wp2;refine⟨⟨i+1,f2,s2,bd,M2,n,oL,cL,rfl,by go_num,by omega,by omega,ax⟩,?_⟩;simp[intOf];omega
      rw[ae a7]at C;have cF:(a2 != 0)=true:=by rw[Q5];exact a7
      obtain⟨g5,bu,w5,am,bj⟩:=ab.Z.push bo b3 R5 D;rw[bc]at am;have ax:=bZ (And.intro bj (I.Z.trans C));clear aa ab ay I S bj aC bc bf ap av C D a7;dsimp only;go_wp2_with fail;refine P.Z.mono ?_;rintro z w2⟨rfl,F⟩;obtain rfl:=F.symm;clear P;dsimp only;go_wp2_with(at_builtin;refine cW _ rfl _ _ _ _ rfl _ _ _ _ rfl rfl am ?_;clear am);refine⟨⟨i+1,f2,s2,bd,M2,n++[u],some ⟨g5,0,none⟩,bu,by rw[aj];rfl,by go_num,by omega,by rw[aj,aD];omega,ax⟩,?_⟩;simp[intOf];omega
     all_goals
      have HE:=bZ ((ay.Z.fill aa.Z.ls.es (p:=um false q l [] f) (s:=s) (nd:=nd) (r:=.error 9) (tc:=9) (ts:=⟨#[]⟩) (I.Z.trans C) rfl).pre HB.Z);rw[bn]at HE;clear aa ab ay I S aC bt bP bc bf ap av C D;dsimp only;go_wp2_with fail;refine P.Z.mono ?_;rintro z w2⟨rfl,F⟩;obtain rfl:=F.symm;clear P;dsimp only;go_wp2;exact VN (v:=.agg #[.int .i64 9,.string ⟨#[]⟩]) Uy rfl (HE.Z.then ((VM _ _).alloc (af _) _))
  have co:¬(i:Int)<(l.length:Int):=R5;obtain⟨r,N⟩:=HI.Z;rw[aT R5,Ns]at N;have N:(um b q l [] f).run (Nn c) (s,nd)=((en n,f1),(s1,U)):=N;have h8:=r.ls.es.eight;have bm:(n.map (bY.wr 3)).length=n.length:=aH _;have bz:=bY.iK (m:=57500) (n.map (bY.wr 3)) (λx hx=>by
   obtain⟨u,hu,rfl⟩:=aE.1 hx;exact rJ (r.ls.l3 u hu))
  rw[bm]at bz;have cm:(cS (n.map (bY.wr 3))).length<=200*57501:=ah bz (Rt 57501 R5);have bl:=pq (l:=n.map (bY.wr 3)) (o:=oL) (c:=cL) (w0:=B4 wr) (w:=wr) (by rw[bm];exact r.ls.Nr.Nq h8) R5 R5;rw[bm]at bl;obtain⟨t,bD⟩:∃t:ba,(⟨(il (n.map (bY.wr 3))).toArray⟩:ba)=t:=⟨_,rfl⟩;have bC:t.1.1=il (n.map (bY.wr 3)):=by rw[<-bD]
  have bW:str (il (n.map (bY.wr 3)))=.string t:=by rw[<-bD];rfl
  rw[bW]at bl;have bk:=uj t wr h8 (by rw[VO,bC];unfold il;simp;omega);rw[bC,vE r.ls.l3,pY]at bk;obtain⟨tc,b5,bE⟩:=dw (en n);rw[bE]at bk;have bG:=bZ bl;have br:=bZ (bk.mono (λz w4 (K:z=.returned (.agg #[.int .i64 tc,.string b5])/\Xc wr w4)=>And.intro K.1 (And.intro (r.ls.mid.below K.2).zero (((r.ls.mid.below K.2).fill (r.ls.es.below K.2) N bE).pre HB.Z))));rw[bn]at br;clear r N h8 bm bz cm bl bD bC bW bk bE HI HD HY hs ao a8 D;go_wp2_with fail;refine bG.Z.mono ?_;rintro z w2⟨rfl,F⟩;obtain rfl:=F.symm;clear bG;dsimp only;go_wp2_with fail;refine br.Z.mono ?_;rintro z w4⟨rfl,hz,bN⟩;obtain⟨e0,e1,e2,e3,e4⟩:=cX hz;have b6:=bZ bN;clear hz bN br;dsimp only;go_wp2;exact VN (v:=.agg #[.int .i64 tc,.string b5]) Uy rfl b6.Z
end Ref
namespace Ref
variable{c:Cx}{b:Bool}{d:Nd}{q:V->Nat->Pe V}{it:Option V}{x:ba}{M:Nat->Prop}{p:Nat->Pe V}
def G5{Y:Nat}{v:V}{w:Xa}{s:LS}{nd:List (a_×Wo)}{f e:Nat}{m:Xb}(z:d.op=if b=true then 101 else 115)(D:d.y=Y)(n:∀u,L3 u->nY c Y (some u) (q u) 0)(C:∀u,L3 u->pC (q u) 0)(hx:Tx x v)(j:L3 v)(r:1<=e)(h:ES c s nd f m w M)(B:Pu c s nd (f+e))(hi:jP w M m it (f+e)):uo c b d q v x w M s nd f m:=by
 obtain⟨y⟩:=v;rcases y with i|a|l
 ·exact B5 hx j h rfl
 ·exact B5 hx j h rfl
 exact D' z D n C hx j r h B hi
def K4{x X:Nat}(hd:c.ns[x]?=some d)(m:d.op=if b=true then 101 else 115)(hx:d.x=X)(H:nY c X it p 0)(P:pC p 0){Y:Nat}(hy:d.y=Y)(T:∀u,L3 u->nY c Y (some u) (q u) 0)(ab:∀u,L3 u->pC (q u) 0):nY c x it (λf=>eT (p f) λv f=>match eS v with|.ok l=>um b q l [] f|.error e=>.ret (.error e,f)) 1:=by
 intro w M s nd f e vI h ak O hi;cases j:((p f).run (Nn c) (s,nd)).1.1 with
 |error ec =>
  refine B3 (P:=λf=>eT (p f) λv f=>match eS v with|.ok l=>um b q l [] f|.error e=>.ret (.error e,f)) hd (by rw[m];cases b<;>(unfold KY;decide)) hx H h O hi P j ?_;rcases Z:(p f).run (Nn c) (s,nd) with⟨⟨r,f1⟩,s1⟩;rw[Z]at j;cases j;exact fN Z
 |ok v =>
  obtain⟨g,ai,q0,q1,q2,q3,⟨z0,z1,z2,z3,z4,z5⟩,hM⟩:=h.begin hd;have B:=bZ (jw H d h O hi P);obtain⟨o,sx,xx,yy,zz,pp,pn,pc,al⟩:=d;simp only at m hx hy z0 z1 z2 z3 z4 z5 B;subst hx hy;have n:=bZ m;obtain⟨o1,o2,o3,o4,o5,o6,o7,o8,o9⟩:(o==118)=false/\(o==107)=false/\(o==110)=false/\(o==102)=false/\(o==123)=false/\(o==116)=false/\(o==49)=false/\(o==91)=false/\(o==63)=false:=by rw[n.Z];cases b<;>decide
  have S:=bZ j;have F:=bZ (And.intro T ab);clear h O hi H P j T ab m;unfold dV at q0 q1 z0 z1 z2 z3 z4 z5;unfold ptr at B ⊢;go_enter func196,ntmps196;go_wp2_with fail;refine B.Z.mono ?_;rintro G w1⟨r,f1,s1,am,M1,tc,ts,rfl,hF⟩;have j:=S.Z;rw[hF.run]at j;simp only at j;subst j;obtain⟨rfl,ad⟩:=lk hF.told;have C:=eI w1 0 ts;have U:=hF.es.below C;have V:=hF.mid.below C;obtain⟨n0,n1,n2,n3,n4,n5,n6⟩:=fH hF.node;have hv:=hF.l3 v rfl;have aa:=hF.run;have D:=bZ ((G5 (b:=b) (d:=⟨o,sx,X,Y,zz,pp,pn,pc,al⟩) (q:=q) n.Z rfl F.Z.1 F.Z.2 ad hv R5 U hF.pu (hF.its.below C)).mono (λG w4 he=>he.last (P:=eT (p f) λv f=>match eS v with|.ok l=>um b q l [] f|.error e=>.ret (.error e,f)) (s:=s) (nd:=nd) V (fT aa)));clear hF U V S B C aa F;unfold ptr at D;cases b with
  |true =>
   have m:o=101:=n.Z;subst m;clear n;dsimp only;go_wp2_with fail;refine D.Z.mono ?_;rintro G w4⟨Q,R,rfl,z,y⟩;obtain⟨I,J,K,L,N⟩:=cX z;have E:=bZ y;clear z y;dsimp only;go_wp2;exact VN (v:=.agg #[.int .i64 Q,.string R]) UT rfl E.Z
  |false =>
   have m:o=115:=n.Z;subst m;clear n;dsimp only;go_wp2_with fail;refine D.Z.mono ?_;rintro G w4⟨Q,R,rfl,z,y⟩;obtain⟨I,J,K,L,N⟩:=cX z;have E:=bZ y;clear z y;dsimp only;go_wp2;exact VN (v:=.agg #[.int .i64 Q,.string R]) UT rfl E.Z
end Ref
end
section
open bY
namespace Ref
variable{c:Cx}{x:Nat}{it:Option V}{p:Nat->Pe V}
def nY.of{d:Nat}{q:Nat->Pe V}(h:nY c x it p d)(e:∀f,p f=q f):nY c x it q d:=by
 have:p=q:=funext e;rw[<-this];exact h
def nY.up(h:nY c x it p 0)(d):nY c x it p d :=λw M s nd f e l h1 _ b j=>h w M s nd f e l h1 (ar _) b j
def B6:∀p:Pe V,eT p (λv f=>.ret (.ok v,f))=p
 |⟨.inl (.ok a,f)⟩=>rfl
 |⟨.inl (.error e,f)⟩=>rfl
 |⟨.inr (k,c)⟩=>by
  show Pg.ask k (λw=>(c w).bind _)=Pg.ask k c
  congr 1
  funext w
  exact B6 (c w)
def G6:pC (λf=>.ret (.ok (vn 0),f)) 0 :=⟨λf=>af _,λf v b=>(by cases b;exact vt R5 R5),λf=>iC _⟩
def Nu:wr 3 (vn 0)=[48]:=by
 rw[xo,o_ R5];show Lib.decDigits 0=[48];rw[Lib.decDigits,RA R5];rfl
def O9{n m:Nat}{b:Bool}{t:bY.T}{y:Nat}(P:∀(b) (t) (x) (it),iy n b t=true->LA t->nT c.ns m x t->(b=true->∃u,it=some u)->(∀u,it=some u->L3 u)->nY c x it (tr n t it) 0)(O:iy (n+1) b t=true)(J:LA t)(C:mZ c.ns (nT c.ns m) y t)(ai:t.cu≠1)(N:b=true->∃u,it=some u)(hit:∀u,it=some u->L3 u):nY c y it (BT n t it) 1:=by
 obtain⟨k1,k2,k3,k4,k5,X,k7,k8⟩:=BV O;have D:∀i,i<t.parts.length->¬(t.cu=15\/t.cu=16)->∀x,nT c.ns m x (t.cM i)->nY c x it (tr n (t.cM i) it) 0:=λi hi j x hx=>P b _ x it (zY O j _ (jO hi)) (J.cM (jO hi)) hx N hit;have E:∀i,i<t.parts.length->pC (tr n (t.cM i) it) 0:=λi hi=>nX n (J.cM (jO hi)) hit;have ab:t.cu=2\/t.cu=3\/t.cu=4\/t.cu=5\/t.cu=6\/t.cu=7\/t.cu=8\/t.cu=9\/t.cu=10\/t.cu=11\/t.cu=12\/t.cu=13\/t.cu=14\/t.cu=15\/t.cu=16:=R5;unfold mZ at C;rcases ab with j|j|j|j|j|j|j|j|j|j|j|j|j|j|j<;>simp only[j]at C k3<;>simp[jH]at k3
 ·obtain⟨d,v,h1,h2,l,r⟩:=C;exact(QU h1 h2 r 1).of (λf=>by simp[BT,j,l])
 ·obtain⟨d,h1,h2,l⟩:=C;have ad:=((J 1).1.2 j);exact(QZ h1 h2 l (ah (E_ ad) S4)).of (λf=>by simp[BT,j])
 ·obtain⟨d,h1,h2⟩:=C;obtain⟨u,rfl⟩:=N (k8 j);exact(Q0 h1 h2 1).of (λf=>by simp[BT,j])
 ·obtain⟨d,d0,a,z,h1,h2,r,B,F,Q,G,Z⟩:=C;have hp:=D 0 R5 R5 z Z;refine((D8 h1 (by rw[h2];unfold KY;decide) (by rw[h2];decide) r B ((QU F Q (G.trans Nu.symm) 0)) hp G6 (E 0 R5) 1 45 (.inl ⟨rfl,by decide⟩) h2).up 1).of (λf=>?_);simp[BT,fx,j];rfl
 ·exact((D 0 R5 R5 y C).up 1).of (λf=>by simp[BT,fx,j,B6])
 ·obtain⟨d,a,h1,h2,l,r⟩:=C;exact(P' h1 h2 l (D 0 R5 R5 a r) (E 0 R5)).of (λf=>by simp[BT,fx,j];rfl)
 ·obtain⟨d,aa,h1,h2,l,r,B⟩:=C;refine((O8 (E:=λu f=>tr n u it f) h1 h2 l r k4 (λk a u ha hu=>P b u a it (zY O R5 u (aJ hu)) (J.cM (aJ hu)) (B k a u ha hu) N hit) (λu hu=>nX n (J.cM hu) hit)).up 1).of (λf=>by simp[BT,j])
 ·obtain⟨d,a,K,Y,h1,h2,l,r,B,F,Q,G⟩:=C;exact((QE h1 h2 l (D 0 R5 R5 a F) (E 0 R5) r B (D 1 R5 R5 K Q) (D 2 R5 R5 Y G)).up 1).of (λf=>by simp[BT,fx,j];rfl)
 ·obtain⟨d,a,h1,h2,l,r,B⟩:=C;have L:d.s=⟨#[115,105,122,101]⟩:=pz l;exact((KZ h1 h2 r (D 0 R5 R5 a B) (E 0 R5) (G:=bY.size) (λv x w G I hx M=>by rw[L];exact D7 v x w G I hx M)).up 1).of (λf=>by simp[BT,fx,j])
 ·obtain⟨d,a,h1,h2,l,r,B⟩:=C;have L:d.s=⟨#[115,117,109]⟩:=pz l;exact((KZ h1 h2 r (D 0 R5 R5 a B) (E 0 R5) (G:=jW) (λv x w G I hx M=>by rw[L];exact G2 v x w G I hx M)).up 1).of (λf=>by simp[BT,fx,j])
 ·obtain⟨d,a,h1,h2,l,r,B⟩:=C;have L:d.s=⟨#[119,111,114,100]⟩:=pz l;exact((KZ h1 h2 r (D 0 R5 R5 a B) (E 0 R5) (G:=iu) (λv x w G I hx M=>by rw[L];exact D6 v x w G I hx M)).up 1).of (λf=>by simp[BT,fx,j])
 ·obtain⟨d,a,K,h1,h2,l,r,B,F⟩:=C;have T:KY d.op/\((d.op==49)=false/\(d.op==91)=false/\(d.op==63)=false/\(d.op==101)=false/\(d.op==115)=false):=by
   rw[h2];have R:=X j;simp only[aK,Sk,RM]at R;rcases R with e|e|e<;>rw[e]<;>(unfold KY;decide)
  exact((D8 h1 T.1 T.2 l r (D 0 R5 R5 a B) (D 1 R5 R5 K F) (E 0 R5) (E 1 R5) 13 t.op (.inr ⟨rfl,X j⟩) h2).up 1).of (λf=>by simp[BT,fx,j])
 ·obtain⟨d,a,K,h1,h2,l,r,B,F⟩:=C;exact((P_ h1 h2 l (D 0 R5 R5 a B) (E 0 R5) r (D 1 R5 R5 K F)).up 1).of (λf=>by simp[BT,j])
 all_goals
  obtain⟨d,a,K,h1,h2,l,r,B,F⟩:=C;obtain⟨o1,o2⟩:=Kr O R5;have U:=P b _ a it o1 (J.cM (jO R5)) B N hit;have V:=λu (hu:L3 u)=>P true _ K (some u) o2 (J.cM (jO R5)) F (λ_=>⟨u,rfl⟩) (λv I=>by cases I;exact hu);have S:=λu (hu:L3 u)=>nX n (t:=t.cM 1) (it:=some u) (J.cM (jO R5)) (λv I=>by cases I;exact hu)
  first
  |exact(K4 (b:=true) h1 h2 l U (E 0 R5) (q:=λu f=>tr n (t.cM 1) (some u) f) r V S).of (λf=>by simp[BT,j,um];rfl)
  |exact(K4 (b:=false) h1 h2 l U (E 0 R5) (q:=λu f=>tr n (t.cM 1) (some u) f) r V S).of (λf=>by simp[BT,j,um];rfl)
def D_(c):∀n m b t x it,iy n b t=true->LA t->nT c.ns m x t->(b=true->∃u,it=some u)->(∀u,it=some u->L3 u)->nY c x it (tr n t it) 0
 |0,_,_,_,_,_,h,_,_,_,_=>by cases h
 |n+1,0,_,_,_,_,_,_,h,_,_=>h.elim
 |n+1,m+1,b,t,x,it,D,C,l,E,hit=>by
  obtain⟨k1,k2,k3,k4,N,P,Q,R⟩:=BV D;unfold nT at l;by_cases j:t.cu=1
  ·rw[ag j]at l;obtain⟨d,a,J,h1,h2,z,B,L,M⟩:=l;have O:t.parts.length=2:=by rcases k3 with e|e;omega;rw[e,j];rfl
   have I:∀i,i<2->∀x,nT c.ns m x (t.cM i)->nY c x it (tr n (t.cM i) it) 0:=λi hi x hx=>D_ c n m b _ x it (zY D R5 _ (jO R5)) (C.cM (jO R5)) hx E hit;have F:∀i,i<2->pC (tr n (t.cM i) it) 0:=λi hi=>nX n (C.cM (jO R5)) hit;have r:=N j;have G:KY d.op/\((d.op==49)=false/\(d.op==91)=false/\(d.op==63)=false/\(d.op==101)=false/\(d.op==115)=false):=by
    rw[h2];simp only[aK,Sk,RM]at r;rcases r with e|e|e|e|e|e<;>rw[e]<;>(unfold KY;decide)
   exact(D8 h1 G.1 G.2 z B (I 0 R5 a L) (I 1 R5 J M) (F 0 R5) (F 1 R5) 1 t.op (.inl ⟨rfl,r⟩) h2).of (λf=>by
    have K:tr (n+1) t it f=fx (λu f=>tr n u it f) t f:=by
     show(if t.cu=1 then fx (λu f=>tr n u it f) t f else _)=_;exact ag j
    rw[K];simp[fx,j])
  rw[ae j]at l;obtain⟨d,y,h1,h2,z,B⟩:=l;exact(QY h1 h2 z (O9 (λb t x it=>D_ c n m b t x it) D C B j E hit)).of (λf=>(QB j it f).symm)
end Ref
end
section
open bY
open Tryz
namespace Ref
def K7(D n)(says:wI D n)(w s rn L)(h:fJ D s rn w L)(i:Nat)(p:a_×cC)(hp:s.ct[i]?=some p)(cd:bY.cv s.ct p.1=some p.2)(t)(ht:p.2.di=some t)(bD:p.1∉rn)(bl:∀k∈p.1::rn,k∈s.cm)(y){k1 k2 b1 b2:ba}{J I:Int}(hy:dm y=[.string k1,.string k2,.int .i64 J,.string b1,.int .i64 I,.string b2])(Y:hZ s)(g0:s.du.length<=1000)(ea:s.ct.length<=40)(bh:∀s' c,jk {s with du:=s.du++[y]} s' c->c<=400->hZ s'->Ph s'<=Ph {s with du:=s.du++[y]}->wH n s'):Calls prog 151 #[ptr D,.int .i64 i,.agg #[.string k1,.string k2,.int .i64 J,.string b1,.int .i64 I,.string b2]] w λe w'=>e=.returned (.tuple #[])/\fb (O2 D (f_ (cG n) p.1 t y s).2 rn i (f_ (cG n) p.1 t y s).1) w L w':=by
 obtain⟨es,fl,vA,vF,vB,vR,vN,h⟩:=h;have bn:Xc w (w.alloc (.cells #[.string k1,.string k2,.int .i64 J,.string b1,.int .i64 I,.string b2] 199)):=(VM _ w).alloc (af _) _;have h1:=h.below bn;obtain⟨e,g,bm,he,hE,rfl,hg,hc⟩:=h1.entry hp;obtain⟨xk,ct⟩:∃x:ba,str e.key=.string x:=⟨_,rfl⟩;have z0:=hc 0 (.string xk) (by rw[<-ct];rfl);simp only[aR]at z0;have z2:=hc 2 _ rfl;have z3:=hc 3 _ rfl;obtain⟨c0,c1,c2,c3,c4,c5,cf⟩:=h1.cells;have gF:=cj h1.eb;have hi:=(aA.1 hp).1;have gA:(i:Int)<(s.ct.length:Int):=R5;have h8:8<=w.1.size:=ah (h.cz _ h.here).1 (aF (h.cz.lt h.here));obtain⟨oN,cN,rfl⟩:=dD h1.runs;have cM:=bZ (λ(w1 w2:Xa) (g bm:Nat)=>h1.M_ y (w1:=w1) (w2:=w2) (g:=g) (cP:=bm));have HR:=bZ h1.runs;have am:(w.alloc (.cells #[.string k1,.string k2,.int .i64 J,.string b1,.int .i64 I,.string b2] 199)).1[w.1.size]?=some (.cells #[.string k1,.string k2,.int .i64 J,.string b1,.int .i64 I,.string b2] 199 (0,0)):=heap_alloc_new w _;have f0:(w.alloc (.cells #[.string k1,.string k2,.int .i64 J,.string b1,.int .i64 I,.string b2] 199)).cell? ⟨w.1.size,0,none⟩=some (.string k1):=by simp only[World.cell?,am];rfl
 have f1:(w.alloc (.cells #[.string k1,.string k2,.int .i64 J,.string b1,.int .i64 I,.string b2] 199)).cell? ⟨w.1.size,1,none⟩=some (.string k2):=by simp only[World.cell?,am];rfl
 have f2:(w.alloc (.cells #[.string k1,.string k2,.int .i64 J,.string b1,.int .i64 I,.string b2] 199)).cell? ⟨w.1.size,2,none⟩=some (.int .i64 J):=by simp only[World.cell?,am];rfl
 have f3:(w.alloc (.cells #[.string k1,.string k2,.int .i64 J,.string b1,.int .i64 I,.string b2] 199)).cell? ⟨w.1.size,3,none⟩=some (.string b1):=by simp only[World.cell?,am];rfl
 have f4:(w.alloc (.cells #[.string k1,.string k2,.int .i64 J,.string b1,.int .i64 I,.string b2] 199)).cell? ⟨w.1.size,4,none⟩=some (.int .i64 I):=by simp only[World.cell?,am];rfl
 have f5:(w.alloc (.cells #[.string k1,.string k2,.int .i64 J,.string b1,.int .i64 I,.string b2] 199)).cell? ⟨w.1.size,5,none⟩=some (.string b2):=by simp only[World.cell?,am];rfl
 have f6:=cj am;have S:e.kept=p.2.kept.isSome:=by
  have:=hE.kept.is;rw[ae bD]at this;exact this
 have ak:xk.1.1=p.1:=by rw[<-hE.key];exact fO ct
 have cI:=bZ (And.intro S ak);clear h h1 hc hE am S ak;unfold ptr;go_enter func151,ntmps151
 go_upto_region 2 with fail
 generalize fY:w.alloc (.cells #[.string k1,.string k2,.int .i64 J,.string b1,.int .i64 I,.string b2] 199)=W1 at *
 go_cut []from 18 to 27 (λG=>Hid (∃L1 cB,gj G D {s with du:=s.du++[y]} rn L1 es fl (.slice (some ⟨g,0,none⟩) s.ct.length bm) vF vB vR cB/\(∀k,L1 k->L k\/w.1.size<=k)/\(∀k,L k->L1 k)/\eu L w G))
 case first =>
  go_region_law (refine jq rfl (.tmp 22) (.tmp 24) 99 rfl 199 _ 6 80 underlying99 Kx P6 S4 (.slice oN s.du.length cN) _ (s.du.flatMap dm) rfl (VY (w:=W1.drewN _) HR.Z _) ⟨W1.1.size,0,none⟩ 1 [.string k1,.string k2,.int .i64 J,.string b1,.int .i64 I,.string b2] rfl rfl (jQ _ _ _ _) UF R5 Th Tc ?_;intro g1 dj w3 ho d5 ej hold;obtain⟨K,q2,q3,⟨v0,hr⟩,gb,gR⟩:=cM.Z _ w3 g1 dj (lU _ _ _) (by rw[hy];exact ho) d5 ej hold;have HQ:=bZ (And.intro K (And.intro q2 q3)))
  all_goals
   go_wp2
   go_meet
   case rel=>exact bZ ⟨_,_,HQ.Z.1,λk b=>(by rcases HQ.Z.2.1 k b with h|h;exact .inl h;exact .inr (by have:=bn.size;omega)),λk b=>.inl b,(eu.below bn).trans HQ.Z.2.2 (λk b=>.inl b)⟩
 case rest =>
  obtain⟨L1,cB,h2,dv,dx,dr⟩:=hcut.Z;obtain⟨e2,g2,fc,dQ,bO,e3,gg,bv⟩:=h2.entry hp;cases e3;obtain rfl:e=e2:=aB (he.symm.trans dQ);have d3:es.length=s.ct.length:=h2.jN;obtain⟨fk,fr,bV⟩:=cE h2.all (g:=g) rfl;have z2:=bv 2 _ rfl;have z3:=bv 3 _ rfl;have z4:=bv 4 _ rfl;have f9:∀j,wc.frozen? ⟨g,j,none⟩=false:=λj=>by
   rcases h2.all.2 with⟨l,_⟩|⟨g',cp,bM,l,_,M,_⟩
   ·cases l
   have a3:some g=some g':=congrArg Value.ownBlock l;cases a3;simp[World.frozen?,M]
  obtain⟨t',C,m,o,cR,r1,r2,r3,r4,r5,r6,r7,r8⟩:∃t' C m o c,p.2.di=some t'/\e.text=p.2.came/\e.fc=.slice (some o) C.length c/\xB wc 8 e.fc C/\nT C m (C.length-1) t'/\0<C.length/\C.length<=2000/\iy (hM t') false t'=true:=by
   rcases bO.fc with⟨l,_⟩|l
   ·rw[ht]at l;cases l
   exact l
  obtain rfl:t=t':=aB (ht.symm.trans r1);obtain⟨c0,c1,c2,c3,c4,c5,cf⟩:=h2.cells;have g7:=cj h2.eb;have d9:g≠D:=λe=>by rw[e,h2.eb]at bV;cases bV
  have g3:D≠g:=λe=>d9 e.symm;have ce:=h2;rw[<-d3]at ce;obtain⟨o1,o2⟩:=ce.Kv hp he;rw[r3]at z2 r4;have eD:C.length<=2000:=r7;have HO:=bZ (And.intro o1 o2);have cU:=bZ h2.cz;have H2:=bZ (And.intro r4 (And.intro r5 (And.intro r6 (And.intro r8 bO))));have HP:=bZ (And.intro dv (And.intro dx dr));have e7:((C.length-1:Nat):Int)=(C.length:Int)-1:=R5;have bg:LA t:=Y.di p.1 p.2 t cd ht
  apply_assumption
  go_upto_region 7 with fail
  generalize dz:(wc.setCell ⟨g,i*7+3,none⟩ (.bool false)).setCell ⟨g,i*7+4,none⟩ (.slice none 0 0)=Q at *;have ck:Q.1.size=wc.1.size:=by rw[<-dz];simp
  have ey:xB Q 8 (.slice (some o) C.length cR) C:=H2.Z.1.st (KN.mK cU.Z HO.Z.2);have d4:=Ky (c:=⟨D,Q.1.size,p.1::rn,.slice (some o) C.length cR,C,{s with du:=s.du++[y]},n,says,bh,bl⟩) (s:={s with du:=s.du++[y]}) (w:=Q) (L:=L1) ⟨_,_,_,_,_,_,_,HO.Z.1⟩ rfl ey;have ao:=D_ ⟨D,Q.1.size,p.1::rn,.slice (some o) C.length cR,C,{s with du:=s.du++[y]},n,says,bh,bl⟩ (hM t) m false t (C.length-1) none H2.Z.2.2.2.1 bg H2.Z.2.1 (λh=>by cases h) (λu hu=>by cases hu) _ _ _ [] 400 0 _ d4 (af _) ⟨⟨0,jk.refl _ 0,by omega,af _⟩,⟨Y.val,Y.di,Y.kept,Y.done⟩,af _,BR.nil _⟩ (GR _ _ R5);rw[e7,ck]at ao;unfold qF at ao;obtain⟨R,hR⟩:∃R,(tr (hM t) t none 400).run (ep (cG n)) ({s with du:=s.du++[y]},[])=R:=⟨_,rfl⟩;simp only[Nn]at ao;rw[hR]at ao;obtain⟨F,O,cm⟩:=dw R.1.1;rw[cm]at ao;unfold ptr GQ at ao;have bJ:=bZ ao;have HR:=bZ (And.intro hR cm);go_wp2_with(go_at_call 196;refine bJ.Z.mono ?_;rintro er U ⟨rfl,dy⟩);obtain⟨M4,bP,bS,bT,bR⟩:=dy;have bF:=(sK (A:=L3) ⟨D,Q.1.size,p.1::rn,.slice (some o) C.length cR,C,{s with du:=s.du++[y]},n,says,bh,bl⟩ 0 (tr (hM t) t none 400) 400 {s with du:=s.du++[y]} [] ⟨⟨0,jk.refl _ 0,by omega,af _⟩,⟨Y.val,Y.di,Y.kept,Y.done⟩,af _,BR.nil _⟩ ((nX _ bg (λv hv=>by cases hv)).sp 400) ((nX _ bg (λv hv=>by cases hv)).pp 400) ((nX _ bg (λv hv=>by cases hv)).pe 400));simp only[Nn]at bF
  rw[HR.Z.1]at bF;have bp:=bP.below (eI U F O);have bu:=oc U F O;have V:=bZ (And.intro (eI U F O) bp.cz);obtain⟨L4,vQ,K,q2,q3,q4,q5,q6,q7⟩:=bp.parts;obtain⟨ab,bN,e8,cA,cz,cH,cF,K⟩:=K;have K:gj (h_ U F O) D R.2.1 (p.1::rn) L4 ab bN e8 cA cz cH cF:=K;obtain⟨bj,e0,gN,gP⟩:=bF;obtain⟨mE,n1,n2,n3⟩:=bj.p8;obtain⟨p',Z,T,eW⟩:=yA (h:=s.ct) n1.dd hp;obtain⟨E,B,dk,dR,bQ,co,gi,bw⟩:=K.entry Z;have bH:dY R.1.1=[.int .i64 F,.string O]:=by
   have:=HR.Z.2;generalize R.1.1=r at this;cases r<;>(cases this;rfl)
  have ef:R.2.1.ct.length=ab.length:=K.jN.symm;rw[ef]at co;subst co;have hW:=K.Kw Z dR (by rw[T];simp) R.1.1 bH;obtain⟨e9,c7,c8,c9,dg,di,ff⟩:=K.cells;obtain⟨b5,b6,b7,b8,b9⟩:=cX (oc U F O);obtain⟨y5,z5,cy⟩:∃y z,dY E.w=[y,z]:=by
   obtain⟨k1,k2,k3,k4,k5,w5⟩:=E;cases w5<;>exact⟨_,_,rfl⟩
  have x5:=bw 5 y5 (by show(dY E.w)[0]?=_;rw[cy];rfl);have x6:=bw 6 z5 (by show(dY E.w)[1]?=_;rw[cy];rfl);have xf:∀j,(h_ U F O).frozen? ⟨B,j,none⟩=false:=λj=>by
   rcases K.all.2 with⟨l,_⟩|⟨g',cp,bM,l,_,M,_⟩
   ·cases l
   have a3:some B=some g':=congrArg Value.ownBlock l;cases a3;simp[World.frozen?,M]
  have gx:(i:Int)<(ab.length:Int):=by rw[K.jN];have:=(aA.1 Z).1;omega
  have gE:ab.length<=40:=by
   have h1:=congrArg List.length n1.dd;unfold bY.dd at h1;rw[aH,aH]at h1;rw[K.jN,h1];exact ea
  have HW:=bZ hW;have aa:=bZ (And.intro K (And.intro q2 (And.intro q4 (And.intro q5 (And.intro q6 q7)))));have bd:=bZ (And.intro bS (And.intro bT bR));clear hW K q2 q4 q5 q6 q7 bS bT bR c7 c8 c9 dg di bP bp bw z2 z3 z4 c0 cf bJ;change Code.wp _ _ _ _ (h_ U F O);generalize h_ U F O=W5 at *;generalize wc=Wc at *
  go_cut []from 69 to 76 (λG=>Hid (Below (W5.setCell ⟨B,i*7+5,none⟩ (.int .i64 F)).1.size ((W5.setCell ⟨B,i*7+5,none⟩ (.int .i64 F)).setCell ⟨B,i*7+6,none⟩ (.string O)) G))
  case first =>
   go_region
   all_goals
    go_wp2
    go_meet
    case rel=>exact bZ ((VM _ _).drew)
  case rest =>
   generalize wc=G at *;have ap:Hid ((∀k,M4 k->(L1 k\/k=Q.1.size)\/(GQ Q (.slice (some o) C.length cR)).1.size<=k)/\(∀k,(L1 k\/k=Q.1.size)->M4 k)/\eu (λk=>L1 k\/k=Q.1.size) (GQ Q (.slice (some o) C.length cR)) U):=bZ (by rw[ck];exact bd.Z);have aC:f_ (cG n) p.1 t y s=ia p.1 (R.1.1,R.2):=by
    unfold f_ bY.prog;rw[Pg.sf,HR.Z.1]
   have bc:gT R.1.1=decide (F=12):=by
    have:=HR.Z.2;generalize R.1.1=r at this;cases r with
    |ok v=>cases this;rfl
    |error c =>
     cases this;show(c==12)=decide ((c:Int)=12);by_cases hc:c=12
     ·subst hc;rfl
     rw[beq_false_of_ne hc,aN R5]
   have ad:Below ((W5.setCell ⟨B,i*7+5,none⟩ (.int .i64 F)).setCell ⟨B,i*7+6,none⟩ (.string O)).1.size ((W5.setCell ⟨B,i*7+5,none⟩ (.int .i64 F)).setCell ⟨B,i*7+6,none⟩ (.string O)) G:=hcut.Z.mono S5;have P:=HW.Z.1.below ad;have N:eu L4 W5 G:=HW.Z.2.trans (eu.below ad) (λk b=>.inl b);have em:¬L4 U.1.size:=λhl=>by
    obtain⟨_,cs,ty,fz,M,hty⟩:=aa.Z.1.cz _ hl;rw[bu]at M;cases M;exact hty.QA rfl
   obtain⟨y0,y1,y2,y3,y4⟩:=cX ((N.block _ (cj bu) em).trans bu);obtain⟨e6,g6,fd,bW,dp,cq,gr,bx⟩:=P.entry Z;have d7:some B=some g6:=congrArg Value.ownBlock cq;cases d7;clear cq;have bE:=bh R.2.1 mE n1 R5 bj.fs bj.ph;have a8:i<ab.length:=R5;rw[Q8 a8]at bW;obtain rfl:=aB bW;have bC:(R.2.1.ct.map (·.1)).Nodup:=aa.Z.1.nodup;have cc:cK R.2.1.ct p.1=p.2.kept:=by
    rw[<-HR.Z.1];refine(Nc (s:={s with du:=s.du++[y]}) (bl p.1 S5)).trans ?_;show cK s.ct p.1=_;unfold cK;rw[cd];rfl
   have b4:(dc R.2.1.jr).length<=1000000000000000000:=ah (aI _ _) bE.ph;have eb:p.1.length<=8:=bE.hl.key p.1 (by rw[<-T,lf (k:=p'.1) (a:=p'.2) bC Z];rfl);obtain⟨S,ak⟩:=cI.Z;by_cases bf:F=12
   ·subst bf;have bk:gT R.1.1=true:=by rw[bc];rfl
    have a0:=gj.Kz (p:=p') (rn:=rn) (by rw[T];exact P) Z (by rw[T];exact bD);cases b:e.kept with
    |false =>
     have ec:p.2.kept=none:=by
      rw[b]at S;cases hq:p.2.kept with
      |none=>rfl
      |some _=>rw[hq]at S;cases S
     have ca:cK R.2.1.ct p.1=none:=cc.trans ec;have b3:fb (O2 D (f_ (cG n) p.1 t y s).2 rn i (f_ (cG n) p.1 t y s).1) w L G:=by
      rw[aC,KG bk ca];have hs:bY.da R.2.1.ct p'.1 none=R.2.1.ct:=zZ bC Z (by have:=Ff bC Z;rw[T]at this;exact this.symm.trans ca);rw[hs]at a0;exact wL HP.Z HO.Z.2 (n_ _ _) ap.Z V.Z.1 V.Z.2 a0 aa.Z.2.1 N (Q8 a8) rfl
     have cL:=bZ b3;clear aC bc S ak b3 a0 P N aa HW bd ap V HP HO hcut ad
     apply_assumption
     go_wp2_with fail
     (try simp only[Exit.inBlock,Exit.then])
     refine VN (V1 rfl _ _ _) rfl ?_;exact⟨rfl,cL.Z⟩
    |true =>
     have cb:(cK R.2.1.ct p.1).isSome=true:=by rw[cc,<-S,b]
     have cn:(⟨#[108,111,115,101,32]⟩++xk:ba).1.1=[108,111,115,101,32]++p.1:=by rw[dI,ak]
     have hw:xk.size<=8:=by rw[VO,ak];exact eb
     have hm:(⟨#[108,111,115,101,32]⟩++xk:ba).size=5+xk.size:=TY;have bI:=(yz G D _ rn L4 (⟨#[108,111,115,101,32]⟩++xk) a0 R5 b4).mono (R':=λe w'=>e=.returned (.tuple #[])/\fb (O2 D (f_ (cG n) p.1 t y s).2 rn i (f_ (cG n) p.1 t y s).1) w L w') (λe w' hq=>by
      obtain⟨rfl,h1,h2⟩:=hq;refine⟨rfl,?_⟩;rw[aC,KE bk cb];rw[cn,T]at h1;exact wL HP.Z HO.Z.2 (n_ _ _) ap.Z V.Z.1 V.Z.2 h1 aa.Z.2.1 (N.trans h2 (λk b=>.inl b)) (Q8 a8) rfl)
     unfold ptr at bI;have cY:=bZ bI;have f7:¬9223372036854775807<5+xk.size:=R5;have hh:(⟨#[108,111,115,101,32]⟩:ba).size=5:=rfl;clear aC bc S ak cn cb bI a0 P N aa HW bd ap V HP HO hcut ad
     apply_assumption
     go_wp2_with(go_at_call 105;refine cY.Z.mono ?_;rintro ew w9 ⟨rfl,bq⟩)
     (try simp only[Exit.inBlock,Exit.then])
     refine VN (V1 rfl _ _ _) rfl ?_;exact⟨rfl,bq⟩
   have bk:gT R.1.1=false:=by rw[bc,aN bf]
   have f8:decide (F=12)=false:=aN bf;have gL:(F==12)=false:=az.2 bf;obtain⟨J,I,a4,a5,a6,a7⟩:=aa.Z;have a4:Wc.1.size<W5.1.size:=a4;have a5:¬L4 Wc.1.size:=a5;have q3:W5.cell? ⟨Wc.1.size,1,none⟩=some vQ:=q3;obtain⟨oQ,X,rfl⟩:=dD a7;have gU:G.cell? ⟨Wc.1.size,1,none⟩=some (.slice oQ R.2.2.length X):=(VS (N.block _ a4 a5)).trans q3;have gW:Wc.1.size<G.1.size:=aw a4 N.size;have bU:gj G D R.2.1 (p'.1::rn) L4 (ab.set i {E with w:=R.1.1}) bN (.slice (some ⟨B,0,none⟩) (ab.set i {E with w:=R.1.1}).length dk) cA cz cH cF:=by
    rw[aY,T];exact P
   have av:=cJ a7 (λg hg cs fz M=>(N.block g (cj M) (a6 g hg).2).trans M);have eD:R.2.2.length<=400:=R5;have iE:=gj.P7 bU Z (Q8 a8) (by rw[T];exact bD) av (λk b=>(a6 k b).2) R5;have x3:=bx 3 _ rfl;have x4:=bx 4 _ rfl;obtain⟨d0,_,_,_,_,_,df⟩:=P.cells;have g8:=cj P.eb;obtain⟨fm,fy,bt⟩:=cE P.all (g:=B) rfl;have d6:B≠D:=λe=>by rw[e,P.eb]at bt;cases bt
   have g5:D≠B:=λe=>d6 e.symm;have gV:Wc.1.size≠B:=λe=>a5 (by rw[e];exact P.dQ B (.inl rfl));have ga:∀j,G.frozen? ⟨B,j,none⟩=false:=λj=>by
    rcases P.all.2 with⟨l,_⟩|⟨g',cp,bM,l,_,M,_⟩
    ·cases l
    have a3:some B=some g':=congrArg Value.ownBlock l;cases a3;simp[World.frozen?,M]
   have bB:E.key=p.1:=bQ.key.trans T;obtain⟨hD,cw⟩:∃x:ba,str p.1=.string x:=⟨_,rfl⟩;obtain⟨hG,cx⟩:∃x:ba,str E.text=.string x:=⟨_,rfl⟩;obtain⟨o4,n4,c4,bG⟩:∃o n c,E.fc=.slice (some o) n c:=by
    rcases bQ.fc with⟨l,_⟩|⟨t',hB,m',o',c',_,_,l,_⟩
    ·rw[eW,ht]at l;cases l
    exact⟨_,_,_,l⟩
   have a9:=BS (kY:=p.1) (h:=R.2.1.ct) (w:=R.1.1) R5 e0 bj.QC bE.hl.len (by omega:R.2.2.length<=401);obtain⟨kt,ax⟩:∃x:ba,str (dA p.1 ⟨R.1.1,R.2.2⟩)=.string x:=⟨_,rfl⟩;have ay:=fO ax;have gB:kt.size<=3000000:=by rw[VO,ay];exact a9
   have bL:=bZ (And.intro iE (And.intro av N));have HA:=bZ (And.intro I a6);have bK:=bZ (And.intro a9 (And.intro ax ay));have cP:=bZ aC;clear aC bc S ak iE av N P bU J I a6 a7 a9 ax ay aa hcut ad HW dp bx bt
   apply_assumption
   go_upto_region 13 with fail
   go_cut []from 92 to 102 (λwy=>Hid (Below G.1.size ((G.setCell ⟨B,i*7+3,none⟩ (.bool true)).setCell ⟨B,i*7+4,none⟩ (.slice oQ R.2.2.length X)) wy))
   case first =>
    go_region
    all_goals
     go_wp2
     go_meet
     case rel=>exact bZ ((VM _ _).drew)
   case rest =>
    generalize wc=wy at *;have bo:Below ((G.setCell ⟨B,i*7+3,none⟩ (.bool true)).setCell ⟨B,i*7+4,none⟩ (.slice oQ R.2.2.length X)).1.size ((G.setCell ⟨B,i*7+3,none⟩ (.bool true)).setCell ⟨B,i*7+4,none⟩ (.slice oQ R.2.2.length X)) wy:=hcut.Z.mono S5;obtain⟨⟨cg,ch⟩,av,N⟩:=bL.Z;have h9:=cg.below bo;have bA:eu L4 G wy:=ch.trans (eu.below bo) (λk b=>.inl b);have bX:eu (λk=>L4 k\/(Value.slice oQ R.2.2.length X).ownBlock=some k) W5 wy:=by
     have l:=N.trans bA (λk b=>.inl b);exact⟨l.os,l.tape,l.output,l.size,λk b hn=>l.block k b (λe=>hn (.inl e))⟩
    have cl:=cJ av (λg hg cs fz M=>(bA.block g (cj M) (HA.Z.2 g hg).2).trans M);have bz:((ab.set i {E with w:=R.1.1}).set i {E with w:=R.1.1,kept:=true,np:=.slice oQ R.2.2.length X})[i]?=some {E with w:=R.1.1,kept:=true,np:=.slice oQ R.2.2.length X}:=Q8 (by rw[aY];exact a8);obtain⟨g9,fe,e5,gv,ai⟩:=fK nZ S4 h9.all bz;have d8:some B=some g9:=congrArg Value.ownBlock e5;cases d8;have s0:=ai 0 (str E.key) rfl;have s1:=ai 1 (str E.text) rfl;have s2:=ai 2 E.fc rfl;have s3:=ai 3 (.bool true) rfl;have s4:=ai 4 (.slice oQ R.2.2.length X) rfl;have s5:=ai 5 (.int .i64 F) (by show(dY R.1.1)[0]?=_;rw[bH];rfl);have s6:=ai 6 (.string O) (by show(dY R.1.1)[1]?=_;rw[bH];rfl);simp only[aR]at s0;rw[bB,cw]at s0;rw[cx]at s1;rw[bG]at s2;obtain⟨fo,_⟩:=h9.cells;have ha:=cj h9.eb;obtain⟨a9,ax,ay⟩:=bK.Z;have hK:=GV wy E.key E.text E.fc true (.slice oQ R.2.2.length X) R.1.1 R.2.2 (by rw[bG];rfl) cl (by rw[bB];omega) R5 HR.Z.2;rw[bB,cw,cx,bG,ax]at hK;have br:∀w8,Xc wy w8->Calls prog 105 #[ptr D,.string kt] w8 λe w'=>e=.returned (.tuple #[])/\fb (O2 D (f_ (cG n) p.1 t y s).2 rn i (f_ (cG n) p.1 t y s).1) w L w':=λw8 ad=>by
     refine b_ (yz w8 D _ rn _ kt (h9.below ad) R5 b4) λw' ⟨h1,h2⟩=>?_;refine⟨rfl,?_⟩;rw[cP.Z,KH bk];rw[ay]at h1;rw[T]at h1;refine wL HP.Z HO.Z.2 (n_ _ _) ap.Z V.Z.1 V.Z.2 h1 (λk b=>?_) ((bX.trans (eu.below ad) (λk b=>.inl b)).trans h2 (λk b=>.inl b)) bz rfl;rcases b with b|b
     ·exact HA.Z.1 k b
     exact(HA.Z.2 k b).1
    unfold ptr at br;have HK:=bZ hK;have cV:=bZ br;clear hK br h9 bA bX cl cg ch av N bo hcut ai bz a9 ax ay bL HA bK HP HO ap bd V
    apply_assumption
    go_wp2_with(first|(go_at_call 116;refine HK.Z.mono ?_;rintro ek w8 ⟨rfl,dn⟩;have c6:=bZ (cV.Z w8 dn))|(go_at_call 105;refine c6.Z.mono ?_;rintro ew w9 ⟨rfl,bq⟩))
    go_end0
    exact⟨rfl,bq⟩
end Ref
end
