/- Out of A11. -/
import Derived.Test.YtpekpdimdelncaaGreatDoorP36
set_option linter.unusedVariables false
set_option linter.unusedSimpArgs false
set_option maxRecDepth 100000
set_option maxHeartbeats 8000000
set_option linter.defProp false
namespace Go.Proofs.YtpekpdimdelncaaGreatDoor
open Go.RowKit Go.Shelf
section
open bY
open Tryz
namespace Ref
variable{B f k x:Nat}{M:Nat->Prop}{v vI:Xa}{l:List (a_)}{c:Cx}{s:LS}{it:Option V}{cs:Array Xa}{fz:Nat×Nat}{d:Nd}{b:List Nat}{E:bY.T->Nat->Pe V}{ts:List bY.T}
structure v7(B:Nat)(w:QV)(M:Nat->Prop)(v:Xa)(l:List (a_)):Prop where
 row:dm w v l
 new:∀g,v.ownBlock=some g->B<=g
 no:∀g,v.ownBlock=some g->¬M g
def v7.nil(B:Nat)(w:QV)(M:Nat->Prop):v7 B w M (.slice none 0 0) []:=⟨⟨rfl,.inl ⟨rfl,rfl⟩⟩,(λg e=>by cases e),(λg e=>by cases e)⟩
def v7.st{w w':QV}{j:Nat->Prop}(h:v7 B w M v l)(hF:ed M w w')(hM:∀k,j k->M k\/w.1.size<=k):v7 B w' j v l:=by
 refine⟨cD h.row (λg e cs fz hb=>(hF.block g (cj hb) (h.no g e)).trans hb),h.new,λg e m=>?_⟩;rcases hM g m with h1|h1
 ·exact h.no g e h1
 have:=(UH h.row g e).2;omega
def v7.below{w w':QV}(h:v7 B w M v l)(e:Xb w w'):v7 B w' M v l:=h.st (ed.below e) (λ_ h=>.inl h)
structure Gw(v:Xa)(w w':QV):Prop where
 ot:ed (λk=>v.ownBlock=some k) w w'
 ty:∀g,v.ownBlock=some g->∃cs fz,w.1[g]?=some (.cells cs 9 fz)
def Gw.at{v:Xa}{w w':QV}(h:Gw v w w'){k:Nat}{cs:Array Xa}{t:TypeId}{fz:Nat×Nat}(j:w.1[k]?=some (.cells cs t fz))(m:t≠9):w'.1[k]?=some (.cells cs t fz):=by
 refine(h.ot.block k (cj j) (λe=>?_)).trans j;obtain⟨cs',n,hb⟩:=h.ty k e;rw[j]at hb;cases hb;exact m rfl
def Gw.kn{w w':QV}(h:Gw v w w'):KN w w':=λk cs t fz j m=>h.at j (λe=>by rcases m with rfl|rfl<;>cases e)
def Gw.es{w w':QV}(h:Gw v w w'){nd:List (a_×Wo)}(j:ES c s nd f vI w M)(n:∀g,v.ownBlock=some g->¬M g):ES c s nd f vI w' M :=j.st (λk m=>h.ot.block k (j.ct.lt m) (λe=>n k e m)) h.kn
def Gw.mid{w W n:QV}{m:Nat->Prop}(h:Gw v W n)(j:uY w M W m)(u:∀g,v.ownBlock=some g->w.1.size<=g):uY w M n m :=⟨j.Oe,j.Z,⟨h.ot.os.trans j.ot.os,h.ot.tape.trans j.ot.tape,h.ot.output.trans j.ot.output,ah j.ot.size h.ot.size,λk p r=>(h.ot.block k (aA p j.ot.size) (λe=>by have:=u k e;omega)).trans (j.ot.block k p r)⟩,h.at j.zero RZ,j.no⟩
def Gw.its{w w':QV}(h:Gw v w w')(hi:jF w M vI it f)(n:∀g,vI.ownBlock=some g->v.ownBlock≠some g):jF w' M vI it f:=by
 obtain⟨l,h1,h2,e,j⟩:=hi;exact⟨l,cD h1 (λg m cs fz hb=>(h.ot.block g (cj hb) (n g m)).trans hb),h2,e,j⟩
def v7.push{w:QV}(h:v7 B w M v l)(hM:Typed w M)(C:8<=w.1.size)(D:B<=w.1.size)(x:ba)(z:l.length<=10000000):∃g r w',(Builtin.append_ #[40,40] 40 #[v,.slice (some ⟨w.1.size,0,none⟩) 1 1]).run prog (w.alloc (.cells #[.string x] 9))=.ok (.slice (some ⟨g,0,none⟩) (l.length+1) r) w'/\v7 B w' M (.slice (some ⟨g,0,none⟩) (l.length+1) r) (l++[x.1.1])/\Gw v w w'/\(v.ownBlock=some g\/w.1.size<=g):=by
 have m:Below _ w (w.alloc (.cells #[.string x] 9)):=(Uz _ w).alloc (af _) _;have h1:=h.below m;obtain⟨g,r,w',G,F,n,j,hold⟩:=iE 40 40 9 _ 1 16 underlying40 qf rfl RZ v _ _ h1.row ⟨w.1.size,0,none⟩ 1 [.string x] rfl (cell_one_new _ _ _) (λu hu=>by
  simp at hu;rw[hu];rfl) RM R6 (ah C m.size)
 refine⟨g,r,w',G,⟨?_,λk p=>?_,λk p y=>?_⟩,⟨⟨n.os,n.tape,n.output,ah m.size n.size,λk p z=>(n.block k (aA p m.size) (λe=>z e.symm)).trans (m.block k p)⟩,λg n=>cz h.row n⟩,j.imp id (λe=>by rw[e];exact m.size)⟩
 ·unfold dm;rw[aj,aV];show w'.ownsRow 8 9 1 _ _ (l.map str++[str x.1.1]);rw[dF];exact F
 ·cases p;rcases j with j|j
  ·exact h.new _ j
  rw[j];exact ah D m.size
 cases p;rcases j with j|j
 ·exact h.no _ j y
 have h1:g<w.1.size:=hM.lt y;rw[j]at h1;have:=m.size;omega
def Bn(w:QV):QV:={ w with heap:=w.1.extract 0 8 }
def v7.Mo{w:QV}(h:v7 B w M v l)(e:8<=w.1.size):iO (Bn w) w v l:=by
 have hs:(Bn w).1.size=8:=by unfold Bn;simp;omega
 refine⟨h.row,λg j=>by rw[hs];exact(UH h.row g j).1,⟨rfl,rfl,rfl,by rw[hs];exact e,λk m=>?_⟩⟩;rw[hs]at m;show w.1[k]?=(w.1.extract 0 8)[k]?;rw[Array.getElem?_extract,ag RM];simp
structure OW(c:Cx)(w:QV)(M:Nat->Prop)(d:Nd)(it:Option V)(vI:Xa)(e nb:Nat)(wr:QV)(v:Xa)(k f1:Nat)(s1:LS)(nd1:List (a_×Wo))(M1:Nat->Prop)(acc:List V):Prop where
 len:acc.length=k
 es:ES c s1 nd1 f1 vI wr M1
 mid:uY w M wr M1
 pu:Pu c s1 nd1 (f1+e)
 its:jF wr M1 vI it (f1+e)
 l3:∀x∈acc,L3 x
 node:wr.1[nb]?=some (.cells #[.int .u8 d.op,.string d.s,.int .i64 d.x,.int .i64 d.y,.int .i64 d.z,.slice d.p d.pn d.pc] 147 (0,0))
 Mp:v7 w.1.size wr M1 v (acc.map (bY.wr 3))
def v8{nd:List (a_×Wo)}{w:QV}(h:ES c s nd f vI w M){t:TypeId}(e:w.1[k]?=some (.cells cs t fz))(m:¬L8 t):¬M k:=λj=>by
 obtain⟨_,cs',t',n,h1,h2⟩:=h.ct k j;rw[e]at h1;cases h1;exact m h2
def rA:¬L8 147:=λh=>h.no (.inl rfl)
def Gd:¬L8 166:=λh=>h.Pp rfl
def Ge(w:QV)(c:Int)(t:ba):(gO w c t).1.size=w.1.size+1:=by unfold gO;simp
def ES.item{nd:List (a_×Wo)}{w:QV}(h:ES c s nd f vI w M){a:Nat}(hd:c.ns[x]?=some d)(p:d.all=b.map (λ(a:Nat)=>(a:Int)))(r:b[k]?=some a):∃g,d.p=some ⟨g,0,none⟩/\g<w.1.size/\w.cell? ⟨g,k,none⟩=some (.int .i64 (a:Int)):=by
 obtain⟨L,z,_,_,_,_,_,_,_,_,_,n⟩:=h;obtain⟨h1,h2⟩:=n.all d (aL hd);have j:(d.all.map λa=>Value.int .i64 a)[k]?=some (.int .i64 (a:Int)):=by rw[p,P8,P2,r];rfl
 rcases h2.2 with⟨_,m⟩|⟨g,u,y,e,_,hb,_⟩
 ·rw[QG.1 m]at j;cases j
 injection e with e _ _
 refine⟨g,e,cj hb,?_⟩;have:=h2.cells (g:=g) SG k _ j;rw[addr_add,aI]at this;exact this
def NY(hd:c.ns[x]?=some d)(ho:d.op=123)(G:d.all=b.map (λ(a:Nat)=>(a:Int)))(hl:b.length=ts.length)(bI:ts.length<=200)(H:∀(k a:Nat) (u:bY.T),b[k]?=some a->ts[k]?=some u->nF c a it (E u) 0)(hs:∀u∈ts,pa (E u) 0):nF c x it (λf=>oo E ts [] f) 0:=by
 intro w M s nd f e vI h bF hp hi;obtain⟨g,bD,q0,q1,q2,q3,⟨z0,z1,z2,z3,z4,z5⟩,hM⟩:=h.begin hd;have aC:d.pn=ts.length:=by
  obtain⟨L,vN,_,_,_,_,_,_,_,_,_,bh⟩:=h;rw[(bh.all d (aL hd)).1,G,aG,hl]
 have ad:∀g,vI.ownBlock=some g->g<w.1.size:=λg U=>by
  obtain⟨l,h1,_⟩:=hi;exact(UH h1 g U).2
 have am:=lJ w d;have bk:OW c w M d it vI e _ _ _ 0 f s nd M [] :=⟨rfl,h.below am,yh d hM,hp,hi.below am,(λx hx=>by cases hx),x8 w d,v7.nil _ _ _⟩;have H0:Hid (OW c w M d it vI e (w.1.size+1) (Dg w d) (.slice none 0 0) 0 f s nd M []/\(oo E ts [] f).run (Nn c) (s,nd)=(oo E (ts.drop 0) [] f).run (Nn c) (s,nd)):=bZ ⟨bk,rfl⟩;have HD:=bZ (And.intro hd (And.intro G (And.intro hl (And.intro H (And.intro hs ad)))));obtain⟨o,sx,xx,yy,zz,pp,pn,pc,al⟩:=d;simp only at ho aC z0 z1 z2 z3 z4 z5;subst ho aC;unfold dR at q0 q1 z0 z1 z2 z3 z4 z5;unfold ptr;go_enter func196,ntmps196;go_wp2_with fail
 go_loopw [8,9] (λlv kv wr=>∃(k f1:Nat) (F:LS) (D:List (a_×Wo)) (P:Nat->Prop) (n:List V) (o:Option Addr) (cp:Nat),lv=.slice o k cp/\kv=.int .i64 (k:Int)/\k<=ts.length/\Hid (OW c w M ⟨123,sx,xx,yy,zz,pp,ts.length,pc,al⟩ it vI e (w.1.size+1) wr (.slice o k cp) k f1 F D P n/\(oo E ts [] f).run (Nn c) (s,nd)=(oo E (ts.drop k) n f1).run (Nn c) (F,D))) (λ_ kv _=>ts.length-(intOf kv).toNat)
 case atStart=>exact⟨0,f,s,nd,M,[],none,0,rfl,rfl,au _,H0⟩
 case round =>
  obtain⟨k,f1,F,D,P,n,oL,cL,rfl,rfl,hk,N⟩:=hrel;obtain⟨n0,n1,n2,n3,n4,n5,n6⟩:=fB N.Z.1.node;obtain⟨hd,G,hl,H,hs,ad⟩:=HD.Z;by_cases ax:k<ts.length
  ·have bt:(k:Int)<(ts.length:Int):=RM;have hu:=aq ax;have av:=aR ax;generalize ts[k]=u at hu av;have bv:k<b.length:=RM;have X:=aq bv;generalize b[k]=a at X;obtain⟨j,y⟩:=N.Z;obtain⟨gi,a0,bH,ci⟩:=j.es.item hd G X;simp only at a0;subst a0;have bx:=hs u (aL hu);have HC:=bZ ((H k a u X hu wr P F D f1 e vI j.es (au _) j.pu j.its).mono (λe' w' C=>C.mid j.mid));rw[av]at y;have HR:=bZ y;have bd:=bZ j;have O:=bZ bx;have bg:=bZ ad;unfold ptr at HC;go_wp2_with fail;refine HC.Z.mono ?_;rintro e' w1⟨r2,f2,s2,a6,M2,bJ,ai,Z,a3,rfl,ao,J,bq,br,bm,bj⟩;have j:=bd.Z;obtain⟨g1,g2,g3,g4⟩:=sh c e (E u f1) f1 F D j.pu (O.Z.sp f1) (O.Z.pp f1) (O.Z.pe f1);rw[Z]at g1 g2 g3 g4;have ay:=br _ _ j.node (v8 j.es j.node rA);have K:=j.Mp.st bj bm;have bp:=bq it (f1+e) (f2+e) j.its (Rl g3 e);have bu:=j.l3;have hlen:=j.len;obtain⟨b0,b1,b2,b3,b4⟩:=cM J.zero;cases r2 with
   |error Q =>
    obtain⟨rfl,rfl⟩:=rz a3;have bG:((Q:Int) != 0)=true:=by rw[aZ];have:=g4 Q rfl;omega
    have HE:=bZ (J.fill ao (p:=oo E ts [] f) (s:=s) (nd:=nd) (HR.Z.trans (fF Z)) rfl);go_wp2_with fail;exact UA (v:=.agg #[.int .i64 Q,.string ⟨#[]⟩]) S_ rfl (HE.Z.then ((Uz _ _).alloc (af _) _))
   |ok v =>
    obtain⟨rfl,bB⟩:=kV a3;have z:=eB w1 0 ai;have R:=ao.below z;have bw:=J.below z;have bA:=K.below z;have r:(n.map (bY.wr 3)).length=k:=by rw[aG];exact hlen
    obtain⟨g',ak,w',S,ab,I,_⟩:=bA.push R.ct R.eight (ah J.ot.size z.size) ai (by rw[r];omega);rw[r,Ge]at S;rw[r]at ab;unfold gO at S;have bn:n.map (bY.wr 3)++[ai.1.1]=(n++[v]).map (bY.wr 3):=by rw[aV,bB];rfl
    rw[bn]at ab;have bl:OW c w M ⟨123,sx,xx,yy,zz,some ⟨gi,0,none⟩,ts.length,pc,al⟩ it vI e (w.1.size+1) w' (.slice (some ⟨g',0,none⟩) (k+1) ak) (k+1) f2 s2 a6 M2 (n++[v]) :=⟨by rw[aj,hlen];rfl,I.es R K.no,I.mid bw K.new,g1,I.its (bp.below z) (λg U e=>by have:=bg.Z g U;have:=K.new g e;omega),gZ bu (kj (g2 v rfl)),I.at ((z.block _ (cj ay)).trans ay) RZ,ab⟩;have bc:=bZ (And.intro bl (HR.Z.trans (fL Z)));go_wp2_with(at_builtin;refine cY _ rfl _ _ _ _ rfl _ _ _ _ rfl rfl S ?_);refine⟨⟨k+1,f2,s2,a6,M2,n++[v],some ⟨g',0,none⟩,ak,rfl,by go_num,by omega,bc⟩,?_⟩;simp[intOf];omega
  have bt:¬(k:Int)<(ts.length:Int):=RM;obtain⟨j,y⟩:=N.Z;rw[aQ RM]at y;have y:=y;have h8:=j.es.eight;have r:(n.map (bY.wr 3)).length=k:=by rw[aG];exact j.len
  have ap:=bY.iC (m:=57500) (n.map (bY.wr 3)) (λx hx=>by
   obtain⟨u,hu,rfl⟩:=aH.1 hx;exact rp (j.l3 u hu))
  rw[r]at ap;have bE:=ah ap (Qo 57501 RM);have Y:=oO (l:=n.map (bY.wr 3)) (o:=oL) (c:=cL) (w0:=Bn wr) (w:=wr) (by rw[r];exact j.Mp.Mo h8) RM RM;rw[r]at Y;obtain⟨t,a4⟩:∃t:ba,(⟨(hU (n.map (bY.wr 3))).toArray⟩:ba)=t:=⟨_,rfl⟩;have a2:t.1.1=hU (n.map (bY.wr 3)):=by rw[<-a4]
  have bz:str (hU (n.map (bY.wr 3)))=.string t:=by rw[<-a4];rfl
  rw[bz]at Y;have T:=tF t wr h8 (by rw[UB,a2];unfold hU;simp;omega);rw[a2,uN j.l3,pI]at T;obtain⟨tc,a7,a5⟩:=dG (dX n);rw[a5]at T;have bf:=bZ Y;have a9:=bZ (T.mono (λe' w4 (C:e'=.returned (.agg #[.int .i64 tc,.string a7])/\Xb wr w4)=>And.intro C.1 (And.intro (j.mid.below C.2).zero ((j.mid.below C.2).fill (j.es.below C.2) y a5))));go_wp2_with fail;refine bf.Z.mono ?_;rintro e' w2⟨rfl,bC⟩;obtain rfl:=bC.symm;go_wp2_with fail;refine a9.Z.mono ?_;rintro e' w4⟨rfl,hz,bo⟩;obtain⟨e0,e1,e2,e3,e4⟩:=cM hz;have a8:=bZ bo;go_wp2_with fail;exact UA (v:=.agg #[.int .i64 tc,.string a7]) Tl rfl a8.Z
end Ref
end
section
open bY
namespace Ref
variable{c:Cx}{s:LS}{f B f2:Nat}{m:Xa}{M:Nat->Prop}{l:List (a_)}{o:Option Addr}{x:a_}{q:V->Nat->Pe V}{a:V}{r j:List V}{e:Ending}
def ES.Dn{nd:List (a_×Wo)}{w:QV}(h:ES c s nd f m w M)(v:Xa):w.cell? ⟨c.qb,3,none⟩=some m/\(∀o,w.frozen? ⟨c.qb,o,none⟩=false)/\c.qb<w.1.size/\ES c s nd f v (w.setCell ⟨c.qb,3,none⟩ v) M/\ed M w (w.setCell ⟨c.qb,3,none⟩ v)/\(∀(k:Nat) (cs:Array Xa) (t:TypeId) (fz:Nat×Nat),w.1[k]?=some (.cells cs t fz)->t≠287->(w.setCell ⟨c.qb,3,none⟩ v).1[k]?=some (.cells cs t fz)):=by
 obtain⟨L,O,h1,h2,n,C,G,y,p,I,J,F⟩:=h;have u:∀k,k≠c.qb->(w.setCell ⟨c.qb,3,none⟩ v).1[k]?=w.1[k]? := λk b=>UI w ⟨c.qb,3,none⟩ k _ b;have hb:=heap_setCell_same w c.qb 3 _ _ v p;have hty:∀(k:Nat) (cs:Array Xa) (t:TypeId) (fz:Nat×Nat),w.1[k]?=some (.cells cs t fz)->t≠287->(w.setCell ⟨c.qb,3,none⟩ v).1[k]?=some (.cells cs t fz):=λk cs t fz b z=>(u k (λe=>by rw[e,p]at b;cases b;exact z rfl)).trans b;have D:KN w (w.setCell ⟨c.qb,3,none⟩ v):=λk cs t fz b z=>hty k cs t fz b (λe=>by rcases z with rfl|rfl<;>cases e);refine⟨by simp[World.cell?,p],λo=>by simp[World.frozen?,p],y.lt n,⟨L,O,h1.st (λk b=>u k (λe=>C (e▸b))) D,h2,n,C,G,λk b=>?_,hb,I,cD J (λg P cs fz K=>hty g cs _ fz K RZ),F.st D⟩,⟨rfl,rfl,rfl,by simp,λk b N=>u k (λe=>N (e▸n))⟩,hty⟩;by_cases E:k=c.qb
 ·subst E;exact⟨(y _ n).1,_,_,_,hb,.inr (.inr (.inr (.inr (.inr rfl))))⟩
 rw[u k E];exact y k b
def v7.but{w w':QV}{v v':Xa}(h:v7 B w M v l)(hb:Gw v' w w')(p:∀g,v.ownBlock=some g->v'.ownBlock≠some g):v7 B w' M v l :=⟨cD h.row (λg n cs fz b=>(hb.ot.block g (cj b) (p g n)).trans b),h.new,h.no⟩
def v7.cell{w:QV}{n c:Nat}(h:v7 B w M (.slice o n c) l)(b:8<=w.1.size){i:Nat}(hx:l[i]?=some x):∃g,o=some ⟨g,0,none⟩/\g<w.1.size/\w.cell? ⟨g,i,none⟩=some (str x):=(h.Mo b).cell hx
def tI(b:Bool)(q:V->Nat->Pe V)(l j:List V)(f:Nat):Pe V:=if b=true then oo q l j f else ly q l j f
def Mq(b:Bool)(q:V->Nat->Pe V)(j:List V)(f:Nat):tI b q [] j f=.ret (dX j,f):=by cases b<;>rfl
def Mr{b:Bool}{f f2 n:Nat}{σ:Type}{N:a_->σ->Wo×σ}{s p:σ}(h:(q a f).run N s=((.error n,f2),p)):(tI b q (a :: r) j f).run N s=((.error n,f2),p):=by
 cases b
 ·show(ly q (a :: r) j f).run N s=_;rw[ly];exact fF h
 exact fF h
def J1{v:V}{σ:Type}{N:a_->σ->Wo×σ}{s b:σ}(h:(q a f).run N s=((.ok v,f2),b)):(tI true q (a :: r) j f).run N s=(tI true q r (j++[v]) f2).run N b:=fL h
def J2{v:V}{aC:List V}{σ:Type}{N:a_->σ->Wo×σ}{s b:σ}(h:(q a f).run N s=((.ok v,f2),b)):(tI false q (a :: r) aC f).run N s=(match fg v with|.ok i=>if i=0 then tI false q r aC f2 else tI false q r (aC++[a]) f2|.error e=>.ret (.error e,f2)).run N b:=by
 show(ly q (a :: r) aC f).run N s=_;rw[ly,fL h];cases fg v<;>rfl
def ql.pre{p:Pe V}{nd:List (a_×Wo)}{w w0 w':QV}(h:ql c p s nd m w0 M e w')(b:Xb w w0):ql c p s nd m w M e w':=⟨h.1,eX.pre b h.2⟩
def lM(w:QV)(d:Nd):QV:=w.alloc (.cells #[.int .u8 d.op,.string d.s,.int .i64 d.x,.int .i64 d.y,.int .i64 d.z,.slice d.p d.pn d.pc] 147)
def v_(w:QV)(d:Nd):Xb w (lM w d):=(Uz _ w).alloc (af _) _
def yi(w:QV)(d:Nd):(dR (lM w d)).1[w.1.size]?=some (.cells #[.int .u8 d.op,.string d.s,.int .i64 d.x,.int .i64 d.y,.int .i64 d.z,.slice d.p d.pn d.pc] 147 (0,0)):=by
 have h:=heap_alloc_new w (.cells #[.int .u8 d.op,.string d.s,.int .i64 d.x,.int .i64 d.y,.int .i64 d.z,.slice d.p d.pn d.pc] 147);exact(UE _ _ _ (cj h)).trans h
def yj(w:QV)(d:Nd):(lM w d).1.size=w.1.size+1:=by unfold lM;simp
end Ref
end
section
open bY
namespace Ref
variable{c:Cx}{M M1:Nat->Prop}{d:Nd}{it:Option V}{vI vV v:Xa}{e f1:Nat}{ks:List (a_)}{s1:LS}{nd1:List (a_×Wo)}{acc:List V}{u:V}{x:ba}
structure J3(c:Cx)(w w0:QV)(M:Nat->Prop)(d:Nd)(it:Option V)(vI:Xa)(e:Nat)(vV:Xa)(ks:List (a_))(wr:QV)(v:Xa)(f1:Nat)(s1:LS)(nd1:List (a_×Wo))(M1:Nat->Prop)(acc:List V):Prop where
 ls:OW c w0 M d it vI e w.1.size wr v acc.length f1 s1 nd1 M1 acc
 qd:v7 w0.1.size wr M1 vV ks
 apart:∀g,vV.ownBlock=some g->v.ownBlock≠some g
def J3.push{w w0:QV}{wr:QV}(h:J3 c w w0 M d it vI e vV ks wr v f1 s1 nd1 M1 acc)(hu:L3 u)(hx:Tx x u)(E:acc.length<=1000)(D:∀g,vI.ownBlock=some g->g<w0.1.size):∃g n w',(Builtin.append_ #[40,40] 40 #[v,.slice (some ⟨wr.1.size,0,none⟩) 1 1]).run Tryz.prog (wr.alloc (.cells #[.string x] 9))=.ok (.slice (some ⟨g,0,none⟩) (acc.length+1) n) w'/\J3 c w w0 M d it vI e vV ks w' (.slice (some ⟨g,0,none⟩) (acc++[u]).length n) f1 s1 nd1 M1 (acc++[u]):=by
 obtain⟨b,p,hA⟩:=h;have y:(acc.map (bY.wr 3)).length=acc.length:=aG _;obtain⟨g',z,w',r,m,j,C⟩:=b.Mp.push b.es.ct b.es.eight b.mid.ot.size x SI;rw[y]at r m;have B:acc.map (bY.wr 3)++[x.1.1]=(acc++[u]).map (bY.wr 3):=by rw[aV,hx];rfl
 have hlen:(acc++[u]).length=acc.length+1:=R2;rw[B]at m;refine⟨g',z,w',r,⟨rfl,j.es b.es b.Mp.no,j.mid b.mid b.Mp.new,b.pu,j.its b.its (λg l e=>by have:=D g l;have:=b.Mp.new g e;omega),gZ b.l3 (kj hu),j.at b.node RZ,by rw[hlen];exact m⟩,p.but j hA,λg l e=>?_⟩;cases e;rcases C with h|h
 ·exact hA _ l h
 have:g'<wr.1.size:=(UH p.row _ l).2;omega
def J3.below{w w0:QV}{wr w':QV}(h:J3 c w w0 M d it vI e vV ks wr v f1 s1 nd1 M1 acc)(j:Xb wr w'):J3 c w w0 M d it vI e vV ks w' v f1 s1 nd1 M1 acc:=by
 obtain⟨b,l,hA⟩:=h;exact⟨⟨b.len,b.es.below j,b.mid.below j,b.pu,b.its.below j,b.l3,(j.block _ (cj b.node)).trans b.node,b.Mp.below j⟩,l.below j,hA⟩
def J3.enter{w w0:QV}{wr:QV}(h:J3 c w w0 M d it vI e vV ks wr v f1 s1 nd1 M1 acc)(O:1<=e)(hu:L3 u)(hx:Tx x u):∃(y:Option Addr) (j p:Nat) (B:Option Addr) (c1:Nat) (n:QV) (g:Nat) (m:Nat) (l:QV),vI=.slice y j p/\j<=400 /\(Builtin.append_ #[40,40] 40 #[.slice none 0 0,.slice y j p]).run Tryz.prog wr=.ok (.slice B j c1) n /\(Builtin.append_ #[40,40] 40 #[.slice B j c1,.slice (some ⟨n.1.size,0,none⟩) 1 1]).run Tryz.prog (n.alloc (.cells #[.string x] 9))=.ok (.slice (some ⟨g,0,none⟩) (j+1) m) l /\Xb wr n/\Xb wr l/\jF (l.setCell ⟨c.qb,3,none⟩ (.slice (some ⟨g,0,none⟩) (j+1) m)) M1 (.slice (some ⟨g,0,none⟩) (j+1) m) (some u) (f1+(e-1)):=by
 obtain⟨b,h1,h2,D,N⟩:=h.ls.its;have C:=h.ls.es.eight;obtain⟨y,p,rfl⟩:=dP h1;have hT:v7 8 wr M1 (.slice y b.length p) b:=⟨h1,λg F=>(UH h1 g F).1,h2⟩;obtain⟨B,c1,n,E,hs,hz⟩:=(iO.nil wr).join (hT.Mo C) C R5;simp only[P6,aI,Qv]at E hs;obtain⟨g,m,l,hb,z⟩:=hs.push C x RM;refine⟨y,b.length,p,B,c1,n,g,m,l,rfl,by omega,E,hb,hs.eh,z.eh,b++[x.1.1],?_,λk r I=>?_,?_,λu' K=>?_⟩
 ·have J:∀cs fz,l.1[g]?=some (.cells cs 9 fz)->(l.setCell ⟨c.qb,3,none⟩ (.slice (some ⟨g,0,none⟩) (b.length+1) m)).1[g]?=some (.cells cs 9 fz):=λcs fz r=>(UI l ⟨c.qb,3,none⟩ g _ (by
   have F:=z.new g rfl;obtain⟨L,P,_,_,D,_,_,G,_⟩:=h.ls.es;have:=G.lt D;show g≠c.qb;omega)).trans r
  unfold dm;have hl:(b++[x.1.1]).length=b.length+1:=R2;rw[hl];exact cD (by have:=z.row;rw[hl]at this;exact this) (λk r cs fz hb=>by cases r;exact J cs fz hb)
 ·cases r;have:=z.new g rfl;have:g<wr.1.size:=h.ls.es.ct.lt I;omega
 ·rw[aj,aD];omega
 cases K;exact⟨hu,b,by rw[hx]⟩
end Ref
end
section
open bY
open Tryz
namespace Ref
variable{c:Cx}{b:Bool}{d:Nd}{q:V->Nat->Pe V}{x:ba}{M:Nat->Prop}{s:LS}{f:Nat}{j:Xa}{it:Option V}{l:List V}
def tJ(c:Cx)(b:Bool)(d:Nd)(q:V->Nat->Pe V)(v:V)(x:ba)(w:QV)(M:Nat->Prop)(s:LS)(nd:List (a_×Wo))(f:Nat)(j:Xa):Prop :=Calls prog 238 #[ptr c.rb,ptr c.qb,.agg #[.int .u8 d.op,.string d.s,.int .i64 d.x,.int .i64 d.y,.int .i64 d.z,.slice d.p d.pn d.pc],.string x] w (ql c (match eK v with|.ok l=>tI b q l [] f|.error e=>.ret (.error e,f)) s nd j w M)
def Bo{v:V}{w:QV}{nd:List (a_×Wo)}(hx:Tx x v)(hv:L3 v)(h:ES c s nd f j w M)(B:eK v=.error 9):tJ c b d q v x w M s nd f j:=by
 unfold tJ;rw[B];show Calls _ _ _ _ _;obtain⟨a,m,p,u,ks,k1,E,_⟩:=kinds hv x hx (ah (nN hx hv) RZ);have hu:u=false:=by
  rcases k1 with⟨_,_,h,_⟩|⟨_,_,h,_⟩|⟨_,_,_,l,rfl,_⟩
  ·exact h
  ·exact h
  cases B
 subst hu;have n:=v_ w d;have y:=dZ (lM w d);have C:=bZ ((E (dR (lM w d))).2.2 ((h.below n).below y).eight);have z:=bZ (λw1 (e:Below (dR (lM w d)).1.size (dR (lM w d)) w1)=>And.intro ((e.block _ (cj (eP (lM w d)))).trans (eP (lM w d))) (((h.below n).fill (y.trans (e.mono y.size)) ((e.block _ (cj (eP (lM w d)))).trans (eP (lM w d))) (r:=.error 9) (tc:=9) (ts:=⟨#[]⟩) rfl).pre n));rw[yj]at z;unfold ptr;go_enter func238,ntmps238;go_wp2_with fail;refine C.Z.mono ?_;rintro e' w1⟨o,K,rfl,J⟩;obtain⟨hz,I⟩:=z.Z w1 J.eh;obtain⟨e0,e1,e2,F,G⟩:=cM hz;have D:=bZ I;go_wp2_with fail;exact UA (v:=.agg #[.int .i64 9,.string ⟨#[]⟩]) (by simp[results,results238,go_sem,e0,e1,e2,F,G]) rfl D.Z
def Dp{Y:Nat}{w:QV}{nd:List (a_×Wo)}{e:Nat}(bC:d.op=if b=true then 101 else 115)(hy:d.y=(Y:Int))(HY:∀u,L3 u->nF c Y (some u) (q u) 0)(hs:∀u,L3 u->pa (q u) 0)(hx:Tx x (vl l))(hv:L3 (vl l))(K:1<=e)(h:ES c s nd f j w M)(hp:Pu c s nd (f+e))(hi:jF w M j it (f+e)):tJ c b d q (vl l) x w M s nd f j:=by
 show Calls _ _ _ _ (ql c (tI b q l [] f) s nd j w M);obtain⟨a,m,p,u,ks,k1,HK,_⟩:=kinds hv x hx (ah (nN hx hv) RZ);have cU:=uJ hv rfl;obtain⟨hu,a9,ao⟩:u=true/\ks=l.map (bY.wr 3)/\∀x∈l,L3 x:=by
  rcases k1 with⟨_,_,_,h,_⟩|⟨_,_,_,b,h⟩|⟨_,_,h,l',h',h2,h3⟩
  ·cases h
  ·cases h
  cases h';exact⟨h,h2,h3⟩
 subst hu;have bB:ks.length=l.length:=by rw[a9,aG]
 have ad:=v_ w d;have ai:=dZ (lM w d);have bM:∀k,M k->k<(lM w d).1.size:=λk z=>(h.below ad).ct.lt z;have D:∀g,j.ownBlock=some g->g<(lM w d).1.size:=λg hg=>by
  obtain⟨l,h1,_⟩:=hi.below ad;exact(UH h1 g hg).2
 have HC:=bZ ((HK (dR (lM w d))).2.2 ((h.below ad).below ai).eight);rw[bB]at HC;have H0:=bZ (λ(w1:QV) (o:Option Addr) (cc:Nat) (B:iO (dR (lM w d)) w1 (.slice o l.length cc) ks)=>show J3 c w (lM w d) M d it j e (.slice o l.length cc) ks w1 (.slice none 0 0) f s nd M [] from
  ⟨⟨rfl,((h.below ad).below ai).below B.eh,⟨λ_ h=>.inl h,λ_ h=>h,(ed.below ai).trans (ed.below (L:=M) B.eh) (λ_ h=>.inl h),(B.eh.block _ (cj (eP (lM w d)))).trans (eP (lM w d)),λz=>by have:=bM _ z;omega⟩,hp,((hi.below ad).below ai).below B.eh,(λx hx=>by cases hx),(B.eh.block _ (cj (yi w d))).trans (yi w d),v7.nil _ _ _⟩,⟨by unfold dm;rw[bB];have:=B.row;rw[bB]at this;exact this,λg hg=>ah ai.size (B.new g hg),λg hg z=>by have:=bM _ z;have:=B.new g hg;have:=ai.size;omega⟩,λg hg e=>by cases e⟩)
 have HD:=bZ (And.intro HY (And.intro hs (And.intro ao (And.intro a9 D))));have HB:=bZ ad;obtain⟨G,Z,xx,yy,zz,pp,U,T,al⟩:=d;simp only at bC hy;subst hy;have a0:=bZ bC;clear bC;have bo:=yj w ⟨G,Z,xx,Y,zz,pp,U,T,al⟩;unfold ptr;go_enter func238,ntmps238;go_wp2_with fail;refine HC.Z.mono ?_;rintro e' w1⟨oV,cV,rfl,B⟩;have bL:=H0.Z w1 oV cV B;obtain⟨i0,i1,i2,-,-,-⟩:=bL.ls.es.Dn j;have b8:=bZ (And.intro bL (show(tI b q l [] f).run (Nn c) (s,nd)=(tI b q (l.drop 0) [] f).run (Nn c) (s,nd)from rfl));go_wp2_with fail
 go_loopw [11,13] (λlv iv wr=>∃(i f1:Nat) (X:LS) (S:List (a_×Wo)) (M1:Nat->Prop) (n:List V) (o:Option Addr) (cp:Nat),lv=.slice o n.length cp/\iv=.int .i64 (i:Int)/\i<=l.length/\n.length<=i/\Hid (J3 c w (lM w ⟨G,Z,xx,Y,zz,pp,U,T,al⟩) M ⟨G,Z,xx,Y,zz,pp,U,T,al⟩ it j e (.slice oV l.length cV) ks wr (.slice o n.length cp) f1 X S M1 n/\(tI b q l [] f).run (Nn c) (s,nd)=(tI b q (l.drop i) n f1).run (Nn c) (X,S))) (λ_ iv _=>l.length-(intOf iv).toNat)
 case atStart=>exact⟨0,f,s,nd,M,[],none,0,rfl,rfl,au _,af _,b8⟩
 case round =>
  obtain⟨i,f1,X,S,M1,n,oL,cL,rfl,rfl,cQ,cN,HI⟩:=hrel;obtain⟨n0,n1,n2,n3,n4,n5,n6⟩:=fB HI.Z.1.ls.node;obtain⟨HY,hs,ao,a9,D⟩:=HD.Z;by_cases bT:i<l.length
  ·have ct:(i:Int)<(l.length:Int):=RM;have hu:=aq bT;have bN:=aR bT;generalize l[i]=u at hu bN;have bp:=ao u (aL hu);obtain⟨y,N⟩:=HI.Z;rw[bN]at N;have bS:ks[i]?=some (bY.wr 3 u):=by rw[a9,P2,hu];rfl
   have bg:=bZ bS;obtain⟨gV,cA,bP,bI⟩:=y.qd.cell y.ls.es.eight bS;subst cA;obtain⟨xu,bq⟩:∃xu:ba,str (bY.wr 3 u)=.string xu:=⟨_,rfl⟩;have b4:Tx xu u:=by unfold str at bq;cases bq;rfl
   rw[bq]at bI;obtain⟨O,E,J,o1,c1,wa,g',bJ,wb,cE,c0,cl,cm,bK,cb,cw⟩:=y.enter K bp b4;subst cE;have ak:=y.below cb;obtain⟨i0,i1,i2,a4,bj,ch⟩:=ak.ls.es.Dn (.slice (some ⟨g',0,none⟩) (E+1) bJ);have cx:=ak.ls.mid.on (λk z=>.inl z) (λk z=>z) bj;have Q:=ch _ _ _ _ ak.ls.node RZ;have bc:=hs u bp;have HC:=bZ ((HY u bp (wb.setCell ⟨c.qb,3,none⟩ (.slice (some ⟨g',0,none⟩) (E+1) bJ)) M1 X S f1 (e-1) _ a4 (au _) (y.ls.pu.le RM) cw).mono (λe' w' K=>K.mid cx));have a7:=ak.qd.st bj (λ_ h=>.inl h);have bz:=ak.ls.Mp.st bj (λ_ h=>.inl h);have bw:=ak.ls.its.st bj (λ_ h=>.inl h) (af _);have cF:wa.cell? ⟨gV,i,none⟩=some (.string xu):=(bK.cell (p:=⟨gV,i,none⟩) bP).trans bI;have cP:gV<wa.1.size:=aA bP bK.size;obtain⟨m0,m1,m2,m3,m4,m5,m6⟩:=fB (d:=⟨G,Z,xx,Y,zz,pp,U,T,al⟩) Q;have I:=bZ N;have HQ:=bZ (And.intro a7 (And.intro bz (And.intro bw (And.intro Q (And.intro bc (And.intro y.ls.pu (And.intro a4 (And.intro y.ls.l3 (And.intro y.apart D)))))))));unfold ptr at HC;go_wp2_with(at_builtin;first|(refine cY _ rfl _ _ _ _ rfl _ _ _ _ rfl rfl cl ?_)|(refine cY _ rfl _ _ _ _ rfl _ _ _ _ rfl rfl cm ?_));refine HC.Z.mono ?_;rintro e' w3⟨r2,f2,s2,bf,M2,b5,br,R,b3,rfl,a3,bU,cR,bR,a6,a5⟩;obtain⟨a7,bz,bw,Q,bc,cB,a4,ao,ck,D⟩:=HQ.Z;obtain⟨g1,g2,g3,g4⟩:=sh c e (q u f1) f1 X S cB (bc.sp f1) (bc.pp f1) (bc.pe f1)
   rw[R]at g1 g2 g3 g4;obtain⟨j0,j1,j2,cd,bh,cg⟩:=a3.Dn (.slice O E J);have bV:=bU.on (λk z=>.inl z) (λk z=>z) bh;have cy:=cg _ _ _ _ (bR _ _ Q (v8 a4 Q rA)) RZ;have ce:J3 c w (lM w ⟨G,Z,xx,Y,zz,pp,U,T,al⟩) M ⟨G,Z,xx,Y,zz,pp,U,T,al⟩ it (.slice O E J) e (.slice (some ⟨gV,0,none⟩) l.length cV) ks (w3.setCell ⟨c.qb,3,none⟩ (.slice O E J)) (.slice oL n.length cL) f2 s2 bf M2 n :=⟨⟨rfl,cd,bV,g1,(bw.st a5 a6 (Rl g3 e)).st bh (λ_ h=>.inl h) (af _),ao,cy,(bz.st a5 a6).st bh (λ_ h=>.inl h)⟩,(a7.st a5 a6).st bh (λ_ h=>.inl h),ck⟩;have bG:=bU.zero;rw[bo]at bG;obtain⟨e0,e1,e2,e3,e4⟩:=cM bG;have bW:=bR _ _ Q (v8 a4 Q rA);obtain⟨y0,y1,y2,y3,y4,y5,y6⟩:=fB (d:=⟨G,Z,xx,Y,zz,pp,U,T,al⟩) bW;have bx:M2 c.qb:=by obtain⟨L,vN,_,_,h3,_⟩:=a3;exact h3
   have c3:c.qb≠w.1.size:=λe=>v8 a3 bW rA (e▸bx);have c4:c.qb≠w.1.size+1:=λe=>v8 a3 bG Gd (e▸bx);have bd:((w3.setCell ⟨c.qb,3,none⟩ (.slice O E J)).alloc (.cells #[.int .i64 b5,.string br] 166)).1.size=w3.1.size+1:=R2;have ca:Below (w3.setCell ⟨c.qb,3,none⟩ (.slice O E J)).1.size (w3.setCell ⟨c.qb,3,none⟩ (.slice O E J)) ((w3.setCell ⟨c.qb,3,none⟩ (.slice O E J)).alloc (.cells #[.int .i64 b5,.string br] 166)):=(Uz _ _).alloc (af _) _;obtain⟨cG,co,bQ,bu⟩:=(a7.st a5 a6).cell a3.eight (i:=i) (x:=bY.wr 3 u) bg.Z;cases co;rw[bq]at bu;have c5:c.qb≠gV:=λe=>(a7.st a5 a6).no gV rfl (e▸bx);have aa:=bZ ce;have ay:=bZ bV;cases r2 with
   |error ec =>
    obtain⟨rfl,rfl⟩:=rz b3;have cO:((ec:Int) != 0)=true:=by rw[aZ];have:=g4 ec rfl;omega
    have HE:=bZ ((ay.Z.fill aa.Z.ls.es (p:=tI b q l [] f) (s:=s) (nd:=nd) (I.Z.trans (Mr R)) rfl).pre HB.Z);rw[bo]at HE;go_wp2_with fail;exact UA (v:=.agg #[.int .i64 ec,.string ⟨#[]⟩]) Tp rfl (HE.Z.then ((Uz _ _).alloc (af _) _))
   |ok v =>
    obtain⟨rfl,ap⟩:=kV b3;have av:=g2 v rfl;obtain⟨a2,c7,p2,u2,c6,k2,b9,_⟩:=kinds av br ap (ah (nN ap av) RZ);have P:=bZ (b9 ((w3.setCell ⟨c.qb,3,none⟩ (.slice O E J)).alloc (.cells #[.int .i64 0,.string br] 166))).1;have ab:=bZ (aa.Z.below ca);cases b with
    |true =>
     have ho:G=101:=a0.Z;subst ho;obtain⟨g5,bv,w5,am,bk⟩:=ab.Z.push av ap RM D;rw[bd]at am;have ax:=bZ (And.intro bk (I.Z.trans (J1 R)));go_wp2_with fail;refine P.Z.mono ?_;rintro e' w2⟨rfl,F⟩;obtain rfl:=F.symm;go_wp2_with(at_builtin;refine cY _ rfl _ _ _ _ rfl _ _ _ _ rfl rfl am ?_);refine⟨⟨i+1,f2,s2,bf,M2,n++[v],some ⟨g5,0,none⟩,bv,by rw[aj];rfl,by go_num,by omega,by rw[aj,aD];omega,ax⟩,?_⟩;simp[intOf];omega
    |false =>
     have ho:G=115:=a0.Z;subst ho;have C:=J2 (r:=l.drop (i+1)) (aC:=n) R;rcases k2 with⟨rfl,rfl,rfl,rfl,_⟩|⟨rfl,rfl,rfl,b2,rfl⟩|⟨rfl,rfl,rfl,l2,rfl,_⟩
     ·have C:(tI false q (u :: l.drop (i+1)) n f1).run (Nn c) (X,S)=(if a2=0 then tI false q (l.drop (i+1)) n f2 else tI false q (l.drop (i+1)) (n++[u]) f2).run (Nn c) (s2,bf):=C;by_cases a8:a2=0
      ·rw[ag a8]at C;subst a8;have ax:=bZ (And.intro ab.Z (I.Z.trans C));clear aa ab ay I R a0 bu bQ bd bg ap av C D;dsimp only;go_wp2_with fail;refine P.Z.mono ?_;rintro e' w2⟨rfl,F⟩;obtain rfl:=F.symm;clear P;dsimp only;go_wp2_with fail;refine⟨⟨i+1,f2,s2,bf,M2,n,oL,cL,rfl,by go_num,by omega,by omega,ax⟩,?_⟩;simp[intOf];omega
      rw[ae a8]at C;have ha':(a2 != 0)=true:=by rw[aZ];exact a8
      obtain⟨g5,bv,w5,am,bk⟩:=ab.Z.push bp b4 RM D;rw[bd]at am;have ax:=bZ (And.intro bk (I.Z.trans C));clear aa ab ay I R bk a0 bd bg ap av C D a8;dsimp only;go_wp2_with fail;refine P.Z.mono ?_;rintro e' w2⟨rfl,F⟩;obtain rfl:=F.symm;clear P;dsimp only;go_wp2_with(at_builtin;refine cY _ rfl _ _ _ _ rfl _ _ _ _ rfl rfl am ?_;clear am);refine⟨⟨i+1,f2,s2,bf,M2,n++[u],some ⟨g5,0,none⟩,bv,by rw[aj];rfl,by go_num,by omega,by rw[aj,aD];omega,ax⟩,?_⟩;simp[intOf];omega
     all_goals
      have HE:=bZ ((ay.Z.fill aa.Z.ls.es (p:=tI false q l [] f) (s:=s) (nd:=nd) (r:=.error 9) (tc:=9) (ts:=⟨#[]⟩) (I.Z.trans C) rfl).pre HB.Z);rw[bo]at HE;clear aa ab ay I R a0 bu bQ bd bg ap av C D;dsimp only;go_wp2_with fail;refine P.Z.mono ?_;rintro e' w2⟨rfl,F⟩;obtain rfl:=F.symm;clear P;dsimp only;go_wp2_with fail;exact UA (v:=.agg #[.int .i64 9,.string ⟨#[]⟩]) Tp rfl (HE.Z.then ((Uz _ _).alloc (af _) _))
  have ct:¬(i:Int)<(l.length:Int):=RM;obtain⟨y,N⟩:=HI.Z;rw[aQ RM,Mq]at N;have N:(tI b q l [] f).run (Nn c) (s,nd)=((dX n,f1),(X,S)):=N;have h8:=y.ls.es.eight;have bn:(n.map (bY.wr 3)).length=n.length:=aG _;have bA:=bY.iC (m:=57500) (n.map (bY.wr 3)) (λx hx=>by
   obtain⟨u,hu,rfl⟩:=aH.1 hx;exact rp (y.ls.l3 u hu))
  rw[bn]at bA;have cn:(cJ (n.map (bY.wr 3))).length<=200*57501:=ah bA (Qo 57501 RM);have bm:=oO (l:=n.map (bY.wr 3)) (o:=oL) (c:=cL) (w0:=Bn wr) (w:=wr) (by rw[bn];exact y.ls.Mp.Mo h8) RM RM;rw[bn]at bm;obtain⟨t,bE⟩:∃t:ba,(⟨(hU (n.map (bY.wr 3))).toArray⟩:ba)=t:=⟨_,rfl⟩;have bD:t.1.1=hU (n.map (bY.wr 3)):=by rw[<-bE]
  have bX:str (hU (n.map (bY.wr 3)))=.string t:=by rw[<-bE];rfl
  rw[bX]at bm;have bl:=tF t wr h8 (by rw[UB,bD];unfold hU;simp;omega);rw[bD,uN y.ls.l3,pI]at bl;obtain⟨tc,b6,bF⟩:=dG (dX n);rw[bF]at bl;have bH:=bZ bm;have bt:=bZ (bl.mono (λe' w4 (K:e'=.returned (.agg #[.int .i64 tc,.string b6])/\Xb wr w4)=>And.intro K.1 (And.intro (y.ls.mid.below K.2).zero (((y.ls.mid.below K.2).fill (y.ls.es.below K.2) N bF).pre HB.Z))));rw[bo]at bt;clear y N h8 bn bA cn bm bE bD bX bl bF HI HD HY hs ao a9 D;go_wp2_with fail;refine bH.Z.mono ?_;rintro e' w2⟨rfl,F⟩;obtain rfl:=F.symm;clear bH;dsimp only;go_wp2_with fail;refine bt.Z.mono ?_;rintro e' w4⟨rfl,hz,bO⟩;obtain⟨e0,e1,e2,e3,e4⟩:=cM hz;have b7:=bZ bO;clear hz bO bt;dsimp only;go_wp2_with fail;exact UA (v:=.agg #[.int .i64 tc,.string b6]) Tp rfl b7.Z
end Ref
end
section
open bY
open Tryz
namespace Ref
variable{c:Cx}{b:Bool}{d:Nd}{q:V->Nat->Pe V}{it:Option V}{x:ba}{M:Nat->Prop}{p:Nat->Pe V}
def Gf{Y:Nat}{v:V}{w:QV}{s:LS}{nd:List (a_×Wo)}{f e:Nat}{j:Xa}(r:d.op=if b=true then 101 else 115)(hy:d.y=(Y:Int))(m:∀u,L3 u->nF c Y (some u) (q u) 0)(hs:∀u,L3 u->pa (q u) 0)(hx:Tx x v)(hv:L3 v)(n:1<=e)(h:ES c s nd f j w M)(z:Pu c s nd (f+e))(hi:jF w M j it (f+e)):tJ c b d q v x w M s nd f j:=by
 obtain⟨y⟩:=v;rcases y with i|a|l
 ·exact Bo hx hv h rfl
 ·exact Bo hx hv h rfl
 exact Dp r hy m hs hx hv n h z hi
def J4{x X:Nat}(hd:c.ns[x]?=some d)(m:d.op=if b=true then 101 else 115)(hx:d.x=(X:Int))(H:nF c X it p 0)(hs:pa p 0){Y:Nat}(hy:d.y=(Y:Int))(N:∀u,L3 u->nF c Y (some u) (q u) 0)(T:∀u,L3 u->pa (q u) 0):nF c x it (λf=>eL (p f) λv f=>match eK v with|.ok l=>tI b q l [] f|.error e=>.ret (.error e,f)) 1:=by
 intro w M s nd f e vI h ad I hi;cases j:((p f).run (Nn c) (s,nd)).1.1 with
 |error ec =>
  refine Bm (P:=λf=>eL (p f) λv f=>match eK v with|.ok l=>tI b q l [] f|.error e=>.ret (.error e,f)) hd (by rw[m];cases b<;>(unfold JZ;decide)) hx H h I hi hs j ?_;rcases R:(p f).run (Nn c) (s,nd) with⟨⟨r,f1⟩,s1⟩;rw[R]at j;cases j;exact fF R
 |ok v =>
  obtain⟨g,ab,q0,q1,q2,q3,⟨z0,V,Z,z3,z4,z5⟩,hM⟩:=h.begin hd;have z:=bZ (ji H d h I hi hs);obtain⟨o,sx,xx,yy,zz,pp,pn,pc,al⟩:=d;simp only at m hx hy z0 V Z z3 z4 z5 z;subst hx hy;have n:=bZ m;obtain⟨o1,o2,o3,o4,o5,o6,o7,o8,o9⟩:(o==118)=false/\(o==107)=false/\(o==110)=false/\(o==102)=false/\(o==123)=false/\(o==116)=false/\(o==49)=false/\(o==91)=false/\(o==63)=false:=by rw[n.Z];cases b<;>decide
  have L:=bZ j;have E:=bZ (And.intro N T);clear h I hi H hs j N T m;unfold dR at q0 q1 z0 V Z z3 z4 z5;unfold ptr at z ⊢;go_enter func196,ntmps196;go_wp2_with fail;refine z.Z.mono ?_;rintro e' w1⟨r,f1,s1,ai,M1,tc,ts,rfl,hF⟩;have j:=L.Z;rw[hF.run]at j;simp only at j;subst j;obtain⟨rfl,aa⟩:=kV hF.told;have B:=eB w1 0 ts;have O:=hF.es.below B;have Q:=hF.mid.below B;obtain⟨n0,n1,n2,n3,n4,n5,n6⟩:=fB hF.node;have hv:=hF.l3 v rfl;have S:=hF.run;have C:=bZ ((Gf (b:=b) (d:=⟨o,sx,X,Y,zz,pp,pn,pc,al⟩) (q:=q) n.Z rfl E.Z.1 E.Z.2 aa hv RM O hF.pu (hF.its.below B)).mono (λe' U he=>he.last (P:=eL (p f) λv f=>match eK v with|.ok l=>tI b q l [] f|.error e=>.ret (.error e,f)) (s:=s) (nd:=nd) Q (fL S)));clear hF O Q L z B S E;unfold ptr at C;cases b with
  |true =>
   have m:o=101:=n.Z;subst m;clear n;dsimp only;go_wp2_with fail;refine C.Z.mono ?_;rintro e' U⟨J,K,rfl,hz,y⟩;obtain⟨e0,e1,e2,F,G⟩:=cM hz;have D:=bZ y;clear hz y;dsimp only;go_wp2_with fail;exact UA (v:=.agg #[.int .i64 J,.string K]) TK rfl D.Z
  |false =>
   have m:o=115:=n.Z;subst m;clear n;dsimp only;go_wp2_with fail;refine C.Z.mono ?_;rintro e' U⟨J,K,rfl,hz,y⟩;obtain⟨e0,e1,e2,F,G⟩:=cM hz;have D:=bZ y;clear hz y;dsimp only;go_wp2_with fail;exact UA (v:=.agg #[.int .i64 J,.string K]) TK rfl D.Z
end Ref
end
section
open bY
namespace Ref
variable{c:Cx}{x:Nat}{it:Option V}{p:Nat->Pe V}
def nF.of{d:Nat}{q:Nat->Pe V}(h:nF c x it p d)(e:∀f,p f=q f):nF c x it q d:=by
 have:p=q:=funext e;rw[<-this];exact h
def nF.up(h:nF c x it p 0)(d:Nat):nF c x it p d :=λw M s nd f e l h1 _ b j=>h w M s nd f e l h1 (au _) b j
def Bp:∀p:Pe V,eL p (λv f=>.ret (.ok v,f))=p
 |⟨.inl (.ok a,f)⟩=>rfl
 |⟨.inl (.error e,f)⟩=>rfl
 |⟨.inr (k,c)⟩=>by
  show Pg.ask k (λw=>(c w).bind _)=Pg.ask k c
  congr 1
  funext w
  exact Bp (c w)
def Gg:pa (λf=>.ret (.ok (vn 0),f)) 0 :=⟨λf=>af _,λf v hv=>(by cases hv;exact uI RM RM),λf=>il _⟩
def Ms:wr 3 (vn 0)=[48]:=by
 rw[wE,oD RM];show Lib.decDigits 0=[48];rw[Lib.decDigits,Qq RM];rfl
def NZ{c:Cx}{n m:Nat}{b:Bool}{t:bY.T}{y:Nat}{it:Option V}(N:∀(b:Bool) (t:bY.T) (x:Nat) (it:Option V),ib n b t=true->LA t->nB c.ns m x t->(b=true->∃u,it=some u)->(∀u,it=some u->L3 u)->nF c x it (tr n t it) 0)
  (M:ib (n+1) b t=true) (K:LA t) (C:mH c.ns (nB c.ns m) y t) (ai:t.cq≠1) (hb:b=true->∃u,it=some u) (hit:∀u,it=some u->L3 u):nF c y it (Bb n t it) 1:=by
 obtain⟨k1,k2,k3,k4,k5,U,k7,k8⟩:=Bd M;have D:∀i,i<t.parts.length->¬(t.cq=15\/t.cq=16)->∀x,nB c.ns m x (t.cG i)->nF c x it (tr n (t.cG i) it) 0:=λi hi j x hx=>N b _ x it (zu M j _ (jE hi)) (K.cG (jE hi)) hx hb hit;have F:∀i,i<t.parts.length->pa (tr n (t.cG i) it) 0:=λi hi=>nE n (K.cG (jE hi)) hit;have ab:t.cq=2\/t.cq=3\/t.cq=4\/t.cq=5\/t.cq=6\/t.cq=7\/t.cq=8\/t.cq=9\/t.cq=10\/t.cq=11\/t.cq=12\/t.cq=13\/t.cq=14\/t.cq=15\/t.cq=16:=RM;unfold mH at C;rcases ab with j|j|j|j|j|j|j|j|j|j|j|j|j|j|j<;>simp only[j]at C k3<;>simp[jy]at k3
 ·obtain⟨d,v,h1,h2,l,r⟩:=C;exact(PM h1 h2 r 1).of (λf=>by simp[Bb,j,l])
 ·obtain⟨d,h1,h2,l⟩:=C;have ad:=((K 1).1.2 j);exact(PU h1 h2 l (ah (Ee ad) RZ)).of (λf=>by simp[Bb,j])
 ·obtain⟨d,h1,h2⟩:=C;obtain⟨u,rfl⟩:=hb (k8 j);exact(PX h1 h2 1).of (λf=>by simp[Bb,j])
 ·obtain⟨d,d0,a,z,h1,h2,r,B,I,O,J,Y⟩:=C;have hp:=D 0 RM RM z Y;refine((Dm h1 (by rw[h2];unfold JZ;decide) (by rw[h2];decide) r B ((PM I O (J.trans Ms.symm) 0)) hp Gg (F 0 RM) 1 45 (.inl ⟨rfl,by decide⟩) h2).up 1).of (λf=>?_);simp[Bb,fh,j];rfl
 ·exact((D 0 RM RM y C).up 1).of (λf=>by simp[Bb,fh,j,Bp])
 ·obtain⟨d,a,h1,h2,l,r⟩:=C;exact(OU h1 h2 l (D 0 RM RM a r) (F 0 RM)).of (λf=>by simp[Bb,fh,j];rfl)
 ·obtain⟨d,aa,h1,h2,l,r,B⟩:=C;refine((NY (E:=λu f=>tr n u it f) h1 h2 l r k4 (λk a u Z hu=>N b u a it (zu M RM u (aL hu)) (K.cG (aL hu)) (B k a u Z hu) hb hit) (λu hu=>nE n (K.cG hu) hit)).up 1).of (λf=>by simp[Bb,j])
 ·obtain⟨d,a,b',X,h1,h2,l,r,B,I,O,J⟩:=C;exact((Pt h1 h2 l (D 0 RM RM a I) (F 0 RM) r B (D 1 RM RM b' O) (D 2 RM RM X J)).up 1).of (λf=>by simp[Bb,fh,j];rfl)
 ·obtain⟨d,a,h1,h2,l,r,B⟩:=C;have L:d.s=⟨#[115,105,122,101]⟩:=oY l;exact((J0 h1 h2 r (D 0 RM RM a B) (F 0 RM) (G:=bY.size) (λv x w J hv hx hz=>by rw[L];exact Dl v x w J hv hx hz)).up 1).of (λf=>by simp[Bb,fh,j])
 ·obtain⟨d,a,h1,h2,l,r,B⟩:=C;have L:d.s=⟨#[115,117,109]⟩:=oY l;exact((J0 h1 h2 r (D 0 RM RM a B) (F 0 RM) (G:=jM) (λv x w J hv hx hz=>by rw[L];exact Gc v x w J hv hx hz)).up 1).of (λf=>by simp[Bb,fh,j])
 ·obtain⟨d,a,h1,h2,l,r,B⟩:=C;have L:d.s=⟨#[119,111,114,100]⟩:=oY l;exact((J0 h1 h2 r (D 0 RM RM a B) (F 0 RM) (G:=ia) (λv x w J hv hx hz=>by rw[L];exact Dk v x w J hv hx hz)).up 1).of (λf=>by simp[Bb,fh,j])
 ·obtain⟨d,a,b',h1,h2,l,r,B,I⟩:=C;have R:JZ d.op/\((d.op==49)=false/\(d.op==91)=false/\(d.op==63)=false/\(d.op==101)=false/\(d.op==115)=false):=by
   rw[h2];have P:=U j;simp only[aP,RG,QL]at P;rcases P with e|e|e<;>rw[e]<;>(unfold JZ;decide)
  exact((Dm h1 R.1 R.2 l r (D 0 RM RM a B) (D 1 RM RM b' I) (F 0 RM) (F 1 RM) 13 t.op (.inr ⟨rfl,U j⟩) h2).up 1).of (λf=>by simp[Bb,fh,j])
 ·obtain⟨d,a,b',h1,h2,l,r,B,I⟩:=C;exact((OV h1 h2 l (D 0 RM RM a B) (F 0 RM) r (D 1 RM RM b' I)).up 1).of (λf=>by simp[Bb,j])
 all_goals
  obtain⟨d,a,b',h1,h2,l,r,B,I⟩:=C;obtain⟨o1,o2⟩:=Jz M RM;have S:=N b _ a it o1 (K.cG (jE RM)) B hb hit;have T:=λu (hu:L3 u)=>N true _ b' (some u) o2 (K.cG (jE RM)) I (λ_=>⟨u,rfl⟩) (λv hv=>by cases hv;exact hu);have Q:=λu (hu:L3 u)=>nE n (t:=t.cG 1) (it:=some u) (K.cG (jE RM)) (λv hv=>by cases hv;exact hu)
  first
  |exact(J4 (b:=true) h1 h2 l S (F 0 RM) (q:=λu f=>tr n (t.cG 1) (some u) f) r T Q).of (λf=>by simp[Bb,j,tI];rfl)
  |exact(J4 (b:=false) h1 h2 l S (F 0 RM) (q:=λu f=>tr n (t.cG 1) (some u) f) r T Q).of (λf=>by simp[Bb,j,tI];rfl)
def Dq(c:Cx):∀(n m:Nat) (b:Bool) (t:bY.T) (x:Nat) (it:Option V),ib n b t=true->LA t->nB c.ns m x t->(b=true->∃u,it=some u)->(∀u,it=some u->L3 u)->nF c x it (tr n t it) 0
 |0,_,_,_,_,_,h,_,_,_,_=>by cases h
 |n+1,0,_,_,_,_,_,_,h,_,_=>h.elim
 |n+1,m+1,b,t,x,it,D,C,l,hb,hit=>by
  obtain⟨k1,k2,k3,k4,K,L,M,N⟩:=Bd D;unfold nB at l;by_cases j:t.cq=1
  ·rw[ag j]at l;obtain⟨d,a,b',h1,h2,z,B,I,J⟩:=l;have hl:t.parts.length=2:=by rcases k3 with e|e;omega;rw[e,j];rfl
   have G:∀i,i<2->∀x,nB c.ns m x (t.cG i)->nF c x it (tr n (t.cG i) it) 0:=λi hi x hx=>Dq c n m b _ x it (zu D RM _ (jE RM)) (C.cG (jE RM)) hx hb hit;have E:∀i,i<2->pa (tr n (t.cG i) it) 0:=λi hi=>nE n (C.cG (jE RM)) hit;have r:=K j;have F:JZ d.op/\((d.op==49)=false/\(d.op==91)=false/\(d.op==63)=false/\(d.op==101)=false/\(d.op==115)=false):=by
    rw[h2];simp only[aP,RG,QL]at r;rcases r with e|e|e|e|e|e<;>rw[e]<;>(unfold JZ;decide)
   exact(Dm h1 F.1 F.2 z B (G 0 RM a I) (G 1 RM b' J) (E 0 RM) (E 1 RM) 1 t.op (.inl ⟨rfl,r⟩) h2).of (λf=>by
    have e1:tr (n+1) t it f=fh (λu f=>tr n u it f) t f:=by
     show(if t.cq=1 then fh (λu f=>tr n u it f) t f else _)=_;exact ag j
    rw[e1];simp[fh,j])
  rw[ae j]at l;obtain⟨d,y,h1,h2,z,B⟩:=l;exact(PS h1 h2 z (NZ (λb t x it=>Dq c n m b t x it) D C B j hb hit)).of (λf=>(Pq j it f).symm)
end Ref
end
