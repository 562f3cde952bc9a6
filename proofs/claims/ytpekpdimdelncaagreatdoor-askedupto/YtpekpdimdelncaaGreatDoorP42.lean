/- Out of Bh. -/
import Derived.Test.YtpekpdimdelncaaGreatDoorP39
import Derived.Test.YtpekpdimdelncaaGreatDoorP41
set_option linter.unusedVariables false
set_option linter.unusedSimpArgs false
set_option maxRecDepth 100000
set_option maxHeartbeats 8000000
set_option linter.defProp false
namespace Go.Proofs.YtpekpdimdelncaaGreatDoor
open Go.RowKit Go.Shelf
section
open bY
open Tryz
namespace Ref
attribute [local go_sem] Ps NW
def Dr{w:QV}{z:Nat}{s:LS}{rn:List (a_)}{L:Nat->Prop}{es:List En}{p:List (a_×Wo)}{G J I M K:Xa}(h:fW w z s rn L es p G J I M K)(l:ba)(hlen:s.b_.length<=1000):∃g e w3,(Builtin.append_ #[40,40] 40 #[I,.slice (some ⟨w.1.size,0,none⟩) 1 1]).run prog (w.alloc (.cells #[.string l] 9))=.ok (.slice (some ⟨g,0,none⟩) (s.b_.length+1) e) w3 /\fW (w3.setCell ⟨z,3,none⟩ (.slice (some ⟨g,0,none⟩) (s.b_.length+1) e)) z { s with b_:=s.b_++[l.1.1] } rn (λk=>L k\/k=g) es p G J (.slice (some ⟨g,0,none⟩) (s.b_.length+1) e) M K/\(∀k,(L k\/k=g)->L k\/w.1.size<=k)/\ed L w (w3.setCell ⟨z,3,none⟩ (.slice (some ⟨g,0,none⟩) (s.b_.length+1) e))/\(∃v,w3.cell? ⟨z,3,none⟩=some v)/\w3.frozen? ⟨z,3,none⟩=false/\z<w3.1.size:=by
 have m:Xb w (w.alloc (.cells #[.string l] 9)):=(Uz _ w).alloc (af _) _;have h2:=h.below m;have Q:=heap_alloc_new w (.cells #[.string l] 9);have r:str l.1.1=.string l:=lF rfl;have N:8<=w.1.size:=ah (h.ct _ h.here).1 (aE (h.ct.lt h.here));obtain⟨g',e,w3,S,R,O,P,hold⟩:=iE 40 40 9 _ 1 16 underlying40 qf rfl RZ _ s.b_.length (s.b_.map str) h2.b_ ⟨w.1.size,0,none⟩ 1 [str l.1.1] rfl (λj u hj=>by
  rw[addr_add,aI];simp only[World.cell?,Q]
  match j,hj with
  |0,hj=>simp at hj;rw[<-hj,r];rfl) (λu hu=>by
  simp at hu;rw[hu,r];rfl) RM R6 (ah N m.size)
 exact⟨g',e,w3,S,h.Mg l.1.1 m R O P hold⟩
def OX(y:qc):∃a b c d e f,dB y=[a,b,c,d,e,f]:=by
 obtain⟨k,m,u,v⟩:=y;cases u<;>cases v<;>exact⟨_,_,_,_,_,_,rfl⟩
def Mt{w:QV}{C:Nat}{y:qc}{t:TypeId}(h:w.1[C]?=some (.cells (dB y).toArray t (0,0)))(a b c d e f:Xa):((((((w.setCell ⟨C,0,none⟩ a).setCell ⟨C,1,none⟩ b).setCell ⟨C,2,none⟩ c).setCell ⟨C,3,none⟩ d).setCell ⟨C,4,none⟩ e).setCell ⟨C,5,none⟩ f).1[C]?=some (.cells #[a,b,c,d,e,f] t (0,0))/\ed (λk=>k=C) w ((((((w.setCell ⟨C,0,none⟩ a).setCell ⟨C,1,none⟩ b).setCell ⟨C,2,none⟩ c).setCell ⟨C,3,none⟩ d).setCell ⟨C,4,none⟩ e).setCell ⟨C,5,none⟩ f):=by
 obtain⟨a',b',I,d',e',f',hy⟩:=OX y;rw[hy]at h;have m:=heap_setCell_same w C 0 _ _ a h;have h1:=heap_setCell_same _ C 1 _ _ b m;have h2:=heap_setCell_same _ C 2 _ _ c h1;have p:=heap_setCell_same _ C 3 _ _ d h2;have r:=heap_setCell_same _ C 4 _ _ e p;have u:=heap_setCell_same _ C 5 _ _ f r;have hf:∀(w:QV) (j:Nat) (v:Xa),ed (λk=>k=C) w (w.setCell ⟨C,j,none⟩ v):=λw j v=>⟨rfl,rfl,rfl,by simp,λk J G=>UI w ⟨C,j,none⟩ k v G⟩;exact⟨u,iR (iR (iR (iR (iR (hf _ _ _) (hf _ _ _)) (hf _ _ _)) (hf _ _ _)) (hf _ _ _)) (hf _ _ _)⟩
def q9(y:qc):∃(k1 k2 b1 b2:ba) (a1 e:Int),dB y=[.string k1,.string k2,.int .i64 a1,.string b1,.int .i64 e,.string b2]:=by
 obtain⟨k,m,u,v⟩:=y;cases u<;>cases v<;>exact⟨_,_,_,_,_,_,rfl⟩
def Mu(z:Nat)(rn:List (a_))(B:QV)(E:Nat->Prop)(x:Nat)(Q:Wo×LS)(w:QV):Prop :=∃e,Me z Q.2 rn x Q.1 w e/\(∀k,e k->E k\/B.1.size<=k)/\(∀k,E k->e k)/\ed E B w
section
variable {z n:Nat} {rn:List (a_)} {B:QV} {E:Nat->Prop} {C:Nat} {l:a_} {t:bY.T} {o:Option fM} {D:LS} {b:Bool} {i:Nat} {F:LS} {y:qc} {wr:QV}
def qp.stood(h:qp z n rn B E C l t o D true i F y wr){x:Nat}{p:a_×cu}(I:F.cm[x]?=some p)(J:p.1=l)(u:p.2.kept=o)(G:l∉rn)(hi:(jG o).length<=i):Mu z rn B E x (eZ (cC n) l t o D) wr:=by
 obtain⟨kp,e,_⟩:=h.at_.MZ;rw[h.at_.stands e (by rw[e]at hi;exact hi)];obtain⟨j,h1,h2,m,r,_⟩:=h.w;exact⟨j,h1.dQ I (by rw[J];exact G) (by rw[u,e]),h2,m,r⟩
def qp.du(says:vP z n)(I:sO n D)(Y:∀k∈rn,k∈D.b_)(h:qp z n rn B E C l t o D false i F y wr){x:Nat}{p:a_×cu}(X:F.cm[x]?=some p)(r:p.1=l)(Z:p.2.dc=some t)(U:bY.cr F.cm l=some p.2)(V:l∉rn)(T:l∈D.b_){k1 k2 b1 b2:ba}{a1 m:Int}(hy:dB y=[.string k1,.string k2,.int .i64 a1,.string b1,.int .i64 m,.string b2]):Calls prog 151 #[ptr z,.int .i64 (x:Int),.agg #[.string k1,.string k2,.int .i64 a1,.string b1,.int .i64 m,.string b2]] wr λe w'=>e=.returned (.tuple #[])/\Mu z rn B E x (eZ (cC n) l t o D) w':=by
 rw[h.at_.runs];obtain⟨L,h1,h2,S,u,_⟩:=h.w;have G:=I.due h.p8 h.le h.fs h.ph;have J:=J5 z n says wr F rn L h1 x p X (by rw[r];exact U) t Z (by rw[r];exact V) (λk j=>by
  rw[h.kb.1];rcases aP.1 j with rfl|j
  ·rw[r];exact T
  ·exact Y k j) y hy h.fs (by have:=G.du;omega) G.hl.len (λs' c a1 m M N=>I.run (h.p8.le h.le) h.ph y a1 m M N)
 rw[r]at J;refine J.mono ?_;rintro e w'⟨rfl,K,O,P,Q,R⟩;have hs:=u.size;refine⟨rfl,K,O,λk j=>?_,λk j=>Q k (S k j),u.trans R h2⟩;rcases P k j with h|h
 ·exact h2 k h
 exact .inr RM
end
def Gh{z n:Nat}{rn:List (a_)}{B:QV}{E:Nat->Prop}{kY:ba}{t:bY.T}{o:Option fM}{D:LS}(h:fA z D rn B E)(p:sO n D):qp z n rn B E B.1.size kY.1.1 t o D o.isSome 0 D ⟨kY.1.1,[],.error 0,.error 0⟩ (B.alloc (.cells #[.string kY,.string ⟨#[]⟩,.int .i64 0,.string ⟨#[]⟩,.int .i64 0,.string ⟨#[]⟩] 199)):=by
 have j:Xb B (B.alloc (.cells #[.string kY,.string ⟨#[]⟩,.int .i64 0,.string ⟨#[]⟩,.int .i64 0,.string ⟨#[]⟩] 199)):=(Uz _ B).alloc (af _) _;have m:=heap_alloc_new B (.cells #[.string kY,.string ⟨#[]⟩,.int .i64 0,.string ⟨#[]⟩,.int .i64 0,.string ⟨#[]⟩] 199);refine⟨lZ.start n kY.1.1 t o D,⟨E,h.below j,λk e=>.inl e,λk e=>e,ed.below j,λhl=>by have:=h.ct.lt hl;omega,?_,af _⟩,Kb.refl _ _,jg.refl _ 0,p.fs,af _,by omega⟩;rw[m];have:dB ⟨kY.1.1,[],.error 0,.error 0⟩=[.string kY,.string ⟨#[]⟩,.int .i64 0,.string ⟨#[]⟩,.int .i64 0,.string ⟨#[]⟩]:=by
  show str kY.1.1 :: _=_;rw[dF];rfl
 rw[this]
def Ds(z n:Nat)(says:vP z n)(w:QV)(s:LS)(rn:List (a_))(L:Nat->Prop)(l:ba)(h:fA z s rn w L)(aa:vM (n+1) s)(dk:∀k∈rn,k∈s.b_){th:cu}{t:bY.T}(ax:bY.cr s.cm l.1.1=some th)(ht:th.dc=some t)(hr:bY.cr s.done l.1.1=none)(hc:s.b_.contains l.1.1=false):Calls prog 109 #[ptr z,.string l] w λe w'=>e=.returned (dw (dq (cC n) l.1.1 { s with b_:=s.b_++[l.1.1] }).1)/\eX (fA z { (dq (cC n) l.1.1 { s with b_:=s.b_++[l.1.1] }).2 with b_:=s.b_,done:=bY.put (dq (cC n) l.1.1 { s with b_:=s.b_++[l.1.1] }).2.done l.1.1 (dq (cC n) l.1.1 { s with b_:=s.b_++[l.1.1] }).1 } rn) w L w':=by
 have dy:dq (cC n) l.1.1 { s with b_:=s.b_++[l.1.1] }=eZ (cC n) l.1.1 t th.kept { s with b_:=s.b_++[l.1.1] }:=by
  unfold dq;simp only[ax,ht]
 have cb:l.1.1∈bY.dE s.cm:=h_ ax (by rw[ht];rfl);have c':=qZ n l.1.1 { s with b_:=s.b_++[l.1.1] } aa.kb ax ht;have a7:(dq (cC n) l.1.1 { s with b_:=s.b_++[l.1.1] }).2.b_=s.b_++[l.1.1]:=(zw (pd n) l.1.1 { s with b_:=s.b_++[l.1.1] }).1;have bn:l.1.1∈bY.dE (dq (cC n) l.1.1 { s with b_:=s.b_++[l.1.1] }).2.cm:=by rw[<-eE,c'.cX,eE];exact cb
 have bl:bY.cr (dq (cC n) l.1.1 { s with b_:=s.b_++[l.1.1] }).2.done l.1.1=none:=(c'.dn l.1.1 (by show _∈s.b_++[_];simp)).trans hr;have bm:=xF n l.1.1 s aa.kb aa.mM;have bS:=aa.work ax ht hc;generalize dq (cC n) l.1.1 { s with b_:=s.b_++[l.1.1] }=Q at *;have bk:l.1.1∉rn:=λG=>by
  have:=dk _ G;rw[<-R4,hc]at this;cases this
 have hl:s.cm.length<=1000:=by have:=aa.hl.len;omega
 have h1:=h.below (dZ w);have hF:=mI (dR w) z s rn L l h1 hl;have heq:=zx;obtain⟨es,T,vA,vF,vB,vR,vN,h1⟩:=h1;obtain⟨c0,_,c2,c3,c4,_,cf⟩:=h1.cells;have hD:=cj h1.eb;obtain⟨b0,b1,b2,b3,b4⟩:=cM (eP w);have cL:=h1.fr.dE _ cb;rw[hr]at cL;have g4:T.length<=1000000:=ah h1.fr.len (by have:=aa.mM;omega);have hlen:s.b_.length<=200:=by have:=aa.b_;omega
 obtain⟨gP,ct,w3,ay,bt,bu,bg,⟨v3,fo⟩,e8,e9⟩:=Dr h1 l RM;obtain⟨oF,cF,rfl⟩:=dP h1.fresh;obtain⟨oB,cB,rfl⟩:=dP h1.b_;have hJ:z<w.1.size:=h.ct.lt SP;have cy:∀k,L k->k<w.1.size:=λk j=>h.ct.lt j;have f4:(w3.setCell ⟨z,3,none⟩ (.slice (some ⟨gP,0,none⟩) (s.b_.length+1) ct)).1[w.1.size]?=some (.cells #[.int .i64 0,.string ⟨#[]⟩] 166 (0,0)):=(bg.block _ (cj (eP w)) (λG=>by have:=cy _ G;omega)).trans (eP w);have HH:=bZ h1;have cn:=bZ ay;have HP:=bZ (And.intro bt (And.intro bu bg));have HZ:=bZ f4;have HB:=bZ (dZ w);have cl:=bZ cy;unfold ptr at hF ⊢;have HF:=bZ hF;unfold dR at *;go_enter func109,ntmps109;go_wp2_with fail;generalize w.alloc (.cells #[.int .i64 0,.string ⟨#[]⟩] 166)=W0 at *;refine HF.Z.mono ?_;rintro e w'⟨f0,hx⟩;have bX:=f0.symm;subst bX;rcases hx with⟨hn,rfl⟩|⟨x,f8,hp,e7,rfl⟩
 ·exact(nL cb hn).elim
 obtain rfl:th=f8:=aB (ax.symm.trans e7);obtain⟨e,g,co,he,hE,hv,hg,eh⟩:=HH.Z.entry hp;subst hv;have z2:=eh 2 _ rfl;have hi:=(az.1 hp).1;have hB:(x:Int)<(s.cm.length:Int):=RM;rcases hE.eY with⟨h3,_⟩|⟨t',ns,m,o,c,h4,_,h5,_⟩
 ·have h3:th.dc=none:=h3;rw[ht]at h3;cases h3
 rw[h5]at z2;go_wp2_with fail
 go_loopw [6] (λiv wr=>∃i:Nat,iv=.int .i64 (i:Int)/\i<=T.length/\W0=wr) (λiv _=>T.length-(intOf iv).toNat)
 case atStart=>exact⟨0,rfl,au _,rfl⟩
 case round =>
  obtain⟨k,rfl,j,rfl⟩:=hrel;by_cases c7:k<T.length
  ·have bq:(k:Int)<(T.length:Int):=RM;have J:=aq c7;have N:T[k]∈T:=Q4 c7;generalize T[k]=q at J N;obtain⟨gF,gx,hv,ha,ej⟩:=iI xS RZ HH.Z.fresh J;cases hv;obtain⟨xx,aC⟩:∃x:ba,str q.1=.string x:=⟨_,rfl⟩;have bx:=fG aC;have y0:=ej 0 (.string xx) (by rw[<-aC];rfl);simp only[Qc]at y0;have bK:=jb xx l;rw[aF (λe=>jm.1 cL q N (bx.symm.trans e))]at bK;go_wp2_with fail;refine⟨⟨k+1,by go_num,by omega,by first|rfl|trivial⟩,?_⟩;simp[intOf];omega
  have bq:¬(k:Int)<(T.length:Int):=RM;go_wp2_with fail
  go_loopw [7] (λiv wr=>∃i:Nat,iv=.int .i64 (i:Int)/\i<=s.b_.length/\W0=wr) (λiv _=>s.b_.length-(intOf iv).toNat)
  case atStart=>exact⟨0,rfl,au _,rfl⟩
  case round =>
   obtain⟨k2,rfl,e6,rfl⟩:=hrel;by_cases bP:k2<s.b_.length
   ·have bq:(k2:Int)<(s.b_.length:Int):=RM;have J:=aq bP;have N:s.b_[k2]∈s.b_:=Q4 bP;generalize s.b_[k2]=q at J N;obtain⟨gB,gv,hv,gW,g9,y0⟩:=nM HH.Z.b_ J;cases hv;obtain⟨xx,aC⟩:∃x:ba,str q=.string x:=⟨_,rfl⟩;have bx:=fG aC;rw[aC]at y0;have bK:=jb xx l;rw[aF (λe=>by rw[<-R4,<-bx,e,hc]at N;cases N)]at bK;clear J N aC bx;go_wp2_with fail;refine⟨⟨k2+1,by go_num,by omega,by first|rfl|trivial⟩,?_⟩;simp[intOf];omega
   have bq:¬(k2:Int)<(s.b_.length:Int):=RM
   go_upto_region 19 with(at_builtin;refine cY _ rfl _ _ _ _ rfl _ _ _ _ rfl rfl cn.Z ?_)
   obtain⟨h2,ad,ao⟩:=HP.Z;generalize w3.setCell ⟨z,3,none⟩ (.slice (some ⟨gP,0,none⟩) (s.b_.length+1) ct)=B at *;obtain⟨e2,g2,gg,em,cx,du,ey,bo⟩:=h2.entry hp;have eV:some g=some g2:=congrArg Value.ownBlock du;cases eV;have y3:=bo 3 _ rfl;have cE:e2.kept=th.kept.isSome:=by
    have:=cx.kept.is;rw[ae bk]at this;exact this
   rw[cE]at y3;obtain⟨d0,_⟩:=h2.cells;have fd:=cj h2.eb;have bH:fA z { s with b_:=s.b_++[l.1.1] } rn B (λk=>L k\/k=gP):=⟨_,_,_,_,_,_,_,h2⟩;have cw:=Gh (kY:=l) (t:=t) (o:=th.kept) bH bS;have dg:({ s with b_:=s.b_++[l.1.1] }:LS).cm[x]?=some (l.1.1,th):=hp;have cU:l.1.1∈({ s with b_:=s.b_++[l.1.1] }:LS).b_:=by show _∈s.b_++[_];simp
   have dj:∀k∈rn,k∈({ s with b_:=s.b_++[l.1.1] }:LS).b_:=λk j=>Qr _ (dk k j);have c5:bY.cr ({ s with b_:=s.b_++[l.1.1] }:LS).cm l.1.1=some th:=ax;generalize ({ s with b_:=s.b_++[l.1.1] }:LS)=S1 at *;have ce:=bZ cw;have ch:=bZ (And.intro ad (And.intro ao bH));have HW:=bZ dy;have HQ:=bZ (And.intro a7 (And.intro bn (And.intro bl bm)));have a3:=bZ bS;have S:=bZ (And.intro dg (And.intro cU (And.intro dj c5)));clear cw ad ao bH cx bo em du h2 cE dy a7 bn bl bm bS dg cU dj c5 cn HP HH aa b0 b1 b2 b3 c0 c2 c3 c4 cf z2;go_wp2_with fail
   go_loopw [8,10] (λsv iv wr=>∃(b:Bool) (i:Nat) (F:LS) (y:qc),sv=.bool b/\iv=.int .i64 (i:Int)/\i<=401/\Hid (qp z n rn B (λk=>L k\/k=gP) B.1.size l.1.1 t th.kept S1 b i F y wr)) (λ_ iv _=>402-(intOf iv).toNat)
   case atStart=>exact⟨_,0,_,_,rfl,rfl,au _,ce⟩
   case round =>
    clear ce bq bP e6 y3 d0 fd ey fo e8 e9;obtain⟨b,i,F,y,rfl,rfl,hw,M⟩:=hrel;obtain⟨p',Lk,hA,dc,bt,bu,bg,df,g3,gi,oN,cN,d0,d1,d2,d3,d4,ak⟩:=M.Z.entry S.Z.1 S.Z.2.2.2 S.Z.2.1 bk rfl;have hK:(x:Int)<(F.cm.length:Int):=RM;obtain⟨nl,ai⟩:∃nl,(jG th.kept).length=nl:=⟨_,rfl⟩;rw[ai]at d4 ak;have am:=bZ (And.intro ak ai);have P:=bZ (And.intro hA (And.intro dc (And.intro bt (And.intro bu (And.intro bg df)))));clear ak ai hA dc bt bu bg df
    go_upto_region 22 with fail
    go_cut [136]from 123 to 164 (λv wx=>v=.bool (decide ((i:Int)<(nl:Int))&&b)/\wr=wx)
    case first =>
     by_cases bp:(i:Int)<(nl:Int)
     ·go_wp2_with fail
      go_meet
      case rel=>exact⟨by rw[aS bp];simp,rfl⟩
     go_wp2_with fail
     go_meet
     case rel=>exact⟨by rw[aF (show ¬(i:Int)<(nl:Int) by omega)];simp,rfl⟩
    case rest =>
     obtain⟨rfl,rfl⟩:=hcut;cases hv:(decide ((i:Int)<(nl:Int))&&b) with
     |true =>
      rw[QB]at hv;obtain⟨bp,rfl⟩:=hv;have bp:=of_decide_eq_true bp;obtain⟨kp,bd,eY⟩:=M.Z.at_.MZ;have br:jG th.kept=kp.cO:=by rw[bd];rfl
      obtain⟨ak,ai⟩:=am.Z;have c8:i<(jG th.kept).length:=RM;have J:=aq c8;generalize (jG th.kept)[i]=q at J;rw[<-ai]at ak d4;obtain⟨gN,gz,fP,hh,a9⟩:=iI xS RZ ak J;cases fP;rw[ai]at d4;obtain⟨O,sq,bW⟩:=dG q.2;have ca:ei q.2=[.int .i64 O,.string sq]:=by
       obtain⟨q1,q2⟩:=q;cases q2<;>(cases bW;rfl)
      obtain⟨xq,bz⟩:∃x:ba,str q.1=.string x:=⟨_,rfl⟩;have bf:eA q=[.string xq,.int .i64 O,.string sq]:=by unfold eA;rw[ca,bz]
      rw[bf]at a9;have y0:=a9 0 _ rfl;have y1:=a9 1 _ rfl;have y2:=a9 2 _ rfl;simp only[Qc]at y0;have cV:kp.cO.length<=401:=a3.Z.kb _ (aL S.Z.1) kp bd;have N:q∈kp.cO:=by rw[<-br];exact aL J
      have bT:gK q.2:=(a3.Z.fs.kept l.1.1 kp (by unfold cS;rw[S.Z.2.2.2];exact bd)).2.2 q N;have bc:=M.Z.call says a3.Z S.Z.2.2.1 bd (by rw[<-br];exact J) cV bT ((Uz _ wr).alloc (af _) (.cells #[.string xq,.int .i64 O,.string sq] 204)) (fG bz);generalize cC n q.1 F=R at bc;obtain⟨tc,ts,ab⟩:=dG R.1;have U:ei R.1=[.int .i64 tc,.string ts]:=by
       have:=ab;generalize R.1=r at this;cases r<;>(cases this;rfl)
      rw[ab]at bc;unfold ptr at bc;have dz:dB ⟨l.1.1,q.1,q.2,R.1⟩=[.string l,.string xq,.int .i64 O,.string sq,.int .i64 tc,.string ts]:=by
       show str l.1.1 :: str q.1 :: (ei q.2++ei R.1)=_;rw[ca,U,bz,dF];rfl
      have cQ:i+1<=401:=by rw[br]at c8;omega
      have HC:=bZ bc;have a4:=bZ (And.intro bW (And.intro ab (And.intro bT dz)));clear bc bW ab bT dz ca U bz bf a9 cV N J br eY ak ai am M P bd
      apply_assumption
      go_upto_region 26 with(go_at_call 109;refine HC.Z.mono ?_;rintro ec p ⟨rfl,cR,fk,cG,⟨bN,ek⟩,cA,c9⟩)
      have bJ:p.1[wr.1.size]?=some (.cells #[.string xq,.int .i64 O,.string sq] 204 (0,0)):=(cR wr.1.size (af _) R2).trans (heap_alloc_new wr _);obtain⟨b5,b6,b7,b8,b9⟩:=cM (nK p tc ts);have bj:=eB p tc ts;have a8:=(bj.block _ (cj bJ)).trans bJ;have m0:(gO p tc ts).cell? ⟨wr.1.size,0,none⟩=some (.string xq):=by simp[World.cell?,a8]
      have m1:(gO p tc ts).cell? ⟨wr.1.size,1,none⟩=some (.int .i64 O):=by simp[World.cell?,a8]
      have m2:(gO p tc ts).cell? ⟨wr.1.size,2,none⟩=some (.string sq):=by simp[World.cell?,a8]
      have m3:=cj a8;have K:=(bj.block _ (cj bN)).trans bN;have dp:=Mt K (.string l) (.string xq) (.int .i64 O) (.string sq) (.int .i64 tc) (.string ts);obtain⟨v0,v1,v2,f9,v4,v5,a0⟩:=OX y;have k7:=cj K;have kf:∀o,(gO p tc ts).frozen? ⟨B.1.size,o,none⟩=false:=λo=>by simp[World.frozen?,K]
      rw[a0]at K;have k0:(gO p tc ts).cell? ⟨B.1.size,0,none⟩=some v0:=by simp[World.cell?,K]
      have k1:(gO p tc ts).cell? ⟨B.1.size,1,none⟩=some v1:=by simp[World.cell?,K]
      have dQ:(gO p tc ts).cell? ⟨B.1.size,2,none⟩=some v2:=by simp[World.cell?,K]
      have k3:(gO p tc ts).cell? ⟨B.1.size,3,none⟩=some f9:=by simp[World.cell?,K]
      have k4:(gO p tc ts).cell? ⟨B.1.size,4,none⟩=some v4:=by simp[World.cell?,K]
      have k5:(gO p tc ts).cell? ⟨B.1.size,5,none⟩=some v5:=by simp[World.cell?,K]
      have bU:=Gb cG a4.Z.2.2.1 a4.Z.2.1 a4.Z.1;change Code.wp _ _ _ _ (gO p tc ts);have V:=bZ (And.intro cA (And.intro c9 (And.intro bj dp)));have bE:=bZ a4.Z.2.2.2;clear cA c9 bj dp K a8 bJ cR fk cG bN ek HC a4 a0 y0 y1 y2 d0 d1 d2 d3 d4;generalize gO p tc ts=W6 at *
      go_cut [157]from 123 to 164 (λv wx=>v=.bool (!(iY R.1 q.2))/\W6=wx)
      case first =>
       have bD:=bZ bU;clear bU k0 k1 dQ k3 k4 k5 kf k7;by_cases dr:tc=O
       ·have bw:(tc==O)=true:=P'.2 dr;cases dn:(ts.toList==sq.toList) with
        |true =>
         go_wp2_with fail
         go_meet
         case rel=>exact⟨by rw[<-bD.Z];simp[bw,dn],rfl⟩
        |false =>
         go_wp2_with fail
         go_meet
         case rel=>exact⟨by rw[<-bD.Z];simp[bw,dn],rfl⟩
       have bw:(tc==O)=false:=aw.2 dr;go_wp2_with fail
       go_meet
       case rel=>exact⟨by rw[<-bD.Z];simp[bw],rfl⟩
      case rest =>
       obtain⟨rfl,rfl⟩:=hcut;clear bU;cases bv:iY R.1 q.2 with
       |true =>
        have bB:=bZ ((V.Z.1 bv).below V.Z.2.2.1);clear b5 b6 b7 b8 V bE bv k0 k1 dQ k3 k4 k5 kf k7 m0 m1 m2 m3
        apply_assumption
        go_wp2_with fail
        go_roundw
        case rel=>exact⟨true,i+1,_,_,rfl,by go_num,cQ,bB⟩
        case measure=>simp[intOf];omega
       |false =>
        have bB:=bZ (V.Z.2.1 bv _ (by rw[bE.Z];exact V.Z.2.2.2.1) ((ed.below V.Z.2.2.1).trans V.Z.2.2.2.2 (λk j=>.inl j)));clear V bE bv
        apply_assumption
        go_wp2_with fail
        go_roundw
        case rel=>exact⟨false,i+1,_,_,rfl,by go_num,cQ,bB⟩
        case measure=>simp[intOf];omega
     |false =>
      obtain⟨k1,hN,b1,b2,a1,a2,a0⟩:=q9 y;obtain⟨gV,bo,Z⟩:=M.Z.w.cells;rw[a0]at Z;have q0:=Z 0 _ rfl;have q1:=Z 1 _ rfl;have q2:=Z 2 _ rfl;have q3:=Z 3 _ rfl;have q4:=Z 4 _ rfl;have q5:=Z 5 _ rfl;have HY:=bZ a0;have HV:=bZ hv;clear a0 hv bo Z d0 d1 d2 d3 d4
      apply_assumption
      go_upto_if 166 with fail
      go_cut []from 167 to 170 (λwx=>Hid (Mu z rn B (λk=>L k\/k=gP) x Q wx))
      case first =>
       cases b with
       |true =>
        have d5:Hid (Mu z rn B (λk=>L k\/k=gP) x Q wr):=bZ (by
         rw[HW.Z];obtain⟨_,e1,e2,_,e4,_⟩:=P.Z;refine M.Z.stood e1 e2 e4 bk ?_;rw[am.Z.2];have:=HV.Z;rw[Bool.and_true]at this;have:=of_decide_eq_false this;omega)
        clear M P am HV q0 q1 q2 q3 q4 q5;go_wp2_with fail
        go_meet
        case rel=>exact d5
       |false =>
        have ay:=M.Z.du says a3.Z S.Z.2.2.1 P.Z.2.1 P.Z.2.2.1 (P.Z.2.2.2.1.trans ht) P.Z.2.2.2.2.2 bk S.Z.2.1 HY.Z;rw[<-HW.Z]at ay;unfold ptr at ay;have d7:=bZ ay;clear ay M P am HV;go_wp2_with(go_at_call 151;refine d7.Z.mono ?_;rintro er p ⟨rfl,eb⟩)
        go_meet
        case rel=>exact bZ eb
      case rest =>
       obtain⟨L5,⟨ea,bh,hO,hQ,hP,hV,hR,h5,e5,bO,dx⟩,av,a6,ap⟩:=hcut.Z;generalize wc=W5 at *;obtain⟨a7,bn,bl,bm⟩:=HQ.Z;obtain⟨gb,bG,fz,g0,h6,f6⟩:=h5.NU a7;subst fz;obtain⟨_,_,_,ga,_,_,gA⟩:=h5.cells;have hI:=cj h5.eb;have H6:=bZ (And.intro h6 f6);have ck:=bZ (And.intro av (And.intro a6 ap));have a5:=bZ dx;clear h5 h6 f6 av a6 ap a7 bn bl bm dx hcut M P am HV HY q0 q1 q2 q3 q4 q5 a3 S HW says
       apply_assumption
       go_upto_region 31 with fail
       go_cut []from 171 to 184 (λwx=>Hid (Below W5.1.size (W5.setCell ⟨z,3,none⟩ (.slice (some ⟨gb,0,none⟩) s.b_.length bG)) wx))
       case first =>
        go_region
        all_goals
         go_wp2_with fail
         go_meet
         case rel=>exact bZ ((Uz _ _).drew)
       case rest =>
        generalize wc=Y at *;have bI:Below (W5.setCell ⟨z,3,none⟩ (.slice (some ⟨gb,0,none⟩) s.b_.length bG)).1.size (W5.setCell ⟨z,3,none⟩ (.slice (some ⟨gb,0,none⟩) s.b_.length bG)) Y:=hcut.Z.mono R2;have I:=H6.Z.1.below bI;have f7:ed L5 W5 Y:=H6.Z.2.trans (ed.below bI) (λk j=>.inl j);obtain⟨f5,d9,rfl⟩:=dP I.fresh;obtain⟨g7,gj,fr,eU,bL⟩:=iI nG RZ I.all bO;subst fr;obtain⟨tc,ts,ab⟩:=dG Q.1;have U:ei Q.1=[.int .i64 tc,.string ts]:=by
         have:=ab;generalize Q.1=r at this;cases r<;>(cases this;rfl)
        have s5:=bL 5 (.int .i64 tc) (by show(ei e5.w)[0]?=_;rw[a5.Z,U];rfl);have s6:=bL 6 (.string ts) (by show(ei e5.w)[1]?=_;rw[a5.Z,U];rfl);obtain⟨c0,_,c2,_,_,_,cf⟩:=I.cells;have ff:=cj I.eb;have hL:(x:Int)<(ea.length:Int):=by have:=(az.1 bO).1;omega
        have g5:bh.length<=1000000:=ah I.fr.len HQ.Z.2.2.2;have gR:8<=Y.1.size:=ah (I.ct _ I.here).1 (aE (I.ct.lt I.here));obtain⟨ad,ao,_⟩:=ch.Z;obtain⟨av,a6,ap⟩:=ck.Z;have bX:=cj HZ.Z;have bQ:¬(L w.1.size\/w.1.size=gP):=λG=>by
         rcases ad _ G with G|G
         ·have:=cl.Z _ G;omega
         omega
        have bR:¬L5 w.1.size:=λG=>by
         rcases av _ G with G|G
         ·exact bQ G
         omega
        have cd:=(ap.block _ bX bQ).trans HZ.Z;have dK:=(f7.block _ (cj cd) bR).trans cd;have cI:∀(s':LS) (wz:QV) (Lz:Nat->Prop),fA z s' rn wz Lz->(∀k,Lz k->L5 k\/Y.1.size<=k)->(∀k,L5 k->Lz k)->ed L5 Y wz->wz.1[w.1.size]?=some (.cells #[.int .i64 0,.string ⟨#[]⟩] 166 (0,0))->∀a b,eX (fA z s' rn) w L ((wz.setCell ⟨w.1.size,0,none⟩ a).setCell ⟨w.1.size,1,none⟩ b):=λs' wz Lz r1 r2 r3 r4 r5 a b=>by
         have bV:∀k,L5 k->L k\/W0.1.size<=k:=λk j=>by
          rcases av k j with h|h
          ·exact ad k h
          exact .inr (ah ao.size h)
         have f1:ed L W0 W5:=ao.trans ap ad;have f2:ed L W0 Y:=f1.trans f7 bV;have f3:ed L W0 wz:=f2.trans r4 bV;refine eX.post (eX.pre HB.Z ⟨Lz,r1,λk j=>?_,λk j=>r3 k (a6 k (.inl j)),f3⟩) (kJ (af _) r5 _ _) (λL' ef=>ef.bx (kJ (af _) r5 _ _));rcases r2 k j with h|h
         ·exact bV k h
         exact .inr (ah f2.size h)
        have bf:eA (l.1.1,Q.1)=[.string l,.int .i64 tc,.string ts]:=by unfold eA;rw[U,dF]
        have bC:=bZ (λ(w1 w2:QV) (g co:Nat)=>I.F7 (kY:=l.1.1) (r:=Q.1) HQ.Z.2.1 HQ.Z.2.2.1 (w1:=w1) (w2:=w2) (g:=g) (cP:=co));rw[bf]at bC;have cm:=bZ I.fresh;have cg:=bZ cI;have bF:=bZ (And.intro dK bR);have d8:=bZ ab;have bA:=bZ (show e5.cells[5]?=some (.int .i64 tc)/\e5.cells[6]?=some (.string ts) from⟨by show(ei e5.w)[0]?=_;rw[a5.Z,U];rfl,by show(ei e5.w)[1]?=_;rw[a5.Z,U];rfl⟩);clear I f7 bL ab U ad ao av a6 ap cd dK bQ bR cI bf ch ck HZ HB H6 bI hcut a5 HQ cl
        apply_assumption
        go_upto_region 32 with fail
        go_region_law (refine jc rfl (.tmp 189) (.tmp 200) 98 rfl 204 _ 3 40 underlying98 Eg MX RZ (.slice f5 bh.length d9) _ (bh.flatMap eA) rfl (UL (w:=Y.drewN _) cm.Z _) ⟨Y.1.size,0,none⟩ 1 [.string l,.int .i64 tc,.string ts] rfl rfl (nH _ _ _ _) TC RM R6 R5 ?_;intro g1 cp w3 ho cO c6 hold;obtain⟨q1,q2,q3,⟨v0,fm⟩,ew,hG⟩:=bC.Z _ w3 g1 cp (qm _ _ _) ho cO c6 hold;have X:=bZ (And.intro q1 (And.intro q2 q3));clear bC q1 q2 q3 ho cO c6 hold)
        all_goals
         have cc:=(X.Z.2.2.block _ (cj bF.Z.1) bF.Z.2).trans bF.Z.1;obtain⟨e0,e1,e2,e3,e4⟩:=cM cc;obtain⟨gL,_⟩:=X.Z.1.cells;obtain⟨g8,gr,dv,g6,bM⟩:=iI nG RZ X.Z.1.all bO;have eW:some g7=some g8:=congrArg Value.ownBlock dv;cases eW;have t5:=bM 5 _ bA.Z.1;have t6:=bM 6 _ bA.Z.2;have hH:=cj X.Z.1.eb;have d6:=bZ (λa b=>cg.Z _ _ _ ⟨_,_,_,_,_,_,_,X.Z.1⟩ X.Z.2.1 (λk j=>.inl j) X.Z.2.2 cc a b);clear bM cc dv X cg cm bA c0 c2 s5 s6 eU ff fm ew;generalize w3.setCell ⟨z,2,none⟩ (.slice (some ⟨g1,0,none⟩) (bh.length+1) cp)=w4 at *;go_wp2_with fail;exact UA (v:=.agg #[.int .i64 tc,.string ts]) TH rfl ⟨by rw[d8.Z],d6.Z _ _⟩
end Ref
end
section
open bY
namespace Ref
variable{n:Nat}{K:a_}{s:LS}{b:a_->LS->Wo×LS}
def p6{r:Wo}(h:bY.cr s.done K=some r):cC (n+1) K s=(r,s):=by
 show eR _ _ _=_;unfold eR;rw[h]
def zD(h:bY.cr s.done K=none)(hc:s.b_.contains K=true):cC (n+1) K s=(.error 12,s.meet K):=by
 show eR _ _ _=_;unfold eR;rw[h];simp only;rw[ag hc]
def rB(h:bY.cr s.done K=none)(hc:s.b_.contains K=false):cC (n+1) K s=((dq (cC n) K { s with b_:=s.b_++[K] }).1,{ (dq (cC n) K { s with b_:=s.b_++[K] }).2 with b_:=s.b_,done:=bY.put (dq (cC n) K { s with b_:=s.b_++[K] }).2.done K (dq (cC n) K { s with b_:=s.b_++[K] }).1 }):=by
 have e:(dq (cC n) K { s with b_:=s.b_++[K] }).2.b_=s.b_++[K]:=(zw (pd n) K { s with b_:=s.b_++[K] }).1;show eR _ _ _=_;unfold eR;rw[h];simp only;rw[ae (by rw[hc];exact R0),e];simp
def Gi(h:K∉bY.dE s.cm):dq b K { s with b_:=s.b_++[K] }=(sn s K,{ s with b_:=s.b_++[K] }):=by
 unfold dq sn;cases hl:bY.cr s.cm K with
 |none=>simp only[hl]
 |some th =>
  cases e:th.dc with
  |none=>simp only[hl,e]
  |some t=>exact absurd (h_ hl SG) h
def M0(u:Nat):∀n,vP u n
 |0=>λw s rn L j h p _=>by have:=p.un;omega
 |n+1=>λw s rn L j h p E=>by
  have hl:s.cm.length<=1000:=by have:=p.hl.len;omega
  have z:s.done.length<=1000000:=by have:=p.mM;omega
  have hlen:s.b_.length<=1000:=by have:=p.b_;omega
  by_cases l:j.1.1∈bY.dE s.cm
  ·cases hd:bY.cr s.done j.1.1 with
   |some r =>
    rw[p6 hd];refine(zy w u s rn L j h hl z l hd).mono ?_;rintro e w'⟨rfl,m⟩;exact⟨rfl,eX.pre m (eX.refl (h.below m))⟩
   |none =>
    cases hc:s.b_.contains j.1.1 with
    |true =>
     rw[zD hd hc];exact Dj w u s rn L j h hl z l hd hc hlen
    |false =>
     cases y:bY.cr s.cm j.1.1 with
     |none=>exact(nL l y).elim
     |some th =>
      have C:(s.cm.map (·.1)).Nodup:=by obtain⟨_,_,_,_,_,_,_,h⟩:=h;exact h.nodup
      obtain⟨t,F⟩:=qo l y C;rw[rB hd hc];exact Ds u n (M0 u n) w s rn L j h p E y F hd hc
  have hb:=Bj w u s rn L j h hl l;cases hd:bY.cr s.done j.1.1 with
  |some r =>
   rw[p6 hd];have D:r=sn s j.1.1:=by
    obtain⟨_,_,_,_,_,_,_,h⟩:=h;exact h.fr.base _ r hd l
   rw[D];refine hb.mono ?_;rintro e w'⟨rfl,m⟩;exact⟨rfl,eX.pre m (eX.refl (h.below m))⟩
  |none =>
   cases hc:s.b_.contains j.1.1 with
   |true=>exact absurd (p.br _ (R4.1 hc)) l
   |false =>
    rw[rB hd hc,Gi l];refine hb.mono ?_;rintro e w'⟨rfl,m⟩;refine⟨rfl,eX.pre m (eX.refl ?_)⟩;obtain⟨es,B,G,J,I,N,M,h⟩:=h.below m;exact⟨es,B,G,J,I,N,M,h.Mh l rfl⟩
end Ref
end
