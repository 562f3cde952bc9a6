/- Out of Bh. -/
import Derived.Test.YtpekpdimdelncaaGreatDoorP30
import Derived.Test.YtpekpdimdelncaaGreatDoorP31
set_option linter.unusedVariables false
set_option linter.unusedSimpArgs false
set_option maxRecDepth 100000
set_option maxHeartbeats 8000000
set_option linter.defProp false
namespace Go.Proofs.YtpekpdimdelncaaGreatDoor
open Go.RowKit Go.Shelf
section
open bY
open Tryz
namespace Ref
attribute [local go_sem] QD O6
def Ea{w:Xa}{l:Nat}{s:LS}{rn:List (a_)}{L:Nat->Prop}{r:List En}{F:List (a_×Wo)}{I K J N M:Xb}(h:gj w l s rn L r F I K J N M)(key)(hlen:s.cm.length<=1000):∃g e w3,(Builtin.append_ #[40,40] 40 #[J,.slice (some ⟨w.1.size,0,none⟩) 1 1]).run prog (w.alloc (.cells #[.string key] 9))=.ok (.slice (some ⟨g,0,none⟩) (s.cm.length+1) e) w3 /\gj (w3.setCell ⟨l,3,none⟩ (.slice (some ⟨g,0,none⟩) (s.cm.length+1) e)) l {s with cm:=s.cm++[key.1.1]} rn (λk=>L k\/k=g) r F I K (.slice (some ⟨g,0,none⟩) (s.cm.length+1) e) N M/\(∀k,(L k\/k=g)->L k\/w.1.size<=k)/\eu L w (w3.setCell ⟨l,3,none⟩ (.slice (some ⟨g,0,none⟩) (s.cm.length+1) e))/\(∃v,w3.cell? ⟨l,3,none⟩=some v)/\w3.frozen? ⟨l,3,none⟩=false/\l<w3.1.size:=by
 have p:Xc w (w.alloc (.cells #[.string key] 9)):=(VM _ w).alloc (af _) _;have h2:=h.below p;have S:=heap_alloc_new w (.cells #[.string key] 9);have G:str key.1.1=.string key:=lR rfl;have P:8<=w.1.size:=ah (h.cz _ h.here).1 (aF (h.cz.lt h.here));obtain⟨O,e,w3,U,T,Q,R,hold⟩:=iN 40 40 9 _ 1 16 underlying40 qA rfl S4 _ s.cm.length (s.cm.map str) h2.cm ⟨w.1.size,0,none⟩ 1 [str key.1.1] rfl (λj u m=>by
  rw[addr_add,aG];simp only[World.cell?,S]
  match j,m with
  |0,m=>simp at m;rw[<-m,G];rfl) (λu hu=>by
  simp at hu;rw[hu,G];rfl) R5 Th (ah P p.size)
 exact⟨O,e,w3,U,h.Nf key.1.1 p T Q R hold⟩
def Qb(y):∃a b c d e f,dm y=[a,b,c,d,e,f]:=by
 obtain⟨k,m,u,v⟩:=y;cases u<;>cases v<;>exact⟨_,_,_,_,_,_,rfl⟩
def Nv{w:Xa}{B:Nat}{y:rS}{t:TypeId}(h:w.1[B]?=some (.cells (dm y).toArray t (0,0)))(a b c d e f):((((((w.setCell ⟨B,0,none⟩ a).setCell ⟨B,1,none⟩ b).setCell ⟨B,2,none⟩ c).setCell ⟨B,3,none⟩ d).setCell ⟨B,4,none⟩ e).setCell ⟨B,5,none⟩ f).1[B]?=some (.cells #[a,b,c,d,e,f] t (0,0))/\eu (λk=>k=B) w ((((((w.setCell ⟨B,0,none⟩ a).setCell ⟨B,1,none⟩ b).setCell ⟨B,2,none⟩ c).setCell ⟨B,3,none⟩ d).setCell ⟨B,4,none⟩ e).setCell ⟨B,5,none⟩ f):=by
 obtain⟨a',J,K,d',L,M,I⟩:=Qb y;rw[I]at h;have p:=heap_setCell_same w B 0 _ _ a h;have h1:=heap_setCell_same _ B 1 _ _ b p;have h2:=heap_setCell_same _ B 2 _ _ c h1;have r:=heap_setCell_same _ B 3 _ _ d h2;have u:=heap_setCell_same _ B 4 _ _ e r;have F:=heap_setCell_same _ B 5 _ _ f u;have m:∀(w:Xa) (j:Nat) (v:Xb),eu (λk=>k=B) w (w.setCell ⟨B,j,none⟩ v):=λw j v=>⟨rfl,rfl,rfl,by simp,λk N G=>VU w ⟨B,j,none⟩ k v G⟩;exact⟨F,ja (ja (ja (ja (ja (m _ _ _) (m _ _ _)) (m _ _ _)) (m _ _ _)) (m _ _ _)) (m _ _ _)⟩
def rA(y):∃k1 k2 b1 b2 e j,dm y=[.string k1,.string k2,.int .i64 e,.string b1,.int .i64 j,.string b2]:=by
 obtain⟨k,m,u,v⟩:=y;cases u<;>cases v<;>exact⟨_,_,_,_,_,_,rfl⟩
def Nx(l:Nat)(rn:List (a_))(z:Xa)(D:Nat->Prop)(x:Nat)(Q:Wo×LS)(w:Xa):Prop :=∃e,O2 l Q.2 rn x Q.1 w e/\(∀k,e k->D k\/z.1.size<=k)/\(∀k,D k->e k)/\eu D z w
section
variable {l n:Nat}{rn:List (a_)}{z:Xa}{D:Nat->Prop}{B:Nat}{key:a_}{t:bY.T}{o:Option gl}{C:LS}{b:Bool}{i:Nat}{E:LS}{y:rS}{wr:Xa}
def qH.stood(h:qH l n rn z D B key t o C true i E y wr){x:Nat}{p:a_×cC}(G:E.ct[x]?=some p)(I:p.1=key)(u:p.2.kept=o)(F:key∉rn)(hi:(jR o).length<=i):Nx l rn z D x (fg (cG n) key t o C) wr:=by
 obtain⟨J,e,_⟩:=h.at_.Ob;rw[h.at_.stands e (by rw[e]at hi;exact hi)];obtain⟨j,h1,h2,m,r,_⟩:=h.w;exact⟨j,h1.dR G (by rw[I];exact F) (by rw[u,e]),h2,m,r⟩
def qH.du(says:wI l n)(I:tB n C)(Z:∀k∈rn,k∈C.cm)(h:qH l n rn z D B key t o C false i E y wr){x:Nat}{p:a_×cC}(Y:E.ct[x]?=some p)(u:p.1=key)(ht:p.2.di=some t)(V:bY.cv E.ct key=some p.2)(X:key∉rn)(U:key∈C.cm){k1 k2 b1 b2:ba}{m r:Int}(hy:dm y=[.string k1,.string k2,.int .i64 m,.string b1,.int .i64 r,.string b2]):Calls prog 151 #[ptr l,.int .i64 x,.agg #[.string k1,.string k2,.int .i64 m,.string b1,.int .i64 r,.string b2]] wr λe K=>e=.returned (.tuple #[])/\Nx l rn z D x (fg (cG n) key t o C) K:=by
 rw[h.at_.runs];obtain⟨M,h1,h2,T,F,_⟩:=h.w;have G:=I.due h.p8 h.le h.fs h.ph;have J:=K7 l n says wr E rn M h1 x p Y (by rw[u];exact V) t ht (by rw[u];exact X) (λk j=>by
  rw[h.kb.1];rcases aK.1 j with rfl|j
  ·rw[u];exact U
  ·exact Z k j) y hy h.fs (by have:=G.du;omega) G.hl.len (λs' c m r N O=>I.run (h.p8.le h.le) h.ph y m r N O)
 rw[u]at J;refine b_ J λK ⟨L,P,Q,R,S⟩=>?_;have hs:=F.size;refine⟨rfl,L,P,λk j=>?_,λk j=>R k (T k j),F.trans S h2⟩;rcases Q k j with h|h
 ·exact h2 k h
 exact .inr R5
end
def G7{l n:Nat}{rn:List (a_)}{z:Xa}{D:Nat->Prop}{kY:ba}{t:bY.T}{o:Option gl}{C:LS}(h:fJ l C rn z D)(r:tB n C):qH l n rn z D z.1.size kY.1.1 t o C o.isSome 0 C ⟨kY.1.1,[],.error 0,.error 0⟩ (z.alloc (.cells #[.string kY,.string ⟨#[]⟩,.int .i64 0,.string ⟨#[]⟩,.int .i64 0,.string ⟨#[]⟩] 199)):=by
 have j:Xc z (z.alloc (.cells #[.string kY,.string ⟨#[]⟩,.int .i64 0,.string ⟨#[]⟩,.int .i64 0,.string ⟨#[]⟩] 199)):=(VM _ z).alloc (af _) _;have p:=heap_alloc_new z (.cells #[.string kY,.string ⟨#[]⟩,.int .i64 0,.string ⟨#[]⟩,.int .i64 0,.string ⟨#[]⟩] 199);refine⟨mz.start n kY.1.1 t o C,⟨D,h.below j,λk e=>.inl e,λk e=>e,eu.below j,λm=>by have:=h.cz.lt m;omega,?_,af _⟩,Kb.refl _ _,jk.refl _ 0,r.fs,af _,by omega⟩;rw[p];have:dm ⟨kY.1.1,[],.error 0,.error 0⟩=[.string kY,.string ⟨#[]⟩,.int .i64 0,.string ⟨#[]⟩,.int .i64 0,.string ⟨#[]⟩]:=by
  show str kY.1.1::_=_;rw[dG];rfl
 rw[this]
def Eb(l n)(says:wI l n)(w s rn L key)(h:fJ l s rn w L)(ad:wH (n+1) s)(dk:∀k∈rn,k∈s.cm){th:cC}{t:bY.T}(aC:bY.cv s.ct key.1.1=some th)(ht:th.di=some t)(hr:bY.cv s.done key.1.1=none)(hc:s.cm.contains key.1.1=false):Calls prog 109 #[ptr l,.string key] w λe w'=>e=.returned (dC (dE (cG n) key.1.1 {s with cm:=s.cm++[key.1.1]}).1)/\fb (fJ l {(dE (cG n) key.1.1 {s with cm:=s.cm++[key.1.1]}).2 with cm:=s.cm,done:=bY.put (dE (cG n) key.1.1 {s with cm:=s.cm++[key.1.1]}).2.done key.1.1 (dE (cG n) key.1.1 {s with cm:=s.cm++[key.1.1]}).1} rn) w L w':=by
 have dy:dE (cG n) key.1.1 {s with cm:=s.cm++[key.1.1]}=fg (cG n) key.1.1 t th.kept {s with cm:=s.cm++[key.1.1]}:=by
  unfold dE;simp only[aC,ht]
 have cd:key.1.1∈bY.dK s.ct:=iq aC (by rw[ht];rfl);have c':=ry n key.1.1 {s with cm:=s.cm++[key.1.1]} ad.kb aC ht;have a9:(dE (cG n) key.1.1 {s with cm:=s.cm++[key.1.1]}).2.cm=s.cm++[key.1.1]:=(z7 (pD n) key.1.1 {s with cm:=s.cm++[key.1.1]}).1;have bp:key.1.1∈bY.dK (dE (cG n) key.1.1 {s with cm:=s.cm++[key.1.1]}).2.ct:=by rw[<-eL,c'.dd,eL];exact cd
 have bn:bY.cv (dE (cG n) key.1.1 {s with cm:=s.cm++[key.1.1]}).2.done key.1.1=none:=(c'.dn key.1.1 (by show _∈s.cm++[_];simp)).trans hr;have bo:=yg n key.1.1 s ad.kb ad.nf;have bU:=ad.work aC ht hc;generalize dE (cG n) key.1.1 {s with cm:=s.cm++[key.1.1]}=Q at *;have bm:key.1.1∉rn:=λI=>by
  have:=dk _ I;rw[<-Tg,hc]at this;cases this
 have hl:s.ct.length<=1000:=by have:=ad.hl.len;omega
 have h1:=h.below (eg w);have hF:=lT (dV w) l s rn L key h1 hl;have g4:=z';obtain⟨es,X,vA,vF,vB,vR,vN,h1⟩:=h1;obtain⟨c0,_,c2,c3,c4,_,cf⟩:=h1.cells;have hG:=cj h1.eb;obtain⟨b0,b1,b2,b3,b4⟩:=cX (eP w);have cP:=h1.fr.dK _ cd;rw[hr]at cP;have g5:X.length<=1000000:=ah h1.fr.len (by have:=ad.nf;omega);have hlen:s.cm.length<=200:=by have:=ad.cm;omega
 obtain⟨gP,cx,w3,a0,bv,bw,bj,⟨v3,fr⟩,fd,fe⟩:=Ea h1 key R5;obtain⟨oF,cF,rfl⟩:=dD h1.fresh;obtain⟨oB,cB,rfl⟩:=dD h1.cm;have hK:l<w.1.size:=h.cz.lt TZ;have cA:∀k,L k->k<w.1.size:=λk F=>h.cz.lt F;have f4:(w3.setCell ⟨l,3,none⟩ (.slice (some ⟨gP,0,none⟩) (s.cm.length+1) cx)).1[w.1.size]?=some (.cells #[.int .i64 0,.string ⟨#[]⟩] 166 (0,0)):=(bj.block _ (cj (eP w)) (λI=>by have:=cA _ I;omega)).trans (eP w);have HH:=bZ h1;have cq:=bZ a0;have HP:=bZ (And.intro bv (And.intro bw bj));have HZ:=bZ f4;have HB:=bZ (eg w);have co:=bZ cA;unfold ptr at hF ⊢;have HF:=bZ hF;unfold dV at *;go_enter func109,ntmps109;go_wp2_with fail;generalize w.alloc (.cells #[.int .i64 0,.string ⟨#[]⟩] 166)=W0 at *;refine HF.Z.mono ?_;rintro e w'⟨f0,hx⟩;have cb:=f0.symm;subst cb;rcases hx with⟨hn,rfl⟩|⟨x,f8,hp,fc,rfl⟩
 ·exact(oh cd hn).elim
 obtain rfl:th=f8:=aB (aC.symm.trans fc);obtain⟨e,g,ct,he,hE,S,hg,ej⟩:=HH.Z.entry hp;subst S;have z2:=ej 2 _ rfl;have hi:=(aA.1 hp).1;have hD:(x:Int)<(s.ct.length:Int):=R5;rcases hE.fc with⟨h3,_⟩|⟨t',ns,m,o,c,h4,_,h5,_⟩
 ·have h3:th.di=none:=h3;rw[ht]at h3;cases h3
 rw[h5]at z2;go_wp2
 go_loopw [6] (λN wr=>∃i:Nat,N=.int .i64 (i:Int)/\i<=X.length/\W0=wr) (λN _=>X.length-(intOf N).toNat)
 case atStart=>exact⟨0,rfl,ar _,rfl⟩
 case round =>
  obtain⟨k,rfl,F,rfl⟩:=hrel;by_cases c7:k<X.length
  ·have bt:(k:Int)<(X.length:Int):=R5;have K:=aq c7;have P:X[k]∈X:=Si c7;generalize X[k]=q at K P;obtain⟨gF,gA,S,hh,ek⟩:=fK tA S4 HH.Z.fresh K;cases S;obtain⟨xx,a3⟩:∃x:ba,str q.1=.string x:=⟨_,rfl⟩;have bA:=fO a3;have y0:=ek 0 (.string xx) (by rw[<-a3];rfl);simp only[aR]at y0;have bM:=jo xx key;rw[aN (λe=>jz.1 cP q P (bA.symm.trans e))]at bM;go_wp2;refine⟨⟨k+1,by go_num,by omega,by first|rfl|trivial⟩,?_⟩;simp[intOf];omega
  have bt:¬(k:Int)<(X.length:Int):=R5;go_wp2
  go_loopw [7] (λN wr=>∃i:Nat,N=.int .i64 (i:Int)/\i<=s.cm.length/\W0=wr) (λN _=>s.cm.length-(intOf N).toNat)
  case atStart=>exact⟨0,rfl,ar _,rfl⟩
  case round =>
   obtain⟨k2,rfl,e9,rfl⟩:=hrel;by_cases bR:k2<s.cm.length
   ·have bt:(k2:Int)<(s.cm.length:Int):=R5;have K:=aq bR;have P:s.cm[k2]∈s.cm:=Si bR;generalize s.cm[k2]=q at K P;obtain⟨gB,gx,S,gW,ha,y0⟩:=rL HH.Z.cm K;cases S;obtain⟨xx,a3⟩:∃x:ba,str q=.string x:=⟨_,rfl⟩;have bA:=fO a3;rw[a3]at y0;have bM:=jo xx key;rw[aN (λe=>by rw[<-Tg,<-bA,e,hc]at P;cases P)]at bM;clear K P a3 bA;go_wp2;refine⟨⟨k2+1,by go_num,by omega,by first|rfl|trivial⟩,?_⟩;simp[intOf];omega
   have bt:¬(k2:Int)<(s.cm.length:Int):=R5
   go_upto_region 19 with(at_builtin;refine cW _ rfl _ _ _ _ rfl _ _ _ _ rfl rfl cq.Z ?_)
   obtain⟨h2,ak,av⟩:=HP.Z;generalize w3.setCell ⟨l,3,none⟩ (.slice (some ⟨gP,0,none⟩) (s.cm.length+1) cx)=z at *;obtain⟨e2,g2,gg,ew,cz,du,eD,bq⟩:=h2.entry hp;have e6:some g=some g2:=congrArg Value.ownBlock du;cases e6;have y3:=bq 3 _ rfl;have cI:e2.kept=th.kept.isSome:=by
    have:=cz.kept.is;rw[ae bm]at this;exact this
   rw[cI]at y3;obtain⟨d0,_⟩:=h2.cells;have ff:=cj h2.eb;have bJ:fJ l {s with cm:=s.cm++[key.1.1]} rn z (λk=>L k\/k=gP):=⟨_,_,_,_,_,_,_,h2⟩;have cy:=G7 (kY:=key) (t:=t) (o:=th.kept) bJ bU;have di:({s with cm:=s.cm++[key.1.1]}:LS).ct[x]?=some (key.1.1,th):=hp;have cV:key.1.1∈({s with cm:=s.cm++[key.1.1]}:LS).cm:=by show _∈s.cm++[_];simp
   have dj:∀k∈rn,k∈({s with cm:=s.cm++[key.1.1]}:LS).cm:=λk F=>RB _ (dk k F);have c5:bY.cv ({s with cm:=s.cm++[key.1.1]}:LS).ct key.1.1=some th:=aC;generalize ({s with cm:=s.cm++[key.1.1]}:LS)=S1 at *;have ch:=bZ cy;have cl:=bZ (And.intro ak (And.intro av bJ));have HW:=bZ dy;have HQ:=bZ (And.intro a9 (And.intro bp (And.intro bn bo)));have a5:=bZ bU;have V:=bZ (And.intro di (And.intro cV (And.intro dj c5)));clear cy ak av bJ cz bq ew du h2 cI dy a9 bp bn bo bU di cV dj c5 cq HP HH ad b0 b1 b2 b3 c0 c2 c3 c4 cf z2;go_wp2
   go_loopw [8,10] (λsv N wr=>∃(b:Bool) (i:Nat) (E:LS) (y:rS),sv=.bool b/\N=.int .i64 (i:Int)/\i<=401/\Hid (qH l n rn z (λk=>L k\/k=gP) z.1.size key.1.1 t th.kept S1 b i E y wr)) (λ_ N _=>402-(intOf N).toNat)
   case atStart=>exact⟨_,0,_,_,rfl,rfl,ar _,ch⟩
   case round =>
    clear ch bt bR e9 y3 d0 ff eD fr fd fe;obtain⟨b,i,E,y,rfl,rfl,hB,O⟩:=hrel;obtain⟨p',Lk,hA,df,bv,bw,bj,dg,g3,gi,oN,cN,d0,d1,d2,d3,d4,ao⟩:=O.Z.entry V.Z.1 V.Z.2.2.2 V.Z.2.1 bm rfl;have hL:(x:Int)<(E.ct.length:Int):=R5;obtain⟨nl,am⟩:∃nl,(jR th.kept).length=nl:=⟨_,rfl⟩;rw[am]at d4 ao;have ap:=bZ (And.intro ao am);have U:=bZ (And.intro hA (And.intro df (And.intro bv (And.intro bw (And.intro bj dg)))));clear ao am hA df bv bw bj dg
    go_upto_region 22 with fail
    go_cut [136]from 123 to 164 (λv wx=>v=.bool (decide ((i:Int)<(nl:Int))&&b)/\wr=wx)
    case first =>
     by_cases br:(i:Int)<(nl:Int)
     ·go_wp2
      go_meet
      case rel=>exact⟨by rw[aQ br];simp,rfl⟩
     go_wp2
     go_meet
     case rel=>exact⟨by rw[aN (show ¬(i:Int)<(nl:Int) by omega)];simp,rfl⟩
    case rest =>
     obtain⟨rfl,rfl⟩:=hcut;cases S:(decide ((i:Int)<(nl:Int))&&b) with
     |true =>
      rw[RO]at S;obtain⟨br,rfl⟩:=S;have br:=of_decide_eq_true br;obtain⟨kp,bg,e8⟩:=O.Z.at_.Ob;have bu:jR th.kept=kp.cH:=by rw[bg];rfl
      obtain⟨ao,am⟩:=ap.Z;have c8:i<(jR th.kept).length:=R5;have K:=aq c8;generalize (jR th.kept)[i]=q at K;rw[<-am]at ao d4;obtain⟨gN,gE,fY,hw,bd⟩:=fK tA S4 ao K;cases fY;rw[am]at d4;obtain⟨T,sq,ca⟩:=dw q.2;have cc:dY q.2=[.int .i64 T,.string sq]:=by
       obtain⟨q1,q2⟩:=q;cases q2<;>(cases ca;rfl)
      obtain⟨xq,bB⟩:∃x:ba,str q.1=.string x:=⟨_,rfl⟩;have bh:eh q=[.string xq,.int .i64 T,.string sq]:=by unfold eh;rw[cc,bB]
      rw[bh]at bd;have y0:=bd 0 _ rfl;have y1:=bd 1 _ rfl;have y2:=bd 2 _ rfl;simp only[aR]at y0;have cY:kp.cH.length<=401:=a5.Z.kb _ (aJ V.Z.1) kp bg;have P:q∈kp.cH:=by rw[<-bu];exact aJ K
      have bV:hY q.2:=(a5.Z.fs.kept key.1.1 kp (by unfold cK;rw[V.Z.2.2.2];exact bg)).2.2 q P;have bf:=O.Z.call says a5.Z V.Z.2.2.1 bg (by rw[<-bu];exact K) cY bV ((VM _ wr).alloc (af _) (.cells #[.string xq,.int .i64 T,.string sq] 204)) (fO bB);generalize cG n q.1 E=R at bf;obtain⟨j,p,ai⟩:=dw R.1;have Y:dY R.1=[.int .i64 j,.string p]:=by
       have:=ai;generalize R.1=r at this;cases r<;>(cases this;rfl)
      rw[ai]at bf;unfold ptr at bf;have dz:dm ⟨key.1.1,q.1,q.2,R.1⟩=[.string key,.string xq,.int .i64 T,.string sq,.int .i64 j,.string p]:=by
       show str key.1.1::str q.1::(dY q.2++dY R.1)=_;rw[cc,Y,bB,dG];rfl
      have cR:i+1<=401:=by rw[bu]at c8;omega
      have HC:=bZ bf;have a6:=bZ (And.intro ca (And.intro ai (And.intro bV dz)));clear bf ca ai bV dz cc Y bB bh bd cY P K bu e8 ao am ap O U bg
      apply_assumption
      go_upto_region 26 with(go_at_call 109;refine HC.Z.mono ?_;rintro ec G ⟨rfl,cU,fm,cL,⟨bP,em⟩,cH,c9⟩)
      have bL:G.1[wr.1.size]?=some (.cells #[.string xq,.int .i64 T,.string sq] 204 (0,0)):=(cU wr.1.size (af _) S5).trans (heap_alloc_new wr _);obtain⟨b5,b6,b7,b8,b9⟩:=cX (oc G j p);have bl:=eI G j p;have bc:=(bl.block _ (cj bL)).trans bL;have m0:(h_ G j p).cell? ⟨wr.1.size,0,none⟩=some (.string xq):=cr bc rfl;have m1:(h_ G j p).cell? ⟨wr.1.size,1,none⟩=some (.int .i64 T):=cr bc rfl;have m2:(h_ G j p).cell? ⟨wr.1.size,2,none⟩=some (.string sq):=cr bc rfl;have m3:=cj bc;have M:=(bl.block _ (cj bP)).trans bP;have dp:=Nv M (.string key) (.string xq) (.int .i64 T) (.string sq) (.int .i64 j) (.string p);obtain⟨v0,v1,v2,f9,v4,v5,a4⟩:=Qb y;have k7:=cj M;have kf:∀o,(h_ G j p).frozen? ⟨z.1.size,o,none⟩=false:=λo=>fq M;rw[a4]at M;have k0:(h_ G j p).cell? ⟨z.1.size,0,none⟩=some v0:=cr M rfl;have k1:(h_ G j p).cell? ⟨z.1.size,1,none⟩=some v1:=cr M rfl;have dR:(h_ G j p).cell? ⟨z.1.size,2,none⟩=some v2:=cr M rfl;have k3:(h_ G j p).cell? ⟨z.1.size,3,none⟩=some f9:=cr M rfl;have k4:(h_ G j p).cell? ⟨z.1.size,4,none⟩=some v4:=cr M rfl;have k5:(h_ G j p).cell? ⟨z.1.size,5,none⟩=some v5:=cr M rfl;have bW:=G1 cL a6.Z.2.2.1 a6.Z.2.1 a6.Z.1;change Code.wp _ _ _ _ (h_ G j p);have Z:=bZ (And.intro cH (And.intro c9 (And.intro bl dp)));have bG:=bZ a6.Z.2.2.2;clear cH c9 bl dp M bc bL cU fm cL bP em HC a6 a4 y0 y1 y2 d0 d1 d2 d3 d4;generalize h_ G j p=W6 at *
      go_cut [157]from 123 to 164 (λv wx=>v=.bool (!(ji R.1 q.2))/\W6=wx)
      case first =>
       have bF:=bZ bW;clear bW k0 k1 dR k3 k4 k5 kf k7;by_cases dr:j=T
       ·have bz:(j==T)=true:=Rd.2 dr;cases dn:(p.toList==sq.toList) with
        |true =>
         go_wp2
         go_meet
         case rel=>exact⟨by rw[<-bF.Z];simp[bz,dn],rfl⟩
        |false =>
         go_wp2
         go_meet
         case rel=>exact⟨by rw[<-bF.Z];simp[bz,dn],rfl⟩
       have bz:(j==T)=false:=az.2 dr;go_wp2
       go_meet
       case rel=>exact⟨by rw[<-bF.Z];simp[bz],rfl⟩
      case rest =>
       obtain⟨rfl,rfl⟩:=hcut;clear bW;cases bx:ji R.1 q.2 with
       |true =>
        have bD:=bZ ((Z.Z.1 bx).below Z.Z.2.2.1);clear b5 b6 b7 b8 Z bG bx k0 k1 dR k3 k4 k5 kf k7 m0 m1 m2 m3
        apply_assumption
        go_wp2
        go_roundw
        case rel=>exact⟨true,i+1,_,_,rfl,by go_num,cR,bD⟩
        case measure=>simp[intOf];omega
       |false =>
        have bD:=bZ (Z.Z.2.1 bx _ (by rw[bG.Z];exact Z.Z.2.2.2.1) ((eu.below Z.Z.2.2.1).trans Z.Z.2.2.2.2 (λk F=>.inl F)));clear Z bG bx
        apply_assumption
        go_wp2
        go_roundw
        case rel=>exact⟨false,i+1,_,_,rfl,by go_num,cR,bD⟩
        case measure=>simp[intOf];omega
     |false =>
      obtain⟨k1,hO,b1,b2,a1,a2,a4⟩:=rA y;obtain⟨gV,bq,ab⟩:=O.Z.w.cells;rw[a4]at ab;have q0:=ab 0 _ rfl;have q1:=ab 1 _ rfl;have q2:=ab 2 _ rfl;have q3:=ab 3 _ rfl;have q4:=ab 4 _ rfl;have q5:=ab 5 _ rfl;have HY:=bZ a4;have HV:=bZ S;clear a4 S bq ab d0 d1 d2 d3 d4
      apply_assumption
      go_upto_if 166 with fail
      go_cut []from 167 to 170 (λwx=>Hid (Nx l rn z (λk=>L k\/k=gP) x Q wx))
      case first =>
       cases b with
       |true =>
        have d5:Hid (Nx l rn z (λk=>L k\/k=gP) x Q wr):=bZ (by
         rw[HW.Z];obtain⟨_,e1,e2,_,e4,_⟩:=U.Z;refine O.Z.stood e1 e2 e4 bm ?_;rw[ap.Z.2];have:=HV.Z;rw[Bool.and_true]at this;have:=of_decide_eq_false this;omega)
        clear O U ap HV q0 q1 q2 q3 q4 q5;go_wp2
        go_meet
        case rel=>exact d5
       |false =>
        have a0:=O.Z.du says a5.Z V.Z.2.2.1 U.Z.2.1 U.Z.2.2.1 (U.Z.2.2.2.1.trans ht) U.Z.2.2.2.2.2 bm V.Z.2.1 HY.Z;rw[<-HW.Z]at a0;unfold ptr at a0;have d7:=bZ a0;clear a0 O U ap HV;go_wp2_with(go_at_call 151;refine d7.Z.mono ?_;rintro er G ⟨rfl,eb⟩)
        go_meet
        case rel=>exact bZ eb
      case rest =>
       obtain⟨L5,⟨ea,bk,hP,hR,hQ,hW,hV,h5,e5,bQ,dx⟩,ay,a8,ax⟩:=hcut.Z;generalize wc=W5 at *;obtain⟨a9,bp,bn,bo⟩:=HQ.Z;obtain⟨gb,bI,fz,g0,h6,f6⟩:=h5.O4 a9;subst fz;obtain⟨_,_,_,ga,_,_,gL⟩:=h5.cells;have hJ:=cj h5.eb;have H6:=bZ (And.intro h6 f6);have cn:=bZ (And.intro ay (And.intro a8 ax));have a7:=bZ dx;clear h5 h6 f6 ay a8 ax a9 bp bn bo dx hcut O U ap HV HY q0 q1 q2 q3 q4 q5 a5 V HW says
       apply_assumption
       go_upto_region 31 with fail
       go_cut []from 171 to 184 (λwx=>Hid (Below W5.1.size (W5.setCell ⟨l,3,none⟩ (.slice (some ⟨gb,0,none⟩) s.cm.length bI)) wx))
       case first =>
        go_region
        all_goals
         go_wp2
         go_meet
         case rel=>exact bZ ((VM _ _).drew)
       case rest =>
        generalize wc=W7 at *;have bK:Below (W5.setCell ⟨l,3,none⟩ (.slice (some ⟨gb,0,none⟩) s.cm.length bI)).1.size (W5.setCell ⟨l,3,none⟩ (.slice (some ⟨gb,0,none⟩) s.cm.length bI)) W7:=hcut.Z.mono S5;have J:=H6.Z.1.below bK;have f7:eu L5 W5 W7:=H6.Z.2.trans (eu.below bK) (λk F=>.inl F);obtain⟨f5,d9,rfl⟩:=dD J.fresh;obtain⟨g7,gr,fy,eW,bN⟩:=fK nZ S4 J.all bQ;subst fy;obtain⟨j,p,ai⟩:=dw Q.1;have Y:dY Q.1=[.int .i64 j,.string p]:=by
         have:=ai;generalize Q.1=r at this;cases r<;>(cases this;rfl)
        have s5:=bN 5 (.int .i64 j) (by show(dY e5.w)[0]?=_;rw[a7.Z,Y];rfl);have s6:=bN 6 (.string p) (by show(dY e5.w)[1]?=_;rw[a7.Z,Y];rfl);obtain⟨c0,_,c2,_,_,_,cf⟩:=J.cells;have fk:=cj J.eb;have hN:(x:Int)<(ea.length:Int):=by have:=(aA.1 bQ).1;omega
        have g6:bk.length<=1000000:=ah J.fr.len HQ.Z.2.2.2;have gU:8<=W7.1.size:=ah (J.cz _ J.here).1 (aF (J.cz.lt J.here));obtain⟨ak,av,_⟩:=cl.Z;obtain⟨ay,a8,ax⟩:=cn.Z;have cb:=cj HZ.Z;have bS:¬(L w.1.size\/w.1.size=gP):=λI=>by
         rcases ak _ I with I|I
         ·have:=co.Z _ I;omega
         omega
        have bT:¬L5 w.1.size:=λI=>by
         rcases ay _ I with I|I
         ·exact bS I
         omega
        have cg:=(ax.block _ cb bS).trans HZ.Z;have dQ:=(f7.block _ (cj cg) bT).trans cg;have cM:∀(s':LS) (wz:Xa) (Lz:Nat->Prop),fJ l s' rn wz Lz->(∀k,Lz k->L5 k\/W7.1.size<=k)->(∀k,L5 k->Lz k)->eu L5 W7 wz->wz.1[w.1.size]?=some (.cells #[.int .i64 0,.string ⟨#[]⟩] 166 (0,0))->∀a b,fb (fJ l s' rn) w L ((wz.setCell ⟨w.1.size,0,none⟩ a).setCell ⟨w.1.size,1,none⟩ b):=λs' wz Lz r1 r2 r3 r4 r5 a b=>by
         have bX:∀k,L5 k->L k\/W0.1.size<=k:=λk F=>by
          rcases ay k F with h|h
          ·exact ak k h
          exact .inr (ah av.size h)
         have f1:eu L W0 W5:=av.trans ax ak;have f2:eu L W0 W7:=f1.trans f7 bX;have f3:eu L W0 wz:=f2.trans r4 bX;refine fb.post (fb.pre HB.Z ⟨Lz,r1,λk F=>?_,λk F=>r3 k (a8 k (.inl F)),f3⟩) (kU (af _) r5 _ _) (λL' ef=>ef.bx (kU (af _) r5 _ _));rcases r2 k F with h|h
         ·exact bX k h
         exact .inr (ah f2.size h)
        have bh:eh (key.1.1,Q.1)=[.string key,.int .i64 j,.string p]:=by unfold eh;rw[Y,dG]
        have bE:=bZ (λ(w1 w2:Xa) (g ct:Nat)=>J.GW (kY:=key.1.1) (r:=Q.1) HQ.Z.2.1 HQ.Z.2.2.1 (w1:=w1) (w2:=w2) (g:=g) (cP:=ct));rw[bh]at bE;have cp:=bZ J.fresh;have ck:=bZ cM;have bH:=bZ (And.intro dQ bT);have d8:=bZ ai;have bC:=bZ (show e5.cells[5]?=some (.int .i64 j)/\e5.cells[6]?=some (.string p) from⟨by show(dY e5.w)[0]?=_;rw[a7.Z,Y];rfl,by show(dY e5.w)[1]?=_;rw[a7.Z,Y];rfl⟩);clear J f7 bN ai Y ak av ay a8 ax cg dQ bS bT cM bh cl cn HZ HB H6 bK hcut a7 HQ co
        apply_assumption
        go_upto_region 32 with fail
        go_region_law (refine jq rfl (.tmp 189) (.tmp 200) 98 rfl 204 _ 3 40 underlying98 Fb N_ S4 (.slice f5 bk.length d9) _ (bk.flatMap eh) rfl (VY (w:=W7.drewN _) cp.Z _) ⟨W7.1.size,0,none⟩ 1 [.string key,.int .i64 j,.string p] rfl rfl (jQ _ _ _ _) UK R5 Th Tc ?_;intro g1 cw w3 ho cQ c6 hold;obtain⟨q1,q2,q3,⟨v0,fo⟩,ey,hH⟩:=bE.Z _ w3 g1 cw (lU _ _ _) ho cQ c6 hold;have aa:=bZ (And.intro q1 (And.intro q2 q3));clear bE q1 q2 q3 ho cQ c6 hold)
        all_goals
         have ce:=(aa.Z.2.2.block _ (cj bH.Z.1) bH.Z.2).trans bH.Z.1;obtain⟨e0,e1,e2,e3,e4⟩:=cX ce;obtain⟨gR,_⟩:=aa.Z.1.cells;obtain⟨g8,gv,dv,g9,bO⟩:=fK nZ S4 aa.Z.1.all bQ;have e7:some g7=some g8:=congrArg Value.ownBlock dv;cases e7;have t5:=bO 5 _ bC.Z.1;have t6:=bO 6 _ bC.Z.2;have hI:=cj aa.Z.1.eb;have d6:=bZ (λa b=>ck.Z _ _ _ ⟨_,_,_,_,_,_,_,aa.Z.1⟩ aa.Z.2.1 (λk F=>.inl F) aa.Z.2.2 ce a b);clear bO ce dv aa ck cp bC c0 c2 s5 s6 eW fk fo ey;generalize w3.setCell ⟨l,2,none⟩ (.slice (some ⟨g1,0,none⟩) (bk.length+1) cw)=w4 at *;go_wp2;exact VN (v:=.agg #[.int .i64 j,.string p]) UQ rfl ⟨by rw[d8.Z],d6.Z _ _⟩
end Ref
end
section
open bY
namespace Ref
variable{n:Nat}{K:a_}{s:LS}{b:a_->LS->Wo×LS}
def qo{r:Wo}(h:bY.cv s.done K=some r):cG (n+1) K s=(r,s):=by
 show eY _ _ _=_;unfold eY;rw[h]
def Ad(h:bY.cv s.done K=none)(e:s.cm.contains K=true):cG (n+1) K s=(.error 12,s.meet K):=by
 show eY _ _ _=_;unfold eY;rw[h];simp only;rw[ag e]
def rP(h:bY.cv s.done K=none)(e:s.cm.contains K=false):cG (n+1) K s=((dE (cG n) K {s with cm:=s.cm++[K]}).1,{(dE (cG n) K {s with cm:=s.cm++[K]}).2 with cm:=s.cm,done:=bY.put (dE (cG n) K {s with cm:=s.cm++[K]}).2.done K (dE (cG n) K {s with cm:=s.cm++[K]}).1}):=by
 have j:(dE (cG n) K {s with cm:=s.cm++[K]}).2.cm=s.cm++[K]:=(z7 (pD n) K {s with cm:=s.cm++[K]}).1;show eY _ _ _=_;unfold eY;rw[h];simp only;rw[ae (by rw[e];exact Td),j];simp
def G8(h:K∉bY.dK s.ct):dE b K {s with cm:=s.cm++[K]}=(sN s K,{s with cm:=s.cm++[K]}):=by
 unfold dE sN;cases e:bY.cv s.ct K with
 |none=>simp only[e]
 |some l =>
  cases j:l.di with
  |none=>simp only[e,j]
  |some t=>exact absurd (iq e (by rw[j];rfl)) h
def Oc(u):∀n,wI u n
 |0=>λw s rn L e h p _=>by have:=p.un;omega
 |n+1=>λw s rn L e h p I=>by
  have hl:s.ct.length<=1000:=by have:=p.hl.len;omega
  have B:s.done.length<=1000000:=by have:=p.nf;omega
  have hlen:s.cm.length<=1000:=by have:=p.cm;omega
  by_cases j:e.1.1∈bY.dK s.ct
  ·cases hd:bY.cv s.done e.1.1 with
   |some r =>
    rw[qo hd];refine b_ (z_ w u s rn L e h hl B j hd) λC l=>?_;exact⟨rfl,fb.pre l (fb.refl (h.below l))⟩
   |none =>
    cases m:s.cm.contains e.1.1 with
    |true =>
     rw[Ad hd m];exact D5 w u s rn L e h hl B j hd m hlen
    |false =>
     cases y:bY.cv s.ct e.1.1 with
     |none=>exact(oh j y).elim
     |some R =>
      have F:(s.ct.map (·.1)).Nodup:=by obtain⟨_,_,_,_,_,_,_,h⟩:=h;exact h.nodup
      obtain⟨t,J⟩:=qG j y F;rw[rP hd m];exact Eb u n (Oc u n) w s rn L e h p I y J hd m
  have z:=B1 w u s rn L e h hl j;cases hd:bY.cv s.done e.1.1 with
  |some r =>
   rw[qo hd];have G:r=sN s e.1.1:=by
    obtain⟨_,_,_,_,_,_,_,h⟩:=h;exact h.fr.base _ r hd j
   rw[G];refine b_ z λC l=>?_;exact⟨rfl,fb.pre l (fb.refl (h.below l))⟩
  |none =>
   cases m:s.cm.contains e.1.1 with
   |true=>exact absurd (p.br _ (Tg.1 m)) j
   |false =>
    rw[rP hd m,G8 j];refine b_ z λC l=>?_;refine⟨rfl,fb.pre l (fb.refl ?_)⟩;obtain⟨D,E,M,O,N,Q,P,h⟩:=h.below l;exact⟨D,E,M,O,N,Q,P,h.Ng j rfl⟩
end Ref
end
