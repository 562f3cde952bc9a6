/- Out of Br. -/
import Derived.Test.YtpekpdimdelncaaGreatDoorP39
set_option linter.unusedVariables false
set_option linter.unusedSimpArgs false
set_option maxRecDepth 100000
set_option maxHeartbeats 2000000
set_option linter.defProp false
namespace Go.Proofs.YtpekpdimdelncaaGreatDoor
open Go.RowKit Go.Shelf
section
open bY
open Tryz
namespace Ref
variable{l:a_}{p:Option Addr}
def JU(s:ba)(w:QV)(hs:s.size<=20000000):Calls prog 38 #[.string s] w (Jp s.1.1 w (bY.check s.1.1).1 (bY.check s.1.1).2):=by
 by_cases h:200<s.size
 ·have hc:bY.check s.1.1=(2,0):=by
   unfold bY.check;rw[ag SF]
  rw[hc];exact FV s w h RM
 exact Db s w RM
def Mk{w w':QV}{n k:Nat}(z:a_)(hc:(bY.check l).1=0)(h:∃(ns:List Nd) (m:Nat),n=ns.length/\ns.length<=2000/\wN w' w.1.size (.slice p n k) ns/\nB ns m (ns.length-1) (gG l)/\0<ns.length)(b:8<=w.1.size):ka w' ⟨vn 0,some (gG l),l,none⟩ ⟨z,l,.slice p n k,false,.slice none 0 0,.error 0⟩:=by
 obtain⟨ns,m,rfl,h1,h2,j,r⟩:=h;have u:=(AV (yc hc).1).2.2;have y:∃o,p=some o:=by
  rcases h2.row.2 with⟨_,D⟩|⟨g,B,C,e,_⟩
  ·omega
  cases e;exact⟨_,rfl⟩
 obtain⟨o,rfl⟩:=y;exact .inr ⟨_,ns,m,o,k,rfl,rfl,rfl,⟨oW h2.row b,λd hd=>⟨(h2.all d hd).1,oW (h2.all d hd).2 b⟩⟩,j,r,h1,u⟩
def Ml(m:Nat)(s:LS)(j b:a_)(w:QV)(L:Nat->Prop)(e:Ending)(w':QV):Prop :=(dL j=false/\e=.returned (.tuple #[.int .i64 1,.int .i64 0])/\eX (jJ m s) w L w')\/(dL j=true/\(bY.check b).1≠0/\e=.returned (.tuple #[.int .i64 ((bY.check b).1:Int),.int .i64 ((bY.check b).2:Int)])/\eX (jJ m s) w L w')\/(dL j=true/\(bY.check b).1=0/\∃c,e=.returned (.tuple #[.int .i64 c,.int .i64 0])/\mJ m s j ⟨vn 0,some (gG b),b,none⟩ w L (.returned (.int .i64 c)) w')
def JV(w:QV)(u:Nat)(s:LS)(L:Nat->Prop)(m j:ba)(h:jJ u s w L)(hl:s.cm.length<=1000)(T:m.size<=20000000)(V:j.size<=20000000):Calls prog 106 #[ptr u,.string m,.string j] w (Ml u s m.1.1 j.1.1 w L):=by
 have K:=eg m w T;rw[pK]at K;have R:8<=w.1.size:=by
  obtain⟨d,es,X,Z,vF,vB,vR,vN,h⟩:=h;exact ah (h.ct _ h.here).1 (aE (h.ct.lt h.here))
 have P:=JU j w V;have B:=bZ K;have D:=bZ P;have G:=bZ h;clear K P h;cases z:dL m.1.1 with
 |false =>
  rw[z]at B;unfold ptr;go_enter func106,ntmps106;go_wp2_with(go_at_call 108;refine B.Z.mono ?_;rintro e w' ⟨rfl,rfl⟩);go_ret2;exact .inl ⟨z,rfl,eX.refl G.Z⟩
 |true =>
  rw[z]at B;have J:∀p n k w1,Xb w w1->ka w1 ⟨vn 0,some (gG j.1.1),j.1.1,none⟩ ⟨m.1.1,j.1.1,.slice p n k,false,.slice none 0 0,.error 0⟩->Calls prog 147 #[ptr u,.agg #[.string m,.string j,.slice p n k,.bool false,.slice none 0 0,.int .i64 0,.string ⟨#[]⟩]] w1 (mJ u s m.1.1 ⟨vn 0,some (gG j.1.1),j.1.1,none⟩ w L):=λp n k w1 r S=>by
   refine(yb w1 u s L m j p n k _ (G.Z.below r) S rfl hl).mono ?_;intro e w' U;rcases U with⟨a,b,c⟩|⟨a,b,c⟩
   ·exact .inl ⟨a,b,eX.pre r c⟩
   exact .inr ⟨a,b,eX.pre r c⟩
  have I:=bZ z;have O:=λ(p:Option Addr) (n k:Nat) (w1:QV) hc h=>Mk (w:=w) (w':=w1) (p:=p) (n:=n) (k:=k) (l:=j.1.1) m.1.1 hc h R;unfold ptr at J ⊢;have F:=bZ J;have C:=bZ O;clear J O;obtain⟨c,E⟩:∃c,(bY.check j.1.1).1=c:=⟨_,rfl⟩;obtain⟨i,M⟩:∃i,(bY.check j.1.1).2=i:=⟨_,rfl⟩;rw[E,M]at D;rw[E]at C;have y:=bZ (And.intro E M);clear E M z;go_enter func106,ntmps106;go_wp2_with(go_at_call 108;refine B.Z.mono ?_;rintro e w' ⟨rfl,rfl⟩);refine D.Z.mono ?_;rintro e w1⟨⟨p,n,k,rfl,N⟩,r⟩;by_cases hc:c=0
  ·subst hc;have Q:=bZ (F.Z p n k w1 r (C.Z p n k w1 rfl (N rfl)));clear F C D N;go_wp2_with fail;refine Q.Z.mono ?_;rintro e w2 (⟨a,rfl,c⟩|⟨a,rfl,c⟩)
   ·go_wp2_with fail;go_ret2;exact .inr (.inr ⟨I.Z,y.Z.1,5,rfl,.inl ⟨a,rfl,c⟩⟩)
   go_wp2_with fail;go_ret2;exact .inr (.inr ⟨I.Z,y.Z.1,0,rfl,.inr ⟨a,rfl,c⟩⟩)
  have Y:¬((c:Int)=0):=RM;clear F C D N;go_wp2_with fail;go_ret2;exact .inr (.inl ⟨I.Z,by rw[y.Z.1];exact hc,by rw[y.Z.1,y.Z.2];rfl,eX.pre r (eX.refl (G.Z.below r))⟩)
def JW(w:QV)(y:Nat)(s:LS)(L:Nat->Prop)(b j:ba)(h:jJ y s w L)(hl:s.cm.length<=1000)(J:b.size<=20000000)(N:j.size<=20000000)(hj:(cW s.jr).length<=1000000000000000000):Calls prog 69 #[ptr y,.string b,.string j] w λe w'=>e=.returned (.tuple #[.int .i64 ((s.jK b.1.1 j.1.1).1.1:Nat),.int .i64 ((s.jK b.1.1 j.1.1).1.2:Nat)])/\eX (jJ y (s.jK b.1.1 j.1.1).2) w L w':=by
 have E:=JV w y s L b j h hl J N;have K:(⟨#[115,101,116,32]⟩++b:ba).size=4+b.size:=SN;have M:(⟨#[115,101,116,32]⟩++b++⟨#[32]⟩:ba).size=4+b.size+1:=by rw[P3,K];rfl
 have S:(⟨#[115,101,116,32]⟩++b++⟨#[32]⟩++j:ba).size=4+b.size+1+j.size:=by rw[P3,M]
 have T:(⟨#[115,101,116,32]⟩:ba).size=4:=rfl;have U:(⟨#[32]⟩:ba).size=1:=rfl;have D:∀w1,¬(bY.cr s.cm b.1.1=none/\40<=s.cm.length)->eX (jJ y { s with cm:=bY.put s.cm b.1.1 ⟨vn 0,some (gG j.1.1),j.1.1,none⟩ }) w L w1->Calls prog 105 #[ptr y,.string (⟨#[115,101,116,32]⟩++b++⟨#[32]⟩++j)] w1 λe w'=>e=.returned (.tuple #[])/\eX (jJ y (s.iq b.1.1 ⟨vn 0,some (gG j.1.1),j.1.1,none⟩).2) w L w':=λw1 m G=>by
  refine ye m G ?_ RM hj;rw[dD,dD,dD];show[115,101,116,32]++b.1.1++[32]++_=[115,101,116,32]++b.1.1++32 :: _;simp
 unfold ptr at E D ⊢;have z:=bZ E;have B:=bZ D;clear E D h;have O:¬9223372036854775807<4+b.size:=RM;have P:¬9223372036854775807<4+b.size+1:=RM;have Q:¬9223372036854775807<4+b.size+1+j.size:=RM;go_enter func69,ntmps69;go_wp2_with fail;refine z.Z.mono ?_;rintro e w1 (⟨m,rfl,u⟩|⟨m,hc,rfl,u⟩|⟨m,hc,c,rfl,⟨hf,n,u⟩|⟨hf,n,u⟩⟩)
 ·have r:Hid (s.jK b.1.1 j.1.1=((1,0),s)):=bZ (by unfold LS.jK;rw[ag m]);clear z B m;go_wp2_with fail;go_ret2;rw[r.Z];exact⟨rfl,u⟩
 ·have r:Hid (s.jK b.1.1 j.1.1=(bY.check j.1.1,s)):=bZ (by unfold LS.jK;rw[ae (by rw[m];simp),ae hc]);have R:¬(((bY.check j.1.1).1:Int)=0):=RM;have C:Hid ((s.jK b.1.1 j.1.1).1.1=(bY.check j.1.1).1/\(s.jK b.1.1 j.1.1).1.2=(bY.check j.1.1).2/\(s.jK b.1.1 j.1.1).2=s):=bZ (by rw[r.Z];exact⟨rfl,rfl,rfl⟩);clear z B m hc r;go_wp2_with fail;go_ret2;rw[C.Z.1,C.Z.2.1,C.Z.2.2];exact⟨rfl,u⟩
 ·have r:Hid (s.jK b.1.1 j.1.1=((5,0),s)):=bZ (by unfold LS.jK;rw[ae (by rw[m];simp),ag hc,yd hf]);obtain rfl:c=5:=by injection n with n;injection n
  clear z B m hc hf n;go_wp2_with fail;go_ret2;rw[r.Z];exact⟨rfl,u⟩
 have r:Hid (s.jK b.1.1 j.1.1=((0,0),(s.iq b.1.1 ⟨vn 0,some (gG j.1.1),j.1.1,none⟩).2)):=bZ (by unfold LS.jK;rw[ae (by rw[m];simp),ag hc,vZ hf]);obtain rfl:c=0:=by injection n with n;injection n
 have F:=bZ (B.Z w1 hf u);clear z B m hc hf u n;go_wp2_with(go_at_call 105;refine F.Z.mono ?_;rintro e w2 ⟨rfl,I⟩);go_ret2;rw[r.Z];exact⟨rfl,I⟩
end Ref
end
section
open Tryz
variable{s:bY.LS}{rn:List (a_)}{L:Nat->Prop}{b:List (a_×bY.Wo)}
def bY.LS.jO(s:bY.LS)(e:a_):Nat×bY.LS:=if bY.dL e=false then(1,s)else if(bY.cr s.cm e).isNone=true then(7,s) else(0,s.drop e)
namespace Ref
def fW.one{w:QV}{z:Nat}{es:List En}{B D C F E:Xa}(h:fW w z s rn L es b B D C F E):∀u∈es.flatMap En.cells,u.oneCell'=true:=λu hu=>by
 obtain⟨e,p,hc⟩:=Rp.1 hu;obtain⟨i,hi⟩:=QZ p;have m:=(az.1 hi).1;rw[h.kE]at m;have l:=h.pO i _ e (aq m) hi;have h1:e.eY.oneCell'=true:=by
  rcases l.eY with⟨_,_,j⟩|⟨_,_,_,_,_,_,_,j,_⟩<;>(rw[j];rfl)
 have h2:e.np.oneCell'=true:=by
  rcases l.kept with⟨_,_,j⟩|⟨kp,_,_,_,n,_⟩
  ·rw[j];rfl
  obtain⟨o,c,j⟩:=dP n;rw[j];rfl
 unfold En.cells at hc;have y:∀v∈ei e.w,v.oneCell'=true:=λv hv=>by
  generalize e.w=r at hv;cases r<;>(simp[ei]at hv;rcases hv with rfl|rfl<;>rfl)
 rcases aP.1 hc with rfl|hc
 ·rfl
 rcases aP.1 hc with rfl|hc
 ·rfl
 rcases aP.1 hc with rfl|hc
 ·exact h1
 rcases aP.1 hc with rfl|hc
 ·rfl
 rcases aP.1 hc with rfl|hc
 ·exact h2
 exact y u hc
def F9{w:QV}{es:List En}{g l:Nat}(h:w.ownsRow 8 168 7 (.slice (some ⟨g,0,none⟩) es.length l) es.length (es.flatMap En.cells))(i:Nat)(hi:i<=es.length):∀j u,((es.drop i).flatMap En.cells)[j]?=some u->w.cell? ⟨g,i*7+j,none⟩=some u:=λj u hj=>by
 have:=h.cells (g:=g) rfl (i*7+j) u (by
  have e:es.flatMap En.cells=(es.take i).flatMap En.cells++(es.drop i).flatMap En.cells:=by rw[<-Qf,Q9]
  have hl:((es.take i).flatMap En.cells).length=i*7:=by rw[vY,P7,RH hi]
  rw[e,aY RM,hl,Qx];exact hj)
 rw[addr_add,aI]at this;exact this
def Di{w:QV}{es:List En}{g l:Nat}(h:w.ownsRow 8 168 7 (.slice (some ⟨g,0,none⟩) es.length l) es.length (es.flatMap En.cells))(i:Nat):∀j u,((es.take i).flatMap En.cells)[j]?=some u->w.cell? ⟨g,0+j,none⟩=some u:=λj u hj=>by
 have:=h.cells (g:=g) rfl j u (by
  have e:es.flatMap En.cells=(es.take i).flatMap En.cells++(es.drop i).flatMap En.cells:=by rw[<-Qf,Q9]
  rw[e,aU (az.1 hj).1];exact hj)
 rw[addr_add]at this;exact this
def JX(l:Nat)(s:bY.LS)(j:a_)(w:QV)(L:Nat->Prop)(e:Ending)(w':QV):Prop :=(bY.dL j=false/\e=.returned (.int .i64 1)/\eX (jJ l s) w L w')\/(bY.dL j=true/\bY.cr s.cm j=none/\e=.returned (.int .i64 7)/\eX (jJ l s) w L w')\/(bY.dL j=true/\(bY.cr s.cm j).isSome=true/\e=.returned (.int .i64 0)/\eX (jJ l { s with cm:=bY.del s.cm j }) w L w')
def F_(w:QV)(y:Nat)(s:bY.LS)(L:Nat->Prop)(n:ba)(h:jJ y s w L)(hl:s.cm.length<=900)(hk:n.size<=20000000):Calls prog 107 #[ptr y,.string n] w (JX y s n.1.1 w L):=by
 have S:=eg n w hk;rw[pK]at S;have X:=bZ h;obtain⟨d,h⟩:=h;have hF:=mI w y _ [] L n h (by show s.cm.length<=_;omega);have Q:8<=w.1.size:=ah (h.ct _ SP).1 (aE (h.ct.lt SP));obtain⟨es,b,vA,vF,vB,vR,vN,h⟩:=h;obtain⟨c0,_,_,_,_,_,cf⟩:=h.cells;have ab:=cj h.eb;have p:=bZ S;have m:=bZ h;unfold ptr at hF ⊢;have E:=bZ hF;clear S hF h;cases C:bY.dL n.1.1 with
 |false =>
  rw[C]at p;go_enter func107,ntmps107;go_wp2_with(go_at_call 108;refine p.Z.mono ?_;rintro e w' ⟨rfl,rfl⟩);go_ret;exact .inl ⟨C,rfl,eX.refl X.Z⟩
 |true =>
  rw[C]at p;have M:=bZ C;clear C;go_enter func107,ntmps107;go_wp2_with(go_at_call 108;refine p.Z.mono ?_;rintro e w' ⟨rfl,rfl⟩);refine E.Z.mono ?_;rintro e w'⟨am,hx⟩;have ao:=am.symm;subst ao;rcases hx with⟨ak,rfl⟩|⟨i,th,D,V,rfl⟩
  ·clear E p;go_wp2_with fail;go_ret;exact .inr (.inl ⟨M.Z,ak,rfl,eX.refl X.Z⟩)
  obtain⟨e,g,l,U,Z,hv,hg,hc⟩:=m.Z.entry D;have I:=m.Z.kE;have hi:=(az.1 U).1;rw[<-I]at hv;subst hv;have ax:es.length<=900:=by rw[I];exact hl
  have av:es.length<=l:=by
   rcases m.Z.all.2 with⟨P,_⟩|⟨g',cp,ap,P,_,_,ai,_⟩
   ·cases P
   cases P;exact ai
  have F:=m.Z.one;have z:(es.take i).length=i:=S7;obtain⟨o1,c1,w1,B,e1⟩:=s9.join (c:=l) (s9.nil w) (Di m.Z.all i) (λu hu=>F u (by
   obtain⟨a,T,hb⟩:=Rp.1 hu;exact Rp.2 ⟨a,RS T,hb⟩)) Q (by rw[z];simp;omega)
  rw[z]at B e1;simp only[P6,aI,Qv]at B e1;have R:w1.ownsRow 8 168 7 (.slice (some ⟨g,0,none⟩) es.length l) es.length (es.flatMap En.cells):=cD m.Z.all (λk hk cs fz hb=>(e1.eh.block k (cj hb)).trans hb);have d0:w1.cell? ⟨y,0,none⟩=some (.slice (some ⟨g,0,none⟩) es.length l):=(UF (e1.eh.block y ab)).trans c0;have a3:y<w1.1.size:=aA ab e1.eh.size;have J:(es.drop (i+1)).length=es.length-(i+1):=aO;have G:∀u∈(es.drop (i+1)).flatMap En.cells,u.oneCell'=true:=λu hu=>F u (by
   obtain⟨a,T,hb⟩:=Rp.1 hu;exact Rp.2 ⟨a,List.mem_of_mem_drop T,hb⟩)
  have aC:(i:Int)<(es.length:Int):=RM;have Y:=bZ (show(bY.cr s.cm n.1.1).isSome=true by have:bY.cr s.cm n.1.1=some th:=V;rw[this];rfl);by_cases aa:l=i+1
  ·have ad:es.drop (i+1)=[]:=aQ RM;obtain⟨o2,c2,w2,r,e2⟩:=s9.join (g:=g) (off:=0) (c:=l-(i+1)) e1 (ks:=es.drop (i+1)) (λj u hj=>by rw[ad]at hj;cases hj) G Q (by rw[z,J];omega);rw[z,J]at r e2;obtain⟨k1,k2,k3,k4⟩:=m.Z.JQ D e2;have N:=bZ B;have O:=bZ r;have K:=bZ k1;have ay:(if l=i+1 then some (⟨g,0,none⟩:Addr)else some ⟨g,(i+1)*7,none⟩)=some ⟨g,0,none⟩:=ag aa;have a0:i+1<=es.length:=hi;have a2:i+1<=l:=RM;clear ad aa B r k1 e1 e2 R hc Z F G E p D V U I
   go_upto_region 10 with(first|(at_builtin;refine cY _ rfl _ _ _ _ rfl _ _ _ _ rfl rfl N.Z ?_)|(at_builtin;refine cY _ rfl _ _ _ _ rfl _ _ _ _ rfl rfl O.Z ?_))
   go_wp2_with fail;go_ret;exact .inr (.inr ⟨M.Z,Y.Z,rfl,K.Z⟩)
  obtain⟨o2,c2,w2,r,e2⟩:=s9.join (g:=g) (off:=(i+1)*7) (c:=l-(i+1)) e1 (F9 R (i+1) RM) G Q (by rw[z,J];omega);rw[z,J]at r e2;obtain⟨k1,k2,k3,k4⟩:=m.Z.JQ D e2;have N:=bZ B;have O:=bZ r;have K:=bZ k1;clear B r k1 e1 e2 R hc Z F G E p D V U I
  go_upto_region 10 with(first|(at_builtin;refine cY _ rfl _ _ _ _ rfl _ _ _ _ rfl rfl N.Z ?_)|(at_builtin;refine cY _ rfl _ _ _ _ rfl _ _ _ _ rfl rfl O.Z ?_))
  go_wp2_with fail;go_ret;exact .inr (.inr ⟨M.Z,Y.Z,rfl,K.Z⟩)
end Ref
end
section
open Tryz
namespace Ref
def Ga(w:QV)(l:Nat)(s:bY.LS)(L:Nat->Prop)(b:ba)(h:jJ l s w L)(hl:s.cm.length<=900)(p:b.size<=20000000)(hj:(cW s.jr).length<=1000000000000000000):Calls prog 70 #[ptr l,.string b] w λe w'=>e=.returned (.int .i64 ((s.jO b.1.1).1:Nat))/\eX (jJ l (s.jO b.1.1).2) w L w':=by
 have z:=F_ w l s L b h hl p;have P:(⟨#[100,114,111,112,32]⟩++b:ba).size=5+b.size:=SN;have Q:(⟨#[100,114,111,112,32]⟩:ba).size=5:=rfl;have y:∀w1,eX (jJ l { s with cm:=bY.del s.cm b.1.1 }) w L w1->Calls prog 105 #[ptr l,.string (⟨#[100,114,111,112,32]⟩++b)] w1 λe w'=>e=.returned (.tuple #[])/\eX (jJ l (s.drop b.1.1)) w L w':=λw1 M=>by
  obtain⟨G,J,B,K,C⟩:=M;refine(Bk w1 l _ G _ J RM hj).mono ?_;rintro e w'⟨rfl,I,k1,k2,k3,k4⟩;have hs:=C.size;refine⟨rfl,I,?_,λk p=>?_,λk p=>k3 k (K k p),C.trans k4 B⟩
  ·rw[dD]at k1;exact k1
  rcases k2 k p with h|h
  ·exact B k h
  exact .inr RM
 unfold ptr at z y ⊢;have r:=bZ z;have u:=bZ y;clear z y h;have O:¬9223372036854775807<5+b.size:=RM;go_enter func70,ntmps70;go_wp2_with fail;refine r.Z.mono ?_;rintro e w1 (⟨j,rfl,m⟩|⟨j,hv,rfl,m⟩|⟨j,hv,rfl,m⟩)
 ·have n:Hid (s.jO b.1.1=(1,s)):=bZ (by unfold bY.LS.jO;rw[ag j]);clear r u j;go_wp2_with fail;go_ret;rw[n.Z];exact⟨rfl,m⟩
 ·have n:Hid (s.jO b.1.1=(7,s)):=bZ (by unfold bY.LS.jO;rw[ae (by rw[j];simp),ag (by rw[hv];rfl)]);clear r u j hv;go_wp2_with fail;go_ret;rw[n.Z];exact⟨rfl,m⟩
 have n:Hid (s.jO b.1.1=(0,s.drop b.1.1)):=bZ (by
  unfold bY.LS.jO;rw[ae (by rw[j];simp),ae (λD=>by
   cases E:bY.cr s.cm b.1.1 with
   |none=>rw[E]at hv;cases hv
   |some _=>rw[E]at D;cases D)])
 have F:=bZ (u.Z w1 m);clear r u j hv m;go_wp2_with(go_at_call 105;refine F.Z.mono ?_;rintro e w2 ⟨rfl,N⟩);go_ret;rw[n.Z];exact⟨rfl,N⟩
end Ref
end
