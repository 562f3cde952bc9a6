/- Out of Q7. -/
import Derived.Test.YtpekpdimdelncaaGreatDoorP29
import Derived.StillTailTactics
set_option linter.unusedVariables false
set_option linter.unusedSimpArgs false
set_option maxRecDepth 100000
set_option maxHeartbeats 4000000
set_option linter.defProp false
namespace Go.Proofs.YtpekpdimdelncaaGreatDoor
open Go.RowKit Go.Shelf
section
open bY
open Tryz
namespace Ref
variable{v:V}{a:Int}{m:Bool}{ks:List (a_)}{x:ba}{b:a_}
def KF.word{u:Bool}(h:KF v a m true u ks):(∃b,v=vw b)/\m=false/\u=false:=by
 rcases h with⟨_,h1,_⟩|⟨h1,_,h2,h⟩|⟨_,h1,_⟩
 ·cases h1
 ·exact⟨h,h1,h2⟩
 cases h1
def KF.list{p:Bool}(h:KF v a m p true ks):(∃l,v=vl l/\ks=l.map (wr 3)/\∀x∈l,L3 x)/\m=false/\p=false:=by
 rcases h with⟨_,_,h1,_⟩|⟨_,_,h1,_⟩|⟨h1,h2,_,h⟩
 ·cases h1
 ·cases h1
 exact⟨h,h1,h2⟩
def ny(h:Tx x (vw b)):x.size=b.length+2/\(x.extract 1 (x.size-1)).1.1=b:=by
 have h1:x.1.1=39 :: (b++[39]):=by rw[h,rV]
 have h2:x.size=b.length+2:=by rw[UB,h1];simp
 refine⟨h2,?_⟩;rw[UG,h1,h2,Qm,aW];exact Rx RM
def sN:prog.follows .mixedOrders=true:=RO
def la{v1 v2:V}{a1 p:Int}{e j p1 n u1 u2:Bool}{u y:List (a_)}(h1:KF v1 a1 e p1 u1 u)(h2:KF v2 p j n u2 y)(h:¬(e=true/\j=true))(r:¬(p1=true/\n=true)):bY.less v1 v2=.error 9:=by
 rcases h1 with⟨rfl,_,_,rfl,_⟩|⟨_,rfl,_,b,rfl⟩|⟨_,_,_,l,rfl,_⟩
 ·rcases h2 with⟨rfl,_⟩|⟨_,_,_,b,rfl⟩|⟨_,_,_,l,rfl,_⟩
  ·exact absurd ⟨rfl,rfl⟩ h
  ·rfl
  rfl
 ·rcases h2 with⟨rfl,_,_,rfl,_⟩|⟨_,rfl,_,b,rfl⟩|⟨_,_,_,l,rfl,_⟩
  ·rfl
  ·exact absurd ⟨rfl,rfl⟩ r
  rfl
 rfl
def FM(v u:V)(x y:ba)(w:QV)(N:8<=w.1.size)(hv:L3 v)(hu:L3 u)(hx:Tx x v)(hy:Tx y u)(bf:x.size<=100000)(bg:y.size<=100000):Calls prog 239 #[.int .u8 60,.string x,.string y] w λe w'=>e=.returned (dw (bY.make 60 v u))/\Xb w w':=by
 obtain⟨a1,Q,p1,u1,bh,k1,E,_⟩:=kinds hv x hx RM;obtain⟨L,Y,Z,u2,bj,k2,F,_⟩:=kinds hu y hy RM;have E:=bZ E;have F:=bZ F;obtain⟨R,j⟩:∃R,dw (bY.make 60 v u)=R:=⟨_,rfl⟩;rw[j];go_enter func239,ntmps239;go_wp2_with fail;refine(E.Z (dR w)).1.mono ?_;rintro e w1⟨rfl,C⟩;obtain rfl:=C.symm;dsimp only;go_wp2_with fail;refine(F.Z _).1.mono ?_;rintro e w1⟨rfl,C⟩;obtain rfl:=C.symm;dsimp only;go_wp2_with fail;refine(E.Z _).2.1.mono ?_;rintro e w1⟨rfl,C⟩;obtain rfl:=C.symm;dsimp only;go_wp2_with fail;refine(F.Z _).2.1.mono ?_;rintro e w1⟨rfl,C⟩;obtain rfl:=C.symm;dsimp only;go_wp2_with fail;refine((E.Z _).2.2 (eS N)).mono ?_;rintro e w1⟨o1,c1,rfl,I⟩;dsimp only;go_wp2_with fail;refine((F.Z _).2.2 (ah (eS N) I.eh.size)).mono ?_;rintro e w2⟨o2,c2,rfl,M⟩;have aC:=bZ (I.below M.eh);have a0:=bZ M;have G:Below (dR w).1.size (dR w) w2:=I.eh.trans (M.eh.mono I.eh.size);have a7:8<=w2.1.size:=ah (eS N) G.size;have n:=bZ (λw3 (h:Xb w2 w3)=>gl (G.trans (h.mono G.size)));have l:=bZ (λw3 (h:Xb w2 w3) x y=>ft (G.trans (h.mono G.size)) x y);clear I M E F G;dsimp only;by_cases P:p1=true/\Z=true
 ·obtain⟨rfl,rfl⟩:=P;obtain⟨⟨b1,rfl⟩,rfl,rfl⟩:=k1.word;obtain⟨⟨b2,rfl⟩,rfl,rfl⟩:=k2.word;obtain⟨ax,U⟩:=ny hx;obtain⟨ay,X⟩:=ny hy;have B:bY.make 60 (vw b1) (vw b2)=.ok (bY.bit (Op.bytesLess (x.extract 1 (x.size-1)).1.1 (y.extract 1 (y.size-1)).1.1)):=by rw[U,X];rfl
  rw[B,<-UC,<-UC]at j;obtain⟨b,hb⟩:∃b,Op.bytesLess (x.extract 1 (x.size-1)).toList (y.extract 1 (y.size-1)).toList=b:=⟨_,rfl⟩;rw[hb]at j;obtain⟨tc,ts,J⟩:=dG (.ok (bY.bit b));have D:=bZ (λw=>vf b w);rw[J]at D j;subst j;have a8:2<=x.size:=RM;have bc:2<=y.size:=RM;have a9:¬(x.size:Int)<2:=RM;have bd:¬(y.size:Int)<2:=RM;have ak:((x.size:Int)-1).toNat=x.size-1:=RM;have am:((y.size:Int)-1).toNat=y.size-1:=RM;have ap:IntKind.i64.wrap ((x.size:Int)-1)=(x.size:Int)-1:=Sk;have av:IntKind.i64.wrap ((y.size:Int)-1)=(y.size:Int)-1:=Sk;have aa:0<=(x.size:Int)-1/\(x.size:Int)-1<=(x.size:Int):=RM;have ab:0<=(y.size:Int)-1/\(y.size:Int)-1<=(y.size:Int):=RM;have ad:(1:Int)<=(x.size:Int)-1:=RM;have ai:(1:Int)<=(y.size:Int)-1:=RM;clear J B k1 k2 U X ax ay;go_wp2_with fail;refine wp_region_still_tail 11 sN RO ?_;simp only[P5,List.take_zero,Qm,aW]
  iterate 11 (with_reducible refine wpStill_step (λK T=>?_);go_simp;(try simp only[ap,av,ak,am,ag aa,ag ab,ag ad,ag ai,hb]);with_reducible refine T _ ?_;clear T K)
  with_reducible refine wpStill_nil ?_
  show wpList _ _ _ _ _ w2.drew;go_wp2_with fail;have S:Xb w2 w2.drew:=(Uz _ w2).drew;refine(D.Z _).mono ?_;rintro e w3⟨rfl,z⟩;have z:=S.trans (z.mono S.size);obtain⟨r,c1,f0,f1⟩:=n.Z _ z;have p:=bZ (l.Z _ z);clear z n l;dsimp only;go_wp2_with fail;exact UA (v:=.agg #[.int .i64 tc,.string ts]) R_ rfl ⟨rfl,p.Z _ _⟩
 by_cases O:Q=true/\Y=true
 ·obtain⟨rfl,rfl⟩:=O;obtain⟨rfl,rfl,rfl,a3,a4⟩:=k1.num;obtain⟨rfl,rfl,rfl,a5,a6⟩:=k2.num;clear k1 k2;have B:bY.make 60 (vn a1) (vn L)=.ok (bY.bit (decide (a1<L))):=rfl;rw[B]at j;have D:=bZ (λw=>vf (decide (a1<L)) w);obtain⟨b,hb⟩:∃b,decide (a1<L)=b:=⟨_,rfl⟩;rw[hb]at D j;obtain⟨tc,ts,J⟩:=dG (.ok (bY.bit b));rw[J]at D j;subst j;clear J B;go_wp2_with fail;refine(D.Z _).mono ?_;rintro e w3⟨rfl,z⟩;obtain⟨r,c1,f0,f1⟩:=n.Z _ z;have p:=bZ (l.Z _ z);clear z n l;dsimp only;go_wp2_with fail;exact UA (v:=.agg #[.int .i64 tc,.string ts]) R_ rfl ⟨rfl,p.Z _ _⟩
 have B:bY.make 60 v u=.error 9:=la k1 k2 O P;have ao:p1=true->Q=false:=λh=>by subst h;exact k1.word.2.1
 rw[B]at j;rw[ri 9 9 rfl]at j;subst j;clear B k1 k2;cases p1 with
 |true =>
  obtain rfl:=ao rfl;obtain rfl:Z=false:=by simpa using P
  obtain⟨r,c1,f0,f1⟩:=n.Z _ (Uz _ _);have p:=bZ (l.Z _ (Uz _ _));clear n l;go_wp2_with fail;exact UA (v:=.agg #[.int .i64 9,.string ⟨#[]⟩]) R_ rfl ⟨rfl,p.Z _ _⟩
 |false =>
  cases Q with
  |false =>
   obtain⟨r,c1,f0,f1⟩:=n.Z _ (Uz _ _);have p:=bZ (l.Z _ (Uz _ _));clear n l;go_wp2_with fail;exact UA (v:=.agg #[.int .i64 9,.string ⟨#[]⟩]) R_ rfl ⟨rfl,p.Z _ _⟩
  |true =>
   obtain rfl:Y=false:=by simpa using O
   obtain⟨r,c1,f0,f1⟩:=n.Z _ (Uz _ _);have p:=bZ (l.Z _ (Uz _ _));clear n l;go_wp2_with fail;exact UA (v:=.agg #[.int .i64 9,.string ⟨#[]⟩]) R_ rfl ⟨rfl,p.Z _ _⟩
end Ref
end
section
open bY
open Tryz
namespace Ref
variable{n:Nat}
def tg{v1 v2:V}{a1 m:Int}{e j p1 u u1 u2:Bool}{p r:List (a_)}(h1:KF v1 a1 e p1 u1 p)(h2:KF v2 m j u u2 r)(h:¬j=true\/e=true):gd v1 v2=.error 9:=by
 rcases h2 with⟨rfl,_,_,rfl,_⟩|⟨_,_,_,b,rfl⟩|⟨_,_,_,l,rfl,_⟩
 ·rcases h1 with⟨rfl,_,_,rfl,_⟩|⟨rfl,_⟩|⟨rfl,_⟩
  ·rfl
  ·rcases h with h|h
   ·exact absurd rfl h
   cases h
  rcases h with h|h
  ·exact absurd rfl h
  cases h
 ·rfl
 rfl
def D8{a:Int}(h:a<0\/(n:Int)<=a):bY.place a n=.error 7:=by unfold bY.place;rw[ag h]
def D9{k:Nat}(h:k<n):bY.place (k:Int) n=.ok k:=by
 unfold bY.place;rw[ae RM];rfl
def Lv(v u:V)(x y:ba)(w:QV)(N:8<=w.1.size)(hv:L3 v)(hu:L3 u)(hx:Tx x v)(hy:Tx y u)(a7:x.size<=100000)(a8:y.size<=100000):Calls prog 239 #[.int .u8 64,.string x,.string y] w λe w'=>e=.returned (dw (bY.make 64 v u))/\Xb w w':=by
 obtain⟨a1,L,p1,u1,a9,k1,D,_⟩:=kinds hv x hx RM;obtain⟨m,P,p2,u2,bc,k2,E,_⟩:=kinds hu y hy RM;have D:=bZ D;have E:=bZ E;obtain⟨R,b⟩:∃R,dw (bY.make 64 v u)=R:=⟨_,rfl⟩;rw[b];go_enter func239,ntmps239;go_wp2_with fail;refine(D.Z (dR w)).1.mono ?_;rintro e w1⟨rfl,C⟩;obtain rfl:=C.symm;dsimp only;go_wp2_with fail;refine(E.Z _).1.mono ?_;rintro e w1⟨rfl,C⟩;obtain rfl:=C.symm;dsimp only;go_wp2_with fail;refine(D.Z _).2.1.mono ?_;rintro e w1⟨rfl,C⟩;obtain rfl:=C.symm;dsimp only;go_wp2_with fail;refine(E.Z _).2.1.mono ?_;rintro e w1⟨rfl,C⟩;obtain rfl:=C.symm;dsimp only;go_wp2_with fail;refine((D.Z _).2.2 (eS N)).mono ?_;rintro e w1⟨o1,c1,rfl,K⟩;dsimp only;go_wp2_with fail;refine((E.Z _).2.2 (ah (eS N) K.eh.size)).mono ?_;rintro e w2⟨o2,c2,rfl,M⟩;have U:=bZ (K.below M.eh);have ak:=bZ M;have F:Below (dR w).1.size (dR w) w2:=K.eh.trans (M.eh.mono K.eh.size);have ap:8<=w2.1.size:=ah (eS N) F.size;have l:=bZ (λw3 (h:Xb w2 w3)=>gl (F.trans (h.mono F.size)));have j:=bZ (λw3 (h:Xb w2 w3) x y=>ft (F.trans (h.mono F.size)) x y);clear K M D E F;dsimp only;by_cases O:P=true/\¬L=true
 ·obtain⟨rfl,I⟩:=O;obtain rfl:L=false:=by simpa using I
  obtain⟨rfl,rfl,rfl,am,ao⟩:=k2.num;cases p1 with
  |true =>
   obtain⟨⟨b1,rfl⟩,_,rfl⟩:=k1.word;obtain⟨a5,Q⟩:=ny hx;have B:bY.make 64 (vw b1) (vn m)=match bY.place m b1.length with
     |.ok k=>.ok (vw ((b1.drop k).take 1))
     |.error e=>.error e:=rfl
   rw[B]at b;have a6:((x.size:Int)-2)=(b1.length:Int):=RM;have a4:IntKind.i64.wrap ((x.size:Int)-2)=(b1.length:Int):=Sk;clear k1 k2 B;by_cases J:m<0\/(b1.length:Int)<=m
   ·rw[D8 J]at b;rw[ri 7 7 rfl]at b;subst b;clear I Q;by_cases ad:m<0
    ·skip
     obtain⟨r,c1,f0,f1⟩:=l.Z _ (Uz _ _);have p:=bZ (j.Z _ (Uz _ _));clear l j;go_wp2_with fail;exact UA (v:=.agg #[.int .i64 7,.string ⟨#[]⟩]) R_ rfl ⟨rfl,p.Z _ _⟩
    have Y:(b1.length:Int)<=m:=RM;have Z:¬m<(b1.length:Int):=RM;obtain⟨r,c1,f0,f1⟩:=l.Z _ (Uz _ _);have p:=bZ (j.Z _ (Uz _ _));clear l j;go_wp2_with fail;exact UA (v:=.agg #[.int .i64 7,.string ⟨#[]⟩]) R_ rfl ⟨rfl,p.Z _ _⟩
   obtain⟨k,rfl⟩:∃k:Nat,m=(k:Int):=⟨m.toNat,by omega⟩;have G:k<b1.length:=RM;rw[D9 G]at b;simp only at b;obtain⟨t,T⟩:∃t,x.extract (1+k) (2+k)=t:=⟨_,rfl⟩;have a3:t.size=1:=by
    rw[<-T,UB,UG,P7,aO,<-UB];omega
   have S:dw (.ok (vw ((b1.drop k).take 1)))=.agg #[.int .i64 0,.string (⟨#[39]⟩++t++⟨#[39]⟩)]:=by
    refine nx ?_;show _=_;rw[dD,dD,<-T,UG,hx,show 2+k-(1+k)=1 by omega,Aw G,rV];rfl
   rw[S]at b;subst b;have ab:(k:Int)<(b1.length:Int):=RM;have aa:¬(k:Int)<0:=RM;have ax:(k:Int)+3<=(x.size:Int):=RM;have a0:((1:Int)+(k:Int)).toNat=1+k:=RM;have av:((2:Int)+(k:Int)).toNat=2+k:=RM;clear S I Q J;obtain⟨r,c1,f0,f1⟩:=l.Z _ (Uz _ _);have p:=bZ (j.Z _ (Uz _ _));clear l j;go_wp2_with fail;exact UA (v:=.agg #[.int .i64 0,.string (⟨#[39]⟩++t++⟨#[39]⟩)]) R_ rfl ⟨rfl,p.Z _ _⟩
  |false =>
   obtain rfl:u1=true:=by
    rcases k1 with⟨h,_⟩|⟨_,h,_⟩|⟨_,_,h,_⟩
    ·cases h
    ·cases h
    exact h
   obtain⟨⟨z,rfl,rfl,ay⟩,_,_⟩:=k1.list;have B:bY.make 64 (vl z) (vn m)=match bY.place m z.length with
     |.ok k=>.ok (z[k]?.getD (vn 0))
     |.error e=>.error e:=rfl
   rw[B]at b;have aC:(z.map (wr 3)).length=z.length:=aG _;clear k1 k2 B;by_cases J:m<0\/(z.length:Int)<=m
   ·rw[D8 J]at b;rw[ri 7 7 rfl]at b;subst b;clear I;by_cases ad:m<0
    ·skip
     obtain⟨r,c1,f0,f1⟩:=l.Z _ (Uz _ _);have p:=bZ (j.Z _ (Uz _ _));clear l j;go_wp2_with fail;exact UA (v:=.agg #[.int .i64 7,.string ⟨#[]⟩]) R_ rfl ⟨rfl,p.Z _ _⟩
    have Y:(z.length:Int)<=m:=RM;have Z:¬m<(z.length:Int):=RM;obtain⟨r,c1,f0,f1⟩:=l.Z _ (Uz _ _);have p:=bZ (j.Z _ (Uz _ _));clear l j;go_wp2_with fail;exact UA (v:=.agg #[.int .i64 7,.string ⟨#[]⟩]) R_ rfl ⟨rfl,p.Z _ _⟩
   obtain⟨k,rfl⟩:∃k:Nat,m=(k:Int):=⟨m.toNat,by omega⟩;have G:k<z.length:=RM;rw[D9 G]at b;simp only at b;rw[aq G]at b;change Value.agg #[.int .i64 0,str (wr 3 z[k])]=R at b;unfold str at b;subst b;have X:(z.map (wr 3))[k]?=some (wr 3 z[k]):=by rw[P2,aq G];rfl
   have ab:(k:Int)<(z.length:Int):=RM;have aa:¬(k:Int)<0:=RM;clear I J;obtain⟨g,rfl,hg,hcell⟩:=U.Z.cell X;unfold str at hcell;obtain⟨r,c1,f0,f1⟩:=l.Z _ (Uz _ _);have p:=bZ (j.Z _ (Uz _ _));clear l j;go_wp2_with fail;exact UA (v:=.agg #[.int .i64 0,.string ⟨(wr 3 z[k]).toArray⟩]) R_ rfl ⟨rfl,p.Z _ _⟩
 have B:bY.make 64 v u=.error 9:=tg k1 k2 (by
  by_cases h:P=true
  ·exact .inr (by simpa[h]using O)
  ·exact .inl h)
 have ai:L=true->p1=false/\u1=false:=λh=>by subst h;exact⟨k1.num.2.1,k1.num.2.2.1⟩
 rw[B]at b;rw[ri 9 9 rfl]at b;subst b;clear B k1 k2;cases P with
 |true =>
  obtain rfl:L=true:=by simpa using O
  obtain⟨rfl,rfl⟩:=ai rfl;obtain⟨r,c1,f0,f1⟩:=l.Z _ (Uz _ _);have p:=bZ (j.Z _ (Uz _ _));clear l j;go_wp2_with fail;exact UA (v:=.agg #[.int .i64 9,.string ⟨#[]⟩]) R_ rfl ⟨rfl,p.Z _ _⟩
 |false =>
  cases L with
  |true =>
   obtain⟨r,c1,f0,f1⟩:=l.Z _ (Uz _ _);have p:=bZ (j.Z _ (Uz _ _));clear l j;go_wp2_with fail;exact UA (v:=.agg #[.int .i64 9,.string ⟨#[]⟩]) R_ rfl ⟨rfl,p.Z _ _⟩
  |false =>
   obtain⟨r,c1,f0,f1⟩:=l.Z _ (Uz _ _);have p:=bZ (j.Z _ (Uz _ _));clear l j;go_wp2_with fail;exact UA (v:=.agg #[.int .i64 9,.string ⟨#[]⟩]) R_ rfl ⟨rfl,p.Z _ _⟩
end Ref
end
section
open Tryz
namespace Ref
variable{v:Xa}{o:Option Addr}
def AZ(w:QV)(b e:Option Addr)(n c1 c2:Nat)(l:n<=c1):(Builtin.append_ #[40,40] 40 #[.slice b n c1,.slice e 0 c2]).run prog w=.ok (.slice b n c1) w:=by
 obtain⟨u,j,m,p,r⟩:=UJ qf;cases b<;>cases e<;>simp[Builtin.append_,run_underlying underlying40,Builtin.lenOf,Builtin.firstCells,sizeOf,typeInfo,j,l,storeCells,loadCells,loadCellsFrom]
def iO.join{w0 w1 w:QV}{l ks:List (a_)}{c:Nat}(h:iO w0 w v l)(hs:iO w1 w (.slice o ks.length c) ks)(B:8<=w0.1.size)(R:l.length+ks.length<=10000000):∃o' m w',(Builtin.append_ #[40,40] 40 #[v,.slice o ks.length c]).run prog w=.ok (.slice o' (l.length+ks.length) m) w'/\iO w0 w' (.slice o' (l.length+ks.length) m) (l++ks)/\w.1.size<=w'.1.size:=by
 by_cases z:ks.length=0
 ·have e:ks=[]:=QG.1 z;subst e;obtain⟨o',m,rfl⟩:=h.form;have D:l.length<=m:=by
   rcases h.row.2 with⟨e,z⟩|⟨g,r,M,e,_,_,E,_⟩
   ·omega
   cases e;exact E
  exact⟨o',m,w,AZ w o' o l.length m c D,by rw[QA];exact h,af _⟩
 obtain⟨x,hx⟩:∃x,ks[0]?=some x:=⟨ks[0],aq RM⟩;obtain⟨g,rfl,O,_⟩:=hs.cell hx;obtain⟨L,C,I,J,K⟩:=UJ qf;obtain⟨g',r,w',G,F,n,p,Q⟩:=run_append_lies (P:=prog) w 40 40 8 9 L _ 1 16 underlying40 C I J K rfl RZ v l.length (l.map str) h.row ⟨g,0,none⟩ ks.length c (ks.map str) R2 (λj u hj=>by
  rw[addr_add,aI];rw[P2]at hj;cases b:ks[j]? with
  |none=>rw[b]at hj;cases hj
  |some y =>
   rw[b]at hj;cases hj;obtain⟨N,e2,_,hc⟩:=hs.cell b;cases e2;exact hc) (λu hu=>by
  obtain⟨y,_,rfl⟩:=aH.1 hu;rfl) RM R6 RM (ah B h.eh.size) _ rfl
 refine⟨some ⟨g',0,none⟩,r,w',G,⟨?_,λk b=>?_,?_⟩,n.size⟩
 ·rw[aj,aV];exact F
 ·cases b;rcases p with p|p
  ·exact h.new _ p
  rw[p];exact h.eh.size
 exact⟨n.os.trans h.eh.os,n.tape.trans h.eh.tape,n.output.trans h.eh.output,ah h.eh.size n.size,λk b=>(n.block k (aA b h.eh.size) (λe=>by have:=h.new k e.symm;omega)).trans (h.eh.block k b)⟩
end Ref
end
section
open bY
open Tryz
namespace Ref
variable{x:ba}{l:List V}{b:a_}{a:Int}{ks:List (a_)}
def D'(h:Tx x (vl l))(hl:L3 (vl l)):x.1.1=hU (l.map (wr 3))/\l.length<=12:=by
 refine⟨?_,uJ hl rfl⟩;rw[h,CC,CD (λu hu=>pw 2 u (Ij hl u hu))];rfl
def vg:∀(a b:List (a_)),(cJ (a++b)).length<=(cJ a).length+(cJ b).length+1
 |[],b=>by rw[Qv];omega
 |[x],[]=>by simp[cJ]
 |[x],y :: b=>by
  have e:cJ (x :: y :: b)=x++44 :: cJ (y :: b):=rfl;show(cJ (x :: y :: b)).length<=x.length+_+1;rw[e,aj,aM];omega
 |x :: y :: a,b=>by
  have:=vg (y :: a) b;show(cJ (x :: y :: (a++b))).length<=_;rw[cJ,cJ,aj,aj,aM,aM];have e:y :: (a++b)=y :: a++b:=rfl;rw[e];omega
def jV{v1 v2:V}{a1 n:Int}{e j p1 m u1 u2:Bool}{r u:List (a_)}(h1:KF v1 a1 e p1 u1 r)(h2:KF v2 n j m u2 u)(h:¬(e=true/\j=true))(p:¬(p1=true/\m=true))(hu:¬(u1=true/\u2=true)):plus v1 v2=.error 9:=by
 rcases h1 with⟨rfl,_,_,rfl,_⟩|⟨_,rfl,_,b,rfl⟩|⟨_,_,rfl,l,rfl,_⟩
 ·rcases h2 with⟨rfl,_⟩|⟨_,_,_,b,rfl⟩|⟨_,_,_,l,rfl,_⟩
  ·exact absurd ⟨rfl,rfl⟩ h
  ·rfl
  rfl
 ·rcases h2 with⟨rfl,_,_,rfl,_⟩|⟨_,rfl,_,b,rfl⟩|⟨_,_,_,l,rfl,_⟩
  ·rfl
  ·exact absurd ⟨rfl,rfl⟩ p
  rfl
 rcases h2 with⟨rfl,_,_,rfl,_⟩|⟨_,rfl,_,b,rfl⟩|⟨_,_,rfl,l,rfl,_⟩
 ·rfl
 ·rfl
 exact absurd ⟨rfl,rfl⟩ hu
def KF.PJ{m p u:Bool}(h:KF (vw b) a m p u ks):p=true:=by
 rcases h with⟨_,_,_,h,_⟩|⟨_,h,_⟩|⟨_,_,_,l,h,_⟩
 ·have:=congrArg V.x h;cases this
 ·exact h
 have:=congrArg V.x h;cases this
def KF.Ou{m p u:Bool}(h:KF (vl l) a m p u ks):u=true:=by
 rcases h with⟨_,_,_,h,_⟩|⟨_,_,_,b,h⟩|⟨_,_,h,_⟩
 ·have:=congrArg V.x h;cases this
 ·have:=congrArg V.x h;cases this
 exact h
def C6(v u:V)(x y:ba)(w:QV)(r:8<=w.1.size)(hv:L3 v)(hu:L3 u)(hx:Tx x v)(hy:Tx y u)(av:x.size<=100000)(ax:y.size<=100000)(N:∃b c,v=vw b/\u=vw c):Calls prog 239 #[.int .u8 43,.string x,.string y] w λe w'=>e=.returned (dw (bY.make 43 v u))/\Xb w w':=by
 obtain⟨a1,m1,p1,u1,aC,k1,m,_⟩:=kinds hv x hx RM;obtain⟨a2,m2,p2,u2,a0,k2,n,_⟩:=kinds hu y hy RM;have m:=bZ m;have n:=bZ n;have aa:p1=true/\p2=true:=by
  obtain⟨b,c,rfl,rfl⟩:=N;exact⟨k1.PJ,k2.PJ⟩
 clear N;obtain⟨rfl,rfl⟩:=aa;obtain⟨⟨b1,rfl⟩,rfl,rfl⟩:=k1.word;obtain⟨⟨b2,rfl⟩,rfl,rfl⟩:=k2.word;obtain⟨O,_⟩:=ny hx;obtain⟨P,_⟩:=ny hy;have C:(x.extract 0 (x.size-1)++y.extract 1 y.size).1.1=39 :: (b1++b2++[39]):=by
  rw[dD,UG,UG,hx,hy,rV,rV,O,P,aW,Qm,aW];have e1:(39 :: (b1++[39])).take (b1.length+2-1-0)=39 :: b1:=by
   rw[show b1.length+2-1-0=b1.length+1 by omega,P5,Rx rfl]
  have e2:(b2++[39]).take (b2.length+2-1)=b2++[39]:=Qb R2;rw[e1,e2];simp
 have L:bY.make 43 (vw b1) (vw b2)=plus (vw b1) (vw b2):=rfl;rw[L];have E:=bZ (λw r=>tF (x.extract 0 (x.size-1)++y.extract 1 y.size) w r (by rw[UB,C];simp;omega));rw[C,Im hv hu,pI]at E;obtain⟨tc,ts,M⟩:=dG (plus (vw b1) (vw b2));rw[M]at E ⊢;have am:2<=x.size:=RM;have ap:2<=y.size:=RM;have ao:¬(x.size:Int)<2:=RM;have Y:((x.size:Int)-1).toNat=x.size-1:=RM;have ab:IntKind.i64.wrap ((x.size:Int)-1)=(x.size:Int)-1:=Sk;have T:0<=(x.size:Int)-1/\(x.size:Int)-1<=(x.size:Int):=RM;have X:(1:Int)<=(y.size:Int):=RM;have U:(1:Int)<=(x.size:Int):=RM;have Z:¬9223372036854775807<x.size-1+(y.size-1):=RM;have ad:(x.extract 0 (x.size-1)++y.extract 1 y.size).size<=200000:=by rw[UB,C];simp;omega
 have ay:(x.extract 0 (x.size-1)).size+(y.extract 1 y.size).size<=200000:=by rw[<-ve];exact ad
 clear M L k1 k2 C O P;go_enter func239,ntmps239;go_wp2_with fail;refine(m.Z (dR w)).1.mono ?_;rintro e w1⟨rfl,j⟩;obtain rfl:=j.symm;dsimp only;go_wp2_with fail;refine(n.Z _).1.mono ?_;rintro e w1⟨rfl,j⟩;obtain rfl:=j.symm;dsimp only;go_wp2_with fail;refine(m.Z _).2.1.mono ?_;rintro e w1⟨rfl,j⟩;obtain rfl:=j.symm;dsimp only;go_wp2_with fail;refine(n.Z _).2.1.mono ?_;rintro e w1⟨rfl,j⟩;obtain rfl:=j.symm;dsimp only;go_wp2_with fail;refine((m.Z _).2.2 (eS r)).mono ?_;rintro e w1⟨o1,c1,rfl,B⟩;dsimp only;go_wp2_with fail;refine((n.Z _).2.2 (ah (eS r) B.eh.size)).mono ?_;rintro e w2⟨o2,c2,rfl,D⟩;have ai:=bZ (B.below D.eh);have ak:=bZ D;have p:Below (dR w).1.size (dR w) w2:=B.eh.trans (D.eh.mono B.eh.size);have S:8<=w2.1.size:=ah (eS r) p.size;have I:=bZ (λw3 (h:Xb w2 w3)=>gl (p.trans (h.mono p.size)));have G:=bZ (λw3 (h:Xb w2 w3) x y=>ft (p.trans (h.mono p.size)) x y);clear B D m n p;dsimp only;go_wp2_with fail;refine wp_region_still_tail 8 sN RO ?_;simp only[P5,List.take_zero,Qm,aW]
 iterate 8 (with_reducible refine wpStill_step (λK J=>?_);go_simp;(try simp only[ab,Y,ag T,ag U,ag X,ae Z]);with_reducible refine J _ ?_;clear J K)
 with_reducible refine wpStill_nil ?_
 show wpList _ _ _ _ _ w2.drew;go_wp2_with fail;have F:Xb w2 w2.drew:=(Uz _ w2).drew;refine(E.Z _ (ah S F.size)).mono ?_;rintro e w3⟨rfl,z⟩;have z:=F.trans (z.mono F.size);obtain⟨R,c1,f0,f1⟩:=I.Z _ z;have Q:=bZ (G.Z _ z);clear z I G;dsimp only;go_wp2_with fail;exact UA (v:=.agg #[.int .i64 tc,.string ts]) (by simp[results,results239,go_sem,R,c1]) rfl ⟨rfl,Q.Z _ _⟩
end Ref
end
section
open bY
open Tryz
namespace Ref
variable{l:List V}
def Dk(v:V)(x:ba)(w:QV)(D:8<=w.1.size)(hv:L3 v)(hx:Tx x v)(J:x.size<=100000):Calls prog 236 #[.string ⟨#[119,111,114,100]⟩,.string x] w λe w'=>e=.returned (dw (ia v))/\Xb w w':=by
 obtain⟨a1,L,p1,u1,K,k1,n,G⟩:=kinds hv x hx RM;have n:=bZ n;obtain⟨R,j⟩:∃R,dw (ia v)=R:=⟨_,rfl⟩;rw[j];go_enter func236,ntmps236;go_wp2_with fail;refine(n.Z _).1.mono ?_;rintro e w1⟨rfl,C⟩;obtain rfl:=C.symm;go_wp2_with fail;refine(n.Z _).2.1.mono ?_;rintro e w1⟨rfl,C⟩;obtain rfl:=C.symm;go_wp2_with fail;refine((n.Z _).2.2 (eS D)).mono ?_;rintro e w2⟨M,c1,rfl,E⟩;have u:=E.eh;have B:=bZ (λw3 (h:Xb w2 w3)=>gl (u.trans (h.mono u.size)));have z:=bZ (λw3 (h:Xb w2 w3) x y=>ft (u.trans (h.mono u.size)) x y);rcases k1 with⟨rfl,rfl,rfl,rfl,F⟩|⟨rfl,rfl,rfl,b,rfl⟩|⟨rfl,rfl,rfl,l,rfl,I,hl⟩
 ·have hz:(⟨#[39]⟩++x++⟨#[39]⟩:ba).size<=100010:=by rw[ve,ve];show 1+x.size+1<=_;omega
  have r:dw (ia (vn a1))=.agg #[.int .i64 0,.string (⟨#[39]⟩++x++⟨#[39]⟩)]:=by
   refine nx (v:=vw (Lib.itoa a1)) ?_;show _=_;rw[dD,dD,hx,wE,rV];rfl
  rw[r]at j;subst j;obtain⟨p,c1,f0,f1⟩:=B.Z _ (Uz _ _);have m:=bZ (z.Z _ (Uz _ _));go_wp2_with fail;exact UA (v:=.agg #[.int .i64 0,.string (⟨#[39]⟩++x++⟨#[39]⟩)]) SQ rfl ⟨rfl,m.Z _ _⟩
 ·have r:dw (ia (vw b))=.agg #[.int .i64 0,.string x]:=nx hx;rw[r]at j;subst j;obtain⟨p,c1,f0,f1⟩:=B.Z _ (Uz _ _);have m:=bZ (z.Z _ (Uz _ _));go_wp2_with fail;exact UA (v:=.agg #[.int .i64 0,.string x]) SQ rfl ⟨rfl,m.Z _ _⟩
 have r:dw (ia (vl l))=.agg #[.int .i64 9,.string ⟨#[]⟩]:=rfl;rw[r]at j;subst j;obtain⟨p,c1,f0,f1⟩:=B.Z _ (Uz _ _);have m:=bZ (z.Z _ (Uz _ _));go_wp2_with fail;exact UA (v:=.agg #[.int .i64 9,.string ⟨#[]⟩]) SQ rfl ⟨rfl,m.Z _ _⟩
def Dl(v:V)(x:ba)(w:QV)(J:8<=w.1.size)(hv:L3 v)(hx:Tx x v)(P:x.size<=100000):Calls prog 236 #[.string ⟨#[115,105,122,101]⟩,.string x] w λe w'=>e=.returned (dw (bY.size v))/\Xb w w':=by
 obtain⟨a1,Q,p1,u1,D,k1,r,N⟩:=kinds hv x hx RM;have r:=bZ r;obtain⟨R,j⟩:∃R,dw (bY.size v)=R:=⟨_,rfl⟩;rw[j];go_enter func236,ntmps236;go_wp2_with fail;refine(r.Z (dR w)).1.mono ?_;rintro e w1⟨rfl,G⟩;obtain rfl:=G.symm;go_wp2_with fail;refine(r.Z _).2.1.mono ?_;rintro e w1⟨rfl,G⟩;obtain rfl:=G.symm;go_wp2_with fail;refine((r.Z _).2.2 (eS J)).mono ?_;rintro e w2⟨S,c1,rfl,K⟩;have B:=K.eh;have F:=bZ (λw3 (h:Xb w2 w3)=>gl (B.trans (h.mono B.size)));have E:=bZ (λw3 (h:Xb w2 w3) x y=>ft (B.trans (h.mono B.size)) x y);rcases k1 with⟨rfl,rfl,rfl,rfl,M⟩|⟨rfl,rfl,rfl,b,rfl⟩|⟨rfl,rfl,rfl,l,rfl,I,hl⟩
 ·have m:dw (bY.size (vn a1))=.agg #[.int .i64 9,.string ⟨#[]⟩]:=rfl;rw[m]at j;subst j;obtain⟨u,c1,f0,f1⟩:=F.Z _ (Uz _ _);have n:=bZ (E.Z _ (Uz _ _));go_wp2_with fail;exact UA (v:=.agg #[.int .i64 9,.string ⟨#[]⟩]) Tk rfl ⟨rfl,n.Z _ _⟩
 ·obtain⟨O,_⟩:=ny hx;have m:bY.size (vw b)=.ok (vn (b.length:Int)):=rfl;rw[m]at j;have p:=bZ (λw=>me (b.length:Int) w RM RM);obtain⟨tc,ts,C⟩:=dG (.ok (vn (b.length:Int)));rw[C]at p j;subst j;go_wp2_with fail;refine(p.Z _).mono ?_;rintro e w3⟨rfl,z⟩;obtain⟨u,c1,f0,f1⟩:=F.Z _ z;have n:=bZ (E.Z _ z);go_wp2_with fail;exact UA (v:=.agg #[.int .i64 tc,.string ts]) Tk rfl ⟨rfl,n.Z _ _⟩
 have hlen:D.length=l.length:=by rw[I,aG]
 have L:=uJ hv rfl;have m:bY.size (vl l)=.ok (vn (D.length:Int)):=by rw[hlen];rfl
 rw[m]at j;have p:=bZ (λw=>me (D.length:Int) w RM RM);obtain⟨tc,ts,C⟩:=dG (.ok (vn (D.length:Int)));rw[C]at p j;subst j;clear m C I hlen;go_wp2_with fail;refine(p.Z _).mono ?_;rintro e w3⟨rfl,z⟩;obtain⟨u,c1,f0,f1⟩:=F.Z _ z;have n:=bZ (E.Z _ z);go_wp2_with fail;exact UA (v:=.agg #[.int .i64 tc,.string ts]) Tk rfl ⟨rfl,n.Z _ _⟩
def JY{i:Nat}{v:V}(h:l[i]?=some v)(a:Int):fx a (l.drop i)=match v.x with
  |.inl k=>fx (bY.wrap (a+k)) (l.drop (i+1))
  |_=>.error 9:=by
 obtain⟨h1,h2⟩:=az.1 h;rw[aR h1,h2,fx];cases v.x<;>rfl
def Gc(v:V)(x:ba)(w:QV)(h8:8<=w.1.size)(hv:L3 v)(hx:Tx x v)(a0:x.size<=100000):Calls prog 236 #[.string ⟨#[115,117,109]⟩,.string x] w λe w'=>e=.returned (dw (jM v))/\Xb w w':=by
 obtain⟨a1,m1,p1,u1,m,k1,z,ap⟩:=kinds hv x hx RM;have z:=bZ z;obtain⟨Z,r⟩:∃R,dw (jM v)=R:=⟨_,rfl⟩;rw[r];go_enter func236,ntmps236;go_wp2_with fail;refine(z.Z (dR w)).1.mono ?_;rintro e w1⟨rfl,K⟩;obtain rfl:=K.symm;go_wp2_with fail;refine(z.Z _).2.1.mono ?_;rintro e w1⟨rfl,K⟩;obtain rfl:=K.symm;go_wp2_with fail;refine((z.Z _).2.2 (eS h8)).mono ?_;rintro e w2⟨o1,c1,rfl,T⟩;have ab:=bZ T;have F:=T.eh;have E:=bZ (λw3 (h:Xb w2 w3)=>gl (F.trans (h.mono F.size)));have D:=bZ (λw3 (h:Xb w2 w3) x y=>ft (F.trans (h.mono F.size)) x y);rcases k1 with⟨rfl,rfl,rfl,rfl,ha⟩|⟨rfl,rfl,rfl,b,rfl⟩|⟨rfl,rfl,rfl,l,rfl,I,hl⟩
 ·have B:dw (jM (vn a1))=.agg #[.int .i64 9,.string ⟨#[]⟩]:=rfl;rw[B]at r;subst r;obtain⟨p,c1,f0,f1⟩:=E.Z _ (Uz _ _);have n:=bZ (D.Z _ (Uz _ _));go_wp2_with fail;exact UA (v:=.agg #[.int .i64 9,.string ⟨#[]⟩]) SQ rfl ⟨rfl,n.Z _ _⟩
 ·have B:dw (jM (vw b))=.agg #[.int .i64 9,.string ⟨#[]⟩]:=rfl;rw[B]at r;subst r;obtain⟨p,c1,f0,f1⟩:=E.Z _ (Uz _ _);have n:=bZ (D.Z _ (Uz _ _));go_wp2_with fail;exact UA (v:=.agg #[.int .i64 9,.string ⟨#[]⟩]) SQ rfl ⟨rfl,n.Z _ _⟩
 have hlen:m.length=l.length:=by rw[I,aG]
 have ao:l.length<=12:=uJ hv rfl;have B:jM (vl l)=fx 0 (l.drop 0):=rfl;rw[B]at r;obtain⟨R,G⟩:∃R,fx 0 (l.drop 0)=R:=⟨_,rfl⟩;rw[G]at r;subst r;have aa:=bZ G;have N:=bZ (And.intro I hl);have O:=bZ hlen;have am:∀k∈m,k.length<=100000:=λk hk=>by
  have hit:=xA (l:=x.1.1) (ps:=m) (by rw[hx,I];exact Ot hv) hk;rw[<-UB]at hit;omega
 have ad:=bZ am;obtain⟨p,P,f0,f1⟩:=E.Z _ (Uz _ _);have n:=bZ (D.Z _ (Uz _ _));go_wp2_with fail
 go_loopw [10,11] (λav iv wr=>∃(i:Nat) (a:Int),i<=m.length/\-9223372036854775808<=a/\a<=9223372036854775807/\av=.int .i64 a/\iv=.int .i64 i/\wr=w2/\Hid (fx a (l.drop i)=R)) (λ_ iv _=>m.length-(intOf iv).toNat)
 case atStart=>exact⟨0,0,au _,by omega,by omega,rfl,rfl,rfl,aa⟩
 case round =>
  obtain⟨i,a,hi,ai,ak,rfl,rfl,rfl,M⟩:=hrel;by_cases ax:i<m.length
  ·have ay:(i:Int)<(m.length:Int):=RM;have J:i<l.length:=by have:=O.Z;omega
   have X:m[i]?=some (bY.wr 3 l[i]):=by rw[N.Z.1,P2,aq J];rfl
   obtain⟨g,rfl,hg,hcell⟩:=ab.Z.cell X;obtain⟨y,hy⟩:∃y,(⟨(bY.wr 3 l[i]).toArray⟩:ba)=y:=⟨_,rfl⟩;have L:y.1.1=bY.wr 3 l[i]:=by rw[<-hy]
   have aC:y.size<=100000:=by
    rw[UB,L];exact ad.Z _ (aL X)
   have j:=bZ (qe y wr RM);rw[L]at j;unfold str at hcell;rw[hy]at hcell;have hd:=JY (l:=l) (i:=i) (v:=l[i]) (aq J) a;rw[M.Z]at hd;have S:=N.Z.2 l[i] (Q4 J);generalize l[i]=v at j hd S L;rcases v with⟨k|b|q⟩
   ·have e:dT (bY.wr 3 ⟨.inl k⟩)=some k:=MO S;rw[e]at j;unfold oP at j;have hd:R=fx (bY.wrap (a+k)) (l.drop (i+1)):=hd;rw[qF]at hd;have Y:=bZ hd.symm;go_wp2_with fail;refine j.Z.mono ?_;rintro e w3⟨rfl,C⟩;obtain rfl:=C.symm;go_wp2_with fail;exact⟨⟨i+1,wrap64 (a+k),by omega,by unfold wrap64;omega,by unfold wrap64;omega,rfl,by go_num,by trivial,Y⟩,by simp[intOf];omega⟩
   ·have e:dT (bY.wr 3 ⟨.inr (.inl b)⟩)=none:=MP b;rw[e]at j;unfold oP at j;have hd:R=.error 9:=hd;have u:Hid (dw R=.agg #[.int .i64 9,.string ⟨#[]⟩]):=bZ (by rw[hd];rfl);go_wp2_with fail;refine j.Z.mono ?_;rintro e w3⟨rfl,C⟩;obtain rfl:=C.symm;go_wp2_with fail;exact UA (v:=.agg #[.int .i64 9,.string ⟨#[]⟩]) (by simp[results,results236,go_sem,p,P]) rfl ⟨by first|rw[u.Z]|rfl,n.Z _ _⟩
   have e:dT (bY.wr 3 ⟨.inr (.inr q)⟩)=none:=MQ q;rw[e]at j;unfold oP at j;have hd:R=.error 9:=hd;have u:Hid (dw R=.agg #[.int .i64 9,.string ⟨#[]⟩]):=bZ (by rw[hd];rfl);go_wp2_with fail;refine j.Z.mono ?_;rintro e w3⟨rfl,C⟩;obtain rfl:=C.symm;go_wp2_with fail;exact UA (v:=.agg #[.int .i64 9,.string ⟨#[]⟩]) (by simp[results,results236,go_sem,p,P]) rfl ⟨by first|rw[u.Z]|rfl,n.Z _ _⟩
  obtain rfl:i=m.length:=RM;have G:R=.ok (vn a):=by
   rw[<-M.Z,aQ (by have:=O.Z;omega)];rfl
  have u:=bZ (λw=>me a w ai ak);obtain⟨tc,ts,U⟩:=dG (.ok (vn a));rw[U]at u;have HE:Hid (dw R=.agg #[.int .i64 tc,.string ts]):=bZ (by rw[G,U]);go_wp2_with fail;refine(u.Z _).mono ?_;rintro e w3⟨rfl,Q⟩;obtain⟨p,c1,f0,f1⟩:=E.Z _ Q;have n:=bZ (D.Z _ Q);go_wp2_with fail;exact UA (v:=.agg #[.int .i64 tc,.string ts]) SQ rfl ⟨by rw[HE.Z],n.Z _ _⟩
end Ref
end
section
open Tryz
namespace mK
def M3:(prog.info? 158).map (λi=>(i.zero,i.size,i.bytes))=some (some (.agg #[.slice none 0 0,.int .i64 0]),2,32):=RO
def J8:(Value.agg #[.slice none 0 0,.int .i64 0]).cells.size=2:=RO
def iQ{w:QV}{e:TypeId}{m n g b:Nat}{xs:List Xa}(h:w.ownsRow 8 e m (.slice (some ⟨g,0,none⟩) n b) n xs)(i:Nat)(v:Xa):(w.setCell ⟨g,i,none⟩ v).ownsRow 8 e m (.slice (some ⟨g,0,none⟩) n b) n (xs.set i v)/\ed (λk=>k=g) w (w.setCell ⟨g,i,none⟩ v):=by
 rcases h.2 with⟨r,_⟩|⟨g',E,p,e1,h2,u,y,z,B,C⟩
 ·cases r
 cases e1;refine⟨⟨by rw[aX];exact h.1,.inr ⟨g,b,p.setIfInBounds i v,rfl,h2,heap_setCell_same w g i _ _ v u,y,z,by rw[Array.size_setIfInBounds];exact B,?_⟩⟩,⟨rfl,rfl,rfl,by simp,λk F D=>UI w ⟨g,i,none⟩ k _ D⟩⟩;rw[Array.toList_setIfInBounds,<-C,List.take_set]
def nH(w:QV)(k:Nat)(cs:List Xa)(T:TypeId):∀j u,cs[j]?=some u->((w.drewN k).alloc (.cells cs.toArray T)).cell? ((⟨w.1.size,0,none⟩:Addr).add j)=some u:=by
 intro j u hj;have b:((w.drewN k).alloc _).1[w.1.size]?=some _:=heap_alloc_new _ (.cells cs.toArray T);rw[addr_add,aI];simp only[World.cell?,b];simpa using hj
def qm(w:QV)(k:Nat)(o:Obj):Xb w ((w.drewN k).alloc o):=(below_drewM w k).alloc (af _) o
def Bt{wr:QV}{gv:Xa}{n N:Nat}(y:dm wr gv (marks n (N+1)))(B:n<=1000)(r:8<=wr.1.size){b:ba}(hx:str (kG (N+1))=.string b):∃g e w2,(Builtin.append_ #[40,40] 40 #[gv,.slice (some ⟨wr.1.size,0,none⟩) 1 1]).run prog (wr.alloc (.cells #[.string b] 9))=.ok (.slice (some ⟨g,0,none⟩) (n+1) e) w2/\w2.ownsRow 8 9 1 (.slice (some ⟨g,0,none⟩) (n+1) e) (n+1) ((marks n (N+1)).map str++[str (kG (N+1))])/\(wr.alloc (.cells #[.string b] 9)).grownBy w2 gv.ownBlock/\((gv.ownBlock=some g/\∃m,gv=.slice (some ⟨g,0,none⟩) n m/\m=e)\/(g=(wr.alloc (.cells #[.string b] 9)).1.size/\Below (wr.alloc (.cells #[.string b] 9)).1.size (wr.alloc (.cells #[.string b] 9)) w2)):=by
 have p:Below _ wr (wr.alloc (.cells #[.string b] 9)):=(Uz _ wr).alloc (af _) _;have z:=heap_alloc_new wr (.cells #[.string b] 9);have h1:=jj y p;unfold dm at h1;rw[gQ]at h1;exact sQ 40 40 9 _ 1 16 underlying40 Ref.qf rfl RZ gv n ((marks n (N+1)).map str) h1 ⟨wr.1.size,0,none⟩ 1 [str (kG (N+1))] rfl (λj u hj=>by
  rw[addr_add,aI];simp only[World.cell?,z]
  match j,hj with
  |0,hj=>simp at hj;rw[<-hj,hx];rfl) (λu hu=>by
  simp at hu;rw[hu,hx];rfl) RM R6 (ah r p.size)
def J9{b:List (a_)}{i m:Nat}(hi:i<b.length):((marks i m++b.drop i).map str).set i (str (kG m))=(marks (i+1) m++b.drop (i+1)).map str:=by
 rw[aR hi,wg];have e:=gQ i m;rw[aV,Qg];have:i=((marks i m).map str).length+0:=by rw[aG,e];rfl
 conv=>lhs;arg 2;rw[this]
 rw[Ro _ _ (aJ _ _),Qx,Xc];simp
structure Nm(w:QV)(wb:Nat)(vL vR:Xa)(N:Nat)(hs:List (Xa×Nat×Nat))(H:Nat->Prop)(l:Xa)(n j:Nat)(gv vN:Xa)(hs':List (Xa×Nat×Nat))(H':Nat->Prop)(wr:QV):Prop where
 hd:kc wr wb vL vR vN (N+1) hs' H'
 sv:dm wr gv (marks n (N+1))
 eb:∀p∈hs',∀b,gv.ownBlock=some b->p.1.ownBlock=some b->∃k c,p=(.slice (some ⟨b,0,none⟩) k c,k,N+1)/\gv=.slice (some ⟨b,0,none⟩) n c/\k<=n
 len:hs'.length=hs.length+j
 sub:∀k,H' k->H k\/l.ownBlock=some k\/w.1.size<=k
 sup:∀k,H k->H' k
 ot:ed (λk=>H k\/k=wb\/l.ownBlock=some k) w wr
 own:∀g,gv.ownBlock=some g->g≠wb/\(l.ownBlock=some g\/w.1.size<=g)
def Gm{w:QV}{v:Xa}{l:List (a_)}(h:dm w v l){b:Nat}(hb:v.ownBlock=some b):∃c,v=.slice (some ⟨b,0,none⟩) l.length c:=by
 rcases h.2 with⟨e,_⟩|⟨g,m,p,e,_⟩
 ·rw[e]at hb;cases hb
 rw[e]at hb;cases hb;exact⟨m,e⟩
section
variable {w:QV} {wb:Nat} {vL vR:Xa} {N:Nat} {hs:List (Xa×Nat×Nat)} {H:Nat->Prop} {l:Xa} {n j:Nat} {gv vN:Xa} {hs':List (Xa×Nat×Nat)} {H':Nat->Prop} {wr:QV}
def Nm.push(h:Nm w wb vL vR N hs H l n j gv vN hs' H' wr)(B:n<=1000){w1 w2:QV}{g cP:Nat}(y:Xb wr w1)(C:w2.ownsRow 8 158 2 (.slice (some ⟨g,0,none⟩) (hs'.length+1) cP) (hs'.length+1) (hs'.flatMap qq++[gv,.int .i64 ((N+1:Nat):Int)]))(r:w1.grownBy w2 vN.ownBlock)(z:(vN.ownBlock=some g/\∃u,vN=.slice (some ⟨g,0,none⟩) hs'.length u/\u=cP)\/(g=w1.1.size/\Xb w1 w2)):Nm w wb vL vR N hs H l n (j+1) gv (.slice (some ⟨g,0,none⟩) (hs'.length+1) cP) (hs'++[(gv,n,N+1)]) (λk=>H' k\/k=g\/gv.ownBlock=some k) (w2.setCell ⟨wb,3,none⟩ (.slice (some ⟨g,0,none⟩) (hs'.length+1) cP))/\(∃v,w2.cell? ⟨wb,3,none⟩=some v)/\w2.frozen? ⟨wb,3,none⟩=false/\wb<w2.1.size:=by
 obtain⟨E,F,G,I,J,K,L⟩:=h.hd.push h.sv B (λg r=>(h.own g r).1) y C r z;have M:=h.ot.size;refine⟨⟨E,F,λp m b hb D=>?_,by rw[aj,h.len];rfl,λk e=>?_,λk e=>.inl (h.sup k e),h.ot.trans I (λk e=>?_),h.own⟩,J,K,L⟩
 ·rcases aK.1 m with m|m
  ·exact h.eb p m b hb D
  simp at m;subst m;obtain⟨c,hc⟩:=Gm h.sv hb;rw[gQ]at hc;exact⟨n,c,by rw[hc],hc,af _⟩
 ·rcases e with e|e|e
  ·exact h.sub k e
  ·rcases G k e with h1|h1
   ·exact h.sub k h1
   exact .inr (.inr RM)
  rcases(h.own k e).2 with h1|h1
  ·exact .inr (.inl h1)
  exact .inr (.inr h1)
 rcases e with e|e
 ·rcases h.sub k e with h1|h1|h1
  ·exact .inl (.inl h1)
  ·exact .inl (.inr (.inr h1))
  exact .inr h1
 exact .inl (.inr (.inl e))
def Nm.more(h:Nm w wb vL vR N hs H l n j gv vN hs' H' wr){w1 w2:QV}{g e:Nat}(u:Xb wr w1)
  (B:w2.ownsRow 8 9 1 (.slice (some ⟨g,0,none⟩) (n+1) e) (n+1) ((marks n (N+1)).map str++[str (kG (N+1))])) (m:w1.grownBy w2 gv.ownBlock) (z:(gv.ownBlock=some g/\∃r,gv=.slice (some ⟨g,0,none⟩) n r/\r=e)\/(g=w1.1.size/\Xb w1 w2)) :
  Nm w wb vL vR N hs H l (n+1) j (.slice (some ⟨g,0,none⟩) (n+1) e) vN hs' H' w2:=by
 obtain⟨E,F,G,I,J,K⟩:=h.hd.more h.sv (λg m=>(h.own g m).1) h.eb u B m z;have L:=h.ot.size;refine⟨E,F,λp C b hb D=>?_,h.len,h.sub,h.sup,h.ot.trans K (λk y=>?_),λb hb=>?_⟩
 ·cases hb;exact G p C D
 ·rcases(h.own k y).2 with h1|h1
  ·exact .inl (.inr (.inr h1))
  exact .inr h1
 cases hb;refine⟨I,?_⟩;rcases J with h1|h1
 ·exact(h.own g h1).2
 exact .inr (show w.1.size<=g by omega)
end
def Gn(w:QV)(wb:Nat)(vL vR vN:Xa)(N:Nat)(hs:List (Xa×Nat×Nat))(H:Nat->Prop)(h:kc w wb vL vR vN N hs H)(l:Xa)(m:List (a_))(hl:dm w l m)(hlen:m.length<=900)(J:∀g,l.ownBlock=some g->¬H g/\g≠wb)(hN:N<=100000000)(bv:hs.length<=100000000)(a8:8<=w.1.size):Calls prog 73 #[.pointer (some ⟨wb,2,none⟩),l] w λe w'=>e=.returned (.tuple #[])/\∃vN' hs' H',kc w' wb vL vR vN' (N+1) hs' H'/\hs'.length=hs.length+4/\(∀k,H' k->H k\/l.ownBlock=some k\/w.1.size<=k)/\(∀k,H k->H' k)/\ed (λk=>H k\/k=wb\/l.ownBlock=some k) w w':=by
 obtain⟨ol,y,rfl⟩:∃o c,l=.slice o m.length c:=by
  rcases hl.2 with⟨e,D⟩|⟨g,I,ad,e,_⟩
  ·exact⟨none,0,by rw[D];exact e⟩
  exact⟨_,_,e⟩
 have h8:Hid (8<=w.1.size):=bZ (a8);obtain⟨h1,f1⟩:=h.count;have c2:w.cell? ⟨wb,2,none⟩=some (.int .i64 (N:Int)):=by simp[World.cell?,h.eb]
 have cf:∀o,w.frozen? ⟨wb,o,none⟩=false:=λo=>by simp[World.frozen?,h.eb]
 have am:dm (w.setCell ⟨wb,2,none⟩ (.int .i64 ((N+1:Nat):Int))) (.slice ol m.length y) m:=cD hl (λg F cs fz hb=>(f1.block g (cj hb) (J g F).2).trans hb);have T:((N+1:Nat):Int)=(N:Int)+1:=RM;obtain⟨xm,av⟩:∃x:ba,str (kG (N+1))=.string x:=⟨_,rfl⟩;have Y:=λw=>Bs (N+1) w RM;rw[av]at Y;rw[T]at h1 f1 am Y;have HS:=bZ Y;have z:=bZ (And.intro h1 (And.intro f1 am));have O:=bZ av;go_enter func73,ntmps73;go_wp2_with(go_at_call 79;refine(HS.Z _).mono ?_;rintro e w1 ⟨rfl,a9⟩);generalize bt:w.setCell ⟨wb,2,none⟩ (.int .i64 ((N:Int)+1))=W1 at *;have M:=bZ a9
 go_loopw [5] (λiv wr=>∃i:Nat,iv=.int .i64 (i:Int)/\i<=m.length/\Hid (kc wr wb vL vR vN (N+1) hs H/\dm wr (.slice ol m.length y) (marks i (N+1)++m.drop i)/\ed (λk=>H k\/k=wb\/(Value.slice ol m.length y).ownBlock=some k) w wr)) (λiv _=>m.length-(intOf iv).toNat)
 case atStart=>exact⟨0,rfl,au _,bZ ⟨z.Z.1.below M.Z,jj z.Z.2.2 M.Z,(ed.trans ⟨z.Z.2.1.os,z.Z.2.1.tape,z.Z.2.1.output,z.Z.2.1.size,λk r hn=>z.Z.2.1.block k r (λe=>hn (.inr (.inl e)))⟩ (ed.below M.Z) (λk r=>.inl r))⟩⟩
 case round =>
  obtain⟨i,rfl,hi,C⟩:=hrel;by_cases bh:i<m.length
  ·have bd:(i:Int)<(m.length:Int):=RM;have ao:(marks i (N+1)++m.drop i).length=m.length:=by rw[aj,gQ,aO];omega
   have hq:=aq (show i<(marks i (N+1)++m.drop i).length by omega);obtain⟨g,I,hv,bu,F,y0⟩:=nM C.Z.2.1 hq;rw[ao]at hv;cases hv;obtain⟨xo,bp⟩:∃x:ba,str (marks i (N+1)++m.drop i)[i]=.string x:=⟨_,rfl⟩;rw[bp]at y0;have K:=C.Z.2.1;unfold dm at K;rw[ao]at K;obtain⟨s1,L⟩:=iQ K i (str (kG (N+1)));rw[J9 bh,O.Z]at s1;rw[O.Z]at L;have ai:wr.frozen? ⟨g,i,none⟩=false:=by
    rcases K.2 with⟨D,_⟩|⟨g',cp,ad,D,_,hb,_⟩
    ·cases D
    cases D;simp[World.frozen?,hb]
   have a5:Hid (kc (wr.setCell ⟨g,i,none⟩ (.string xm)) wb vL vR vN (N+1) hs H/\dm (wr.setCell ⟨g,i,none⟩ (.string xm)) (.slice (some ⟨g,0,none⟩) m.length y) (marks (i+1) (N+1)++m.drop (i+1))/\ed (λk=>H k\/k=wb\/(Value.slice (some ⟨g,0,none⟩) m.length y).ownBlock=some k) w (wr.setCell ⟨g,i,none⟩ (.string xm))):=bZ (by
    have ak:=J g rfl;refine⟨C.Z.1.st (λk r=>L.block k (by rcases r with r|rfl;exact(C.Z.1.ct k r).2.1;exact cj C.Z.1.eb) (λe=>by rcases r with r|r;exact ak.1 (e▸r);exact ak.2 (e▸r))) L.size,?_,C.Z.2.2.trans L (λk r=>.inl (.inr (.inr (by rw[r];rfl))))⟩;unfold dm;have:(marks (i+1) (N+1)++m.drop (i+1)).length=m.length:=by rw[aj,gQ,aO];omega
    rw[this];exact s1)
   go_wp2_with fail;refine⟨⟨i+1,by go_num,by omega,a5⟩,?_⟩;simp[intOf];omega
  have bd:¬(i:Int)<(m.length:Int):=RM;obtain rfl:i=m.length:=RM;have a4:Hid (Nm w wb vL vR N hs H (.slice ol m.length y) m.length 0 (.slice ol m.length y) vN hs H wr):=bZ (by
   obtain⟨a1,a2,a3⟩:=C.Z;rw[List.drop_length,QA]at a2;exact⟨a1,a2,λp hp b hb bk=>((J b hb).1 (a1.ta p hp b bk)).elim,rfl,λk r=>.inl r,λk r=>r,a3,λg F=>⟨(J g F).2,.inl F⟩⟩)
  go_wp2_with fail
  go_loopw [6,7] (λgv iv wr=>∃i:Nat,iv=.int .i64 (i:Int)/\i<=3/\(∃o c,gv=.slice o (m.length+i) c)/\Hid (∃vN' hs' H',Nm w wb vL vR N hs H (.slice ol m.length y) (m.length+i) i gv vN' hs' H' wr)) (λ_ iv _=>3-(intOf iv).toNat)
  case atStart=>exact⟨0,rfl,au _,⟨_,_,rfl⟩,bZ ⟨_,_,_,a4.Z⟩⟩
  case round =>
   obtain⟨j,rfl,hj,⟨Z,Q,rfl⟩,HM⟩:=hrel;obtain⟨ay,E,H2,hM⟩:=HM.Z;have c2:wr.cell? ⟨wb,2,none⟩=some (.int .i64 ((N:Int)+1)):=by have:=hM.hd.eb;simp[World.cell?,this]
   have c3:wr.cell? ⟨wb,3,none⟩=some ay:=by have:=hM.hd.eb;simp[World.cell?,this]
   have bz:=cj hM.hd.eb;obtain⟨ax,ab,bo⟩:∃o c,ay=.slice o E.length c:=by
    rcases hM.hd.row.2 with⟨e,D⟩|⟨g,I,ad,e,_⟩
    ·exact⟨none,0,by rw[D];exact e⟩
    exact⟨_,_,e⟩
   subst bo;have bx:E.length<=100000010:=by have:=hM.len;omega
   have br:8<=wr.1.size:=by have:=hM.hd.ct;have:=hM.ot.size;have:=h8.Z;omega
   have G:=bZ (λ(w1 w2:QV) (g I:Nat)=>hM.push RM (w1:=w1) (w2:=w2) (g:=g) (cP:=I));have aa:=bZ hM.hd.row;by_cases bw:j<3
   ·have bf:(j:Int)<3:=RM;rw[T]at G
    go_upto_region 10 with fail
    go_cut []from 32 to 54 (λwx=>Hid (∃aC ap H3,Nm w wb vL vR N hs H (.slice ol m.length y) (m.length+j) (j+1) (.slice Z (m.length+j) Q) aC ap H3 wx))
    case first =>
     go_region_law (refine mL rfl (.tmp 40) (.tmp 47) 87 rfl 158 _ 2 32 underlying87 M3 J8 RZ (.slice ax E.length ab) _ (E.flatMap qq) rfl (UL (w:=wr.drewN _) aa.Z _) ⟨wr.1.size,0,none⟩ 1 [.slice Z (m.length+j) Q,.int .i64 ((N:Int)+1)] rfl rfl (nH _ _ _ _) TM RM R6 R5 ?_;intro R P w3 X U V;obtain⟨q1,⟨v0,bn⟩,ai,bl⟩:=G.Z _ w3 R P (qm _ _ _) X U V;have B:=bZ q1)
     all_goals
      go_wp2_with fail
      go_meet
      case rel=>exact bZ ⟨_,_,_,B.Z⟩
    case rest =>
     generalize wc=W4 at *;obtain⟨aC,ap,H3,S⟩:=hcut.Z;have a7:8<=W4.1.size:=by have:=S.ot.size;have:=h8.Z;omega
     obtain⟨g5,bq,w5,bm,bj,bc,bg⟩:=Bt S.sv RM a7 O.Z;have a0:=bZ (S.more ((Uz _ W4).alloc (af _) _) bj bc bg);have a6:=bZ bm
     apply_assumption
     go_wp2_with(at_builtin;refine cY _ rfl _ _ _ _ rfl _ _ _ _ rfl rfl a6.Z ?_)
     go_roundw
     case rel=>exact⟨j+1,by go_num,by omega,⟨_,_,rfl⟩,bZ ⟨_,_,_,a0.Z⟩⟩
     case measure=>simp[intOf];omega
   have bf:¬(j:Int)<3:=RM;obtain rfl:j=3:=RM;rw[T]at G
   go_upto_region 12 with fail
   go_region_law (refine mL rfl (.tmp 59) (.tmp 66) 87 rfl 158 _ 2 32 underlying87 M3 J8 RZ (.slice ax E.length ab) _ (E.flatMap qq) rfl (UL (w:=wr.drewN _) aa.Z _) ⟨wr.1.size,0,none⟩ 1 [.slice Z (m.length+3) Q,.int .i64 ((N:Int)+1)] rfl rfl (nH _ _ _ _) TM RM R6 R5 ?_;intro R P w3 X U V;obtain⟨q1,⟨v0,bn⟩,ai,bl⟩:=G.Z _ w3 R P (qm _ _ _) X U V;have B:=bZ q1)
   all_goals
    go_wp2_with fail
    go_end0
    exact⟨rfl,_,_,_,B.Z.hd,B.Z.len,B.Z.sub,B.Z.sup,B.Z.ot⟩
end mK
end
