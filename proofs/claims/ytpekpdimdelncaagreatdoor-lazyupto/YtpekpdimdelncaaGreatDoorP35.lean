/- Out of Ic. -/
import Derived.Test.YtpekpdimdelncaaGreatDoorP34
import Derived.Deep.SlicePairs
import Derived.OpenShut
set_option linter.unusedVariables false
set_option linter.unusedSimpArgs false
set_option maxRecDepth 100000
set_option maxHeartbeats 4000000
set_option linter.defProp false
namespace Go.Proofs.YtpekpdimdelncaaGreatDoor
open Go.ChangeShapes Go.WideShapes Go.RowKit Go.Deep
section
open Tryz
namespace jU
open Go.RowKit Go.Shelf Ref
variable{ps:List mB}{o:Nat->Nat}{m:Fin 3->Xb}{b:Fin 3->List (Xb×Nat×Nat)}{H:Nat->Prop}
def WP.fo{w0 w:Xa}{u:Nat}{N:Nat}{p r:Xb}(h:WP w0 w u ps N o p r m b H):Fo (λk=>k=u\/p.ownBlock=some k\/r.ownBlock=some k) w:=by
 refine⟨λk j=>?_,λk j B t C l=>?_⟩
 ·rcases j with rfl|j|j
  ·exact h.w8
  ·exact(VT h.mI k j).1
  exact(VT h.om k j).1
 rcases j with rfl|j|j
 ·rw[h.hd.eb]at l;cases l;exact⟨(λhi=>by rcases hi with hi|hi|hi<;>cases hi),(λe=>by rcases e with e|e<;>cases e)⟩
 ·obtain⟨y,z,n⟩:=cE h.mI j;rw[n]at l;cases l;exact⟨(λhi=>by rcases hi with hi|hi|hi<;>cases hi),(λe=>by rcases e with e|e<;>cases e)⟩
 obtain⟨y,z,n⟩:=cE h.om j;rw[n]at l;cases l;exact⟨(λhi=>by rcases hi with hi|hi|hi<;>cases hi),(λe=>by rcases e with e|e<;>cases e)⟩
def Ll(w0 w:Xa)(r:Nat)(ps:List mB)(N:Nat)(M:Nat->Nat)(h:WS w0 w r ps N M)(hlen:ps.length<1000000):Calls prog 40 #[ptr r] w λe w'=>e=.returned (.bool true)/\∃ab,WS w0 w' r ab N M/\ab.length=ps.length+1:=by
 obtain⟨o,D,E,m,b,H,y⟩:=h.wp;obtain⟨oL,cL,rfl⟩:=dD y.mI;obtain⟨oR,cR,rfl⟩:=dD y.om;generalize bA:(Value.slice oL ps.length cL)=D at *;generalize bB:(Value.slice oR ps.length cR)=E at *;have ak:=ME w;have h8:=y.g.size;have ax:=MD w h8;obtain⟨L,ai⟩:∃L,((w.alloc (.map #[] 0)).alloc (.map #[] 0)).alloc (.cells #[.map (some w.1.size),.map (some (w.1.size+1)),.slice none 0 0,.slice none 0 0,.slice none 0 0,.slice none 0 0] 108)=L:=⟨_,rfl⟩;have O:Xc w L:=by
  rw[<-ai];have U:Xc w (w.alloc (.map #[] 0)):=(VM _ w).alloc (af _) _;have V:=U.alloc U.size (.map #[] 0);exact V.alloc V.size _
 rw[ai]at ak ax;have bx:=O.size;have aa:=(O.block _ (cj y.hd.eb)).trans y.hd.eb;have bd:=cJ y.mI (λk n I J u=>(O.block k (cj u)).trans u);obtain⟨z,cA,T,r1,o1,X,l1⟩:=Cf (t:=85) underlying85 Qf bd (w.1.size+1+1) R5 (ah h8 bx);have bc:D.ownBlock≠some r:=λe=>by
  obtain⟨I,J,u⟩:=cE y.mI e;exact yR u y.hd.eb S4 rfl
 have ay:E.ownBlock≠some r:=λe=>by
  obtain⟨I,J,u⟩:=cE y.om e;exact yR u y.hd.eb S4 rfl
 have bD:=cj aa;have P:=(X.block r bD bc).trans aa;have a8:z≠r:=λe=>by
  obtain⟨I,J,u⟩:=cE o1 rfl;rw[e,P]at u;cases u
 have Q:=heap_setCell_same T r 0 _ _ (.slice (some ⟨z,0,none⟩) (ps.length+1) cA) P;have Y:=Fu T r 0 (.slice (some ⟨z,0,none⟩) (ps.length+1) cA);obtain⟨C,bk⟩:∃C,T.setCell ⟨r,0,none⟩ (.slice (some ⟨z,0,none⟩) (ps.length+1) cA)=C:=⟨_,rfl⟩;rw[bk]at Q Y;obtain⟨G,a6⟩:∃G,C.alloc (.cells #[.slice none 0 0,.string ⟨#[]⟩,.slice none 0 0,.slice none 0 0,.slice none 0 0,.slice none 0 0] 101)=G:=⟨_,rfl⟩;have Z:Xc C G:=by rw[<-a6];exact(VM _ _).alloc (af _) _
 have a0:G.1[C.1.size]?=some (.cells #[.slice none 0 0,.string ⟨#[]⟩,.slice none 0 0,.slice none 0 0,.slice none 0 0,.slice none 0 0] 101 (0,0)):=by rw[<-a6];exact heap_alloc_new _ _
 have aC:∀k,E.ownBlock=some k->D.ownBlock≠some k:=λk n bt=>by
  obtain⟨I,J,u⟩:=cE y.om n;obtain⟨bG,bH,bq⟩:=cE y.mI bt;exact yR u bq S4 rfl
 have am:eu (λk=>k=r\/D.ownBlock=some k) w G:=(((jT (eu.below O (L:=λk=>k=r\/D.ownBlock=some k)) (λk n=>n)).trans (jT X (λk n=>.inr n)) (λk n=>.inl n)).trans (jT Y (λk n=>.inl n)) (λk n=>.inl n)).trans (eu.below Z) (λk n=>.inl n);have bf:G.ownsRow 8 102 1 E ps.length (ps.map λp=>ptr p.rb):=cJ y.om (λk n I J u=>(am.block k (cj u) (λe=>by
  rcases e with e|e
  ·exact ay (e▸n)
  ·exact aC k n e)).trans u)
 have bz:=am.size;obtain⟨F,cB,w4,r2,o2,ao,l2⟩:=Cf (t:=86) underlying86 Qg bf C.1.size R5 (ah h8 bz);have ap:=(Z.block r (cj Q)).trans Q;have R:=(ao.block r (cj ap) ay).trans ap;have av:=heap_setCell_same w4 r 1 _ _ (.slice (some ⟨F,0,none⟩) (ps.length+1) cB) R;have ad:=Fu w4 r 1 (.slice (some ⟨F,0,none⟩) (ps.length+1) cB);obtain⟨K,bC⟩:∃K,w4.setCell ⟨r,1,none⟩ (.slice (some ⟨F,0,none⟩) (ps.length+1) cB)=K:=⟨_,rfl⟩;rw[bC]at av ad;have bp:L.1.size=w.1.size+3:=by rw[<-ai];simp
 have bw:C.1.size=T.1.size:=by rw[<-bk];simp
 have bJ:=X.size;have S:∀k,E.ownBlock=some k->k<w.1.size:=λk n=>lW y.om n;have a3:∀k,D.ownBlock=some k->k<w.1.size:=λk n=>lW y.mI n;have bK:=cj y.hd.eb;have bv:=cj a0;have bI:=lW o1 (k:=z) rfl;have a9:E.ownBlock≠some z:=λe=>by
  rcases l1 with l|l
  ·exact aC z e l
  have:=S z e;omega
 have f34:eu (λk=>k=r\/E.ownBlock=some k) G K:=(jT ao (λk n=>.inr n)).trans (jT ad (λk n=>.inl n)) (λk n=>.inl n);have f13:eu (λk=>k=r\/D.ownBlock=some k) L G:=((jT X (λk n=>.inr n)).trans (jT Y (λk n=>.inl n)) (λk n=>.inl n)).trans (eu.below Z) (λk n=>.inl n);have f14:eu (λk=>k=r\/D.ownBlock=some k\/E.ownBlock=some k) L K:=(jT f13 (λk n=>by rcases n with n|n;exact .inl n;exact .inr (.inl n))).trans (jT f34 (λk n=>by rcases n with n|n;exact .inl n;exact .inr (.inr n))) (λk n=>.inl n);have a4:eu (λk=>k=r\/D.ownBlock=some k\/E.ownBlock=some k) w K:=(eu.below O).trans f14 (λk n=>.inl n);have a5:=ax.st (λk n=>f14.block k (by have:=n.2;omega) (λhx=>by
  have:=n.1;rcases hx with hx|hx|hx
  ·omega
  ·have:=a3 k hx;omega
  ·have:=S k hx;omega)) (((y.below O).fo.keeps f14).stay)
 have bh:K.ownsRow 8 29 1 (.slice (some ⟨z,0,none⟩) (ps.length+1) cA) (ps.length+1) (ps.map (λp=>ptr p.lb)++[ptr (w.1.size+1+1)]):=cJ o1 (λk n I J u=>by
  cases n;have U:=(Y.block z (cj u) a8).trans u;have V:=(Z.block z (cj U)).trans U;exact(f34.block z (cj V) (λhx=>by rcases hx with hx|hx;exact a8 hx;exact a9 hx)).trans V)
 have br:F≠r:=λe=>by
  obtain⟨I,J,u⟩:=cE o2 rfl;rw[e,R]at u;cases u
 have bj:K.ownsRow 8 102 1 (.slice (some ⟨F,0,none⟩) (ps.length+1) cB) (ps.length+1) (ps.map (λp=>ptr p.rb)++[ptr C.1.size]):=cJ o2 (λk n I J u=>by
  cases n;exact(ad.block F (cj u) br).trans u)
 have bg:=(f34.block C.1.size bv (λhx=>by
  rcases hx with hx|hx
  ·omega
  ·have:=S _ hx;omega)).trans a0
 obtain⟨o',bl⟩:=y.more hlen a4 av bh (λg hg=>by
  cases hg;rcases l1 with l|l
  ·exact .inl l
  ·exact .inr (by show w.1.size<=z;omega)) bj (λg hg=>by
  cases hg;rcases l2 with l|l
  ·exact .inl l
  ·exact .inr (by show w.1.size<=F;omega)) a5 (λk n=>⟨n.1,(λe=>by
  have e:z=k:=aB e;subst e;rcases l1 with l|l
  ·have:=a3 _ l;have:=n.1;omega
  ·have:=n.2;omega),(λe=>by
  have e:F=k:=aB e;subst e;rcases l2 with l|l
  ·have:=S _ l;have:=n.1;omega
  ·have:=n.2;omega)⟩) (NQ bg R5) ⟨by omega,(λn=>by have:=n.2;omega),(λe=>by
  have e:z=C.1.size:=aB e;omega),(λe=>by
  have e:F=C.1.size:=aB e;rcases l2 with l|l
  ·have:=S _ l;omega
  ·omega)⟩
 have a7:∃ab,WS w0 K r ab N M/\ab.length=ps.length+1:=by
  refine⟨_,⟨⟨o',_,_,m,b,H,bl⟩,λq B=>?_,λj q B=>?_⟩,by rw[aj];rfl⟩
  ·rcases aL.1 B with B|B
   ·exact h.same q B
   simp at B;subst B;rfl
  by_cases bu:j<ps.length
  ·rw[aP bu]at B;exact h.pi j q B
  rw[aX R5]at B;have e0:j-ps.length=0:=by
   have:=(aA.1 B).1;simp at this;omega
  rw[e0]at B;cases B;exact PI.new.le (ar _)
 have c0:L.cell? ⟨r,0,none⟩=some D:=cr aa rfl;have c1:C.cell? ⟨r,1,none⟩=some E:=cr Q rfl;have d0:T.cell? ⟨r,0,none⟩=some D:=cr P rfl;have d1:w4.cell? ⟨r,1,none⟩=some E:=cr R rfl;have z0:∀j,T.frozen? ⟨r,j,none⟩=false:=λj=>fq P;have z1:∀j,w4.frozen? ⟨r,j,none⟩=false:=λj=>fq R;have m1:=cj aa;have m2:=cj P;have m3:=cj Q;have m4:=cj R;subst bA bB;unfold ptr at ak ⊢;have HN:=bZ ak;have bn:=bZ r1;have bo:=bZ r2;have bm:=bZ a7;clear ak r1 r2 a7 bl a5 ax bh bj bg a4 f14 f13 f34 am X ao Y ad o1 o2 aa P Q ap R av bd bf a0 O Z ai h y bp bw aC S a3 a9 l1 l2 bc ay;go_enter func40,ntmps40;go_wp2_with(first|(go_at_call 16;refine b_ HN.Z λw1 bE=>?_;have bF:=bE.symm;subst bF)|(at_builtin;refine cW _ rfl _ _ _ _ rfl _ _ _ _ rfl rfl bn.Z ?_)|(at_builtin;refine cW _ rfl _ _ _ _ rfl _ _ _ _ rfl rfl bo.Z ?_));go_ret;exact⟨rfl,bm.Z⟩
end jU
namespace jU
open Go.RowKit Go.Shelf Ref
variable{ps:List mB}{M:Nat->Nat}
def Eh{w0 w:Xa}{U:Nat}{N:Nat}(h:WS w0 w U ps N M){i:Nat}{p:mB}(D:ps[i]?=some p)(S:ba)(hS:S.size<=20000000):Calls prog 30 #[ptr p.lb,.string S] w λe E=>∃c s a F,∃z:List (a_×bY.Wo),e=.returned (.tuple #[.agg #[.int .i64 c,.string s],a,.int .i64 F])/\Xc w E/\E.ownsRow w.1.size 66 3 a z.length (z.flatMap eh)/\∀j,Xc w j->Calls prog 112 #[ptr p.rb,.string S] j λe w3=>∃b,e=.returned (.tuple #[.agg #[.int .i64 c,.string s],b,.int .i64 F])/\Xc j w3/\w3.ownsRow 8 204 3 b z.length (z.flatMap eh)/\z.length<=401:=by
 obtain⟨L,K,O⟩:=h.prog D;have V:=(h.pi i p D).sound.len;have u:∀j,Below _ w j->Calls prog 112 #[ptr p.rb,.string S] j _:=λj J=>by
  obtain⟨R,u⟩:=(h.below J).doc D;exact Ha j p.rb p.sP R S u R5 hS
 refine(Lf w p.lb p.sP L S K O hS).mono ?_;rintro e E⟨l,C⟩;unfold wW at l;have B:∀{w:Xa}{b e},w.ownsRow b e 3 _ ([]:List (a_×bY.Wo)).length _:=λ{w b e}=>V8 _ _ _ _;cases m:bY.dB _ with
 |false =>
  rw[m,ae S5]at l;refine⟨_,_,_,_,[],l,C,B,λj n=>(u j n).mono ?_⟩;rintro e w3⟨r,⟨_,rfl⟩|⟨h1,_⟩|⟨_,_,h1,_⟩⟩
  ·exact⟨_,rfl,r,B,by simp⟩
  ·rw[m]at h1;cases h1
  rw[m]at h1;cases h1
 |true =>
  rw[m,ag rfl]at l;cases y:bY.cK _ _ with
  |none =>
   rw[y]at l;refine⟨_,_,_,_,[],l,C,B,λj n=>(u j n).mono ?_⟩;rintro e w3⟨r,⟨h1,_⟩|⟨_,_,rfl⟩|⟨_,_,_,h1,_⟩⟩
   ·rw[m]at h1;cases h1
   ·exact⟨_,rfl,r,B,by simp⟩
   rw[y]at h1;cases h1
  |some Q =>
   rw[y]at l;obtain⟨v,rfl,P⟩:=l;obtain⟨c,s,G,_⟩:=Go.Proofs.YtpekpdimdelncaaGreatDoor.dw _;refine⟨c,s,v,0,Q.cH,by rw[G],C,P,λj n=>(u j n).mono ?_⟩;rintro e w3⟨r,⟨h1,_⟩|⟨_,h1,_⟩|⟨X,T,_,h1,rfl,h2,I⟩⟩
   ·rw[m]at h1;cases h1
   ·rw[y]at h1;cases h1
   rw[y]at h1;cases h1;exact⟨T,by rw[G],r,h2,I⟩
def Cg(y:a_×bY.Wo):∃b c s,eh y=[.string b,.int .i64 c,.string s]:=by
 obtain⟨c,s,_,h⟩:=Go.Proofs.YtpekpdimdelncaaGreatDoor.dw y.2;exact⟨_,c,s,by unfold eh;rw[h];rfl⟩
def Hl(w0 w R ps N M)(h:WS w0 w R ps N M)(i:Nat)(p:mB)(hp:ps[i]?=some p)(A B S T)(hS:S.size<=20000000)(hN:N<=25000000):Calls prog 74 #[ptr R,.int .i64 i,.agg #[.int .i64 7,.int .i64 A,.int .i64 B,.string S,.string T]] w λe j=>e=.returned (.bool true)/\∃am,WS w0 j R am (N+1) M/\am.length=ps.length:=by
 obtain⟨gL,cL,gR,cR,a1,a2,a3,a4,a5,a6,a7,a8,b0,b3,b4,b5⟩:=h.qp hp 7 A B S T;have Z:=h.below (iT w 7 A B S T);have E:=Eh Z hp S hS;have bh:=λl (hB:Below (fU w 7 A B S T).1.size (fU w 7 A B S T) l) x n xs (hx:l.ownsRow (fU w 7 A B S T).1.size 66 3 x n xs) (hn:n<=401)=>Z.ready (q:=1) hB hx R5;unfold ptr at E ⊢;have HK:=bZ E;have ax:=bZ bh;unfold fU at *;go_enter func74,ntmps74;go_wp2_with fail;refine HK.Z.mono ?_;rintro e l⟨c,s,x,cd,z,rfl,C,hx,hR⟩;obtain⟨ox,cx,rfl⟩:=dD hx;have d3:=cell_later C b3;have d5:=aw b5 C.size;have ab:Below _ l (l.alloc (.cells #[.int .i64 c,.string s] 59)):=(VM _ l).alloc (af _) _;have bg:=heap_alloc_new l (.cells #[.int .i64 c,.string s] 59);have HR:=bZ (hR _ (C.trans (ab.mono C.size)));have u:=bZ (And.intro hx (And.intro C (And.intro ab bg)));go_wp2_with fail;refine HR.Z.mono ?_;rintro e w3⟨b,rfl,ad,ak,bc⟩;obtain⟨ob,cb,rfl⟩:=dD ak;have O:=(ad.block _ (cj u.Z.2.2.2)).trans u.Z.2.2.2;have z0:w3.cell? ⟨l.1.size,0,none⟩=some _:=cr O rfl;have z1:w3.cell? ⟨l.1.size,1,none⟩=some _:=cr O rfl;have z2:=cj O;have U:=bZ (u.Z.2.2.1.trans (ad.mono u.Z.2.2.1.size));have ay:=bZ ak;go_wp2_with(first|(go_at_call 110;refine b_ (Aj _ _ _) λF a0=>?_;have ao:=bZ a0)|(go_at_call 39;refine(uu _ _).mono ?_;rintro e F ⟨rfl,rfl⟩));have ai:=((VM _ w3).alloc (af _) _).trans (ao.Z.mono S5)
 have aa:=U.Z.trans (ai.mono U.Z.size);have J:=bZ (And.intro (ax.Z F (u.Z.2.1.trans (aa.mono u.Z.2.1.size)) _ _ _ (cJ u.Z.1 (λk E cs fz D=>(aa.block k (cj D)).trans D)) bc) (cJ ay.Z (λk E cs fz D=>(ai.block k (cj D)).trans D)))
 go_loopw [9,21] (λbm Q wr=>∃k:Nat,bm=.bool true/\Q=.int .i64 (k:Int)/\k<=z.length/\Hid (Xc F wr)) (λ_ Q _=>z.length-(intOf Q).toNat)
 case atStart=>exact⟨0,by simp,rfl,ar _,bZ (VM _ _)⟩
 case round =>
  obtain⟨k,rfl,rfl,E,m⟩:=hrel;by_cases bf:k<z.length
  ·have bd:(k:Int)<(z.length:Int):=R5;have P:=aq bf;generalize z[k]=y at P;obtain⟨kx,Y,s1,a9⟩:=Cg y;obtain⟨K,ca,bj,bn,G⟩:=fK tA S4 J.Z.1.1 P;obtain⟨L,cb,bk,bo,I⟩:=fK tA S4 J.Z.2 P;cases bj;cases bk;rw[a9]at G I;have x0:=cell_later m.Z (G 0 _ rfl);have y0:=cell_later m.Z (I 0 _ rfl);have x1:=cell_later m.Z (G 1 _ rfl);have y1:=cell_later m.Z (I 1 _ rfl);have x2:=cell_later m.Z (G 2 _ rfl);have y2:=cell_later m.Z (I 2 _ rfl);rw[aR]at x0 y0;have X:=bZ (λ(a b:Xa) (h:Hid (Xc F a)) (h':Xc a b)=>bZ (h.Z.trans (h'.mono h.Z.size)));have V:=bZ m.Z.drew
   go_upto_region 22 with fail
   refine kO _ (λ_ _ h=>h) ?_
   go_region_held3 (λj=>j.cell? ⟨K,k*3+1,none⟩=some (.int .i64 Y)/\j.cell? ⟨K,k*3+2,none⟩=some (.string s1)/\j.cell? ⟨L,k*3+1,none⟩=some (.int .i64 Y)/\j.cell? ⟨L,k*3+2,none⟩=some (.string s1)/\j.cell? ⟨K,k*3,none⟩=some (.string kx)/\j.cell? ⟨L,k*3,none⟩=some (.string kx)/\Hid (Xc F j)) (first|exact⟨x1,x2,y1,y2,x0,y0,V⟩|exact⟨cell_later r Ti,cell_later r Ti,cell_later r Ti,cell_later r Ti,cell_later r Ti,cell_later r Ti,X.Z _ _ Ti r⟩) (first|(go_at_call 110;refine b_ (Aj _ _ _) λw5 r=>?_))
   all_goals
    refine Fl ?_
    apply_assumption
    have ap:=X.Z _ _ V r;go_wp2;refine⟨⟨k+1,by simp,by go_num,by omega,ap⟩,?_⟩;simp[intOf];omega
  have bd:¬(k:Int)<(z.length:Int):=R5;have av:=bZ (Ai sj (J.Z.1.below m.Z) hN);go_wp2_with(go_at_call 113;refine b_ av.Z λw6 bl=>?_;have aC:=bZ bl);go_ret;exact⟨by simp,aC.Z⟩
end jU
end
section
namespace jU
open Go.RowKit Go.Shelf Ref
def yS(w0 w b ps N M)(h:WS w0 w b ps N M)(i:Nat)(p:mB)(j:ps[i]?=some p)(K A B S T)(z:K=6\/K=7)(hS:S.size<=20000000)(n:N<=25000000):Calls Tryz.prog 41 #[ptr b,.int .i64 i,.agg #[.int .i64 K,.int .i64 A,.int .i64 B,.string S,.string T]] w λe D=>e=.returned (.bool true)/\∃r,WS w0 D b r (N+1) M/\r.length=ps.length:=by
 obtain⟨Z,X,gR,Y,E,F,G,I,J,L,O,P,Q,R,U,V⟩:=h.qp j K A B S T;have m:=h.below (iT w K A B S T);rcases z with rfl|rfl
 case' inl=>have l:=Lm w0 _ b ps N M m i p j A B S T n
 case' inr=>have l:=Hl w0 _ b ps N M m i p j A B S T hS n
 all_goals
  unfold ptr at l ⊢;have u:=bZ l;unfold fU at *;go_enter Tryz.func41,Tryz.ntmps41;go_wp2_with fail;refine b_ u.Z λw1 C=>?_;have y:=bZ C;go_wp2;go_ret;exact⟨rfl,y.Z⟩
end jU
end
section
open Tryz
namespace jU
open Go.RowKit Go.Shelf Ref
variable{b N:Nat}{ps:List mB}{M:Nat->Nat}
def WS.mono{w0 w:Xa}{e:Nat->Nat}(h:WS w0 w b ps N M)(hM:∀j,j<ps.length->M j<=e j):WS w0 w b ps N e:=⟨h.wp,h.same,λj p l=>(h.pi j p l).le (hM j (aA.1 l).1)⟩
def WS.keys{w0 w:Xa}(h:WS w0 w b ps N M){i:Nat}{p:mB}(u:ps[i]?=some p):∃r B l n z,w.cell? ⟨b,1,none⟩=some (.slice (some ⟨r,0,none⟩) ps.length B)/\b<w.1.size/\r<w.1.size/\(i:Int)<(ps.length:Int)/\w.cell? ⟨r,i,none⟩=some (.pointer (some ⟨p.rb,0,none⟩))/\p.rb<w.1.size/\w.cell? ⟨p.rb,0,none⟩=some (.slice l n z)/\n<=40/\∀j,j<n->∃g x,l=some ⟨g,0,none⟩/\g<w.1.size/\w.cell? ⟨g,j*7,none⟩=some (.string x)/\x.size<=8:=by
 obtain⟨o,vL,vR,vN,hs,H,J⟩:=h.wp;obtain⟨gL,cL,r,B,rfl,rfl,a3,K,a5,L,a7,O,P⟩:=J.Qe u;obtain⟨R,⟨d,C,fl,vA,vF,vB,ak,ai,m⟩,_⟩:=J.doc i p u;have G:=h.pi i p u;have D:=h.same p (aJ u);obtain⟨Q,_⟩:=m.cells;obtain⟨l,z,rfl⟩:=dD m.all;have E:C.length=p.sP.ct.length:=by rw[<-D];exact m.jN
 refine⟨r,B,l,C.length,z,O,P,K,by have:=(aA.1 u).1;omega,L,cj m.eb,Q,by rw[E];exact G.sound.len,λj Z=>?_⟩;have F:j<p.sR.ct.length:=by rw[D,<-E];exact Z
 obtain⟨e,g,ad,he,U,I,X,V⟩:=m.entry (i:=j) (aq F);have Y:(Value.slice l C.length z).ownBlock=some g:=by rw[I];rfl
 obtain⟨y,rfl⟩:∃y,l=some y:=by
  cases l with
  |none=>cases Y
  |some y=>exact⟨y,rfl⟩
 have ab:y=⟨g,0,none⟩:=by
  injection I with S
  injection S
 have hk:=U.key;refine⟨g,⟨e.key.toArray⟩,by rw[ab],X,?_,?_⟩
 ·have:=V 0 _ rfl;simp only[aR]at this;exact this
 have T:=G.hl.key e.key (by
  rw[hk,<-D];have aa:=m.nodup;rw[lf (l:=p.sR.ct) (k:=(p.sR.ct[j]).1) (a:=(p.sR.ct[j]).2) aa (aq F)];rfl)
 rw[VO];simpa using T
def Ch{w0 w:Xa}{k n:Nat}(h:WS w0 w b ps N M)(r:ps.length=n)(p:k<n)(K A B S T)(l:K=6\/K=7)(hS:S.size<=20000000)(m:N<=25000000):Calls prog 41 #[ptr b,.int .i64 k,.agg #[.int .i64 K,.int .i64 A,.int .i64 B,.string S,.string T]] w λe u=>e=.returned (.bool true)/\∃j,WS w0 u b j (N+1) M/\j.length=n:=by
 subst r;exact yS w0 w b ps N M h k _ (aq p) K A B S T l hS m
def Ln(w0 w:Xa)(b:Nat)(ps:List mB)(N:Nat)(M:Nat->Nat)(h:WS w0 w b ps N M)(k:Nat)(E:k<ps.length)(hM:M k<=60000000000000)(hN:N<=24500000):Calls prog 44 #[ptr b,.int .i64 (k:Int),.int .i64 8] w λe r=>e=.returned (.bool true)/\∃l u,WS w0 r b l u (λj=>if j=k then M j+8200000000 else M j)/\l.length=ps.length/\u<=N+120:=by
 have V:=bZ h;unfold ptr;go_enter func44,ntmps44;go_wp2
 go_loopw [7,8] (λap B wr=>∃i:Nat,ap=.bool true/\B=.int .i64 (i:Int)/\i<=40/\Hid (∃l,WS w0 wr b l (N+3*i) (λj=>if j=k then M j+200000000*i else M j)/\l.length=ps.length)) (λ_ B _=>41-(intOf B).toNat)
 case atStart=>exact⟨0,rfl,rfl,ar _,bZ ⟨ps,V.Z.mono (λj _=>by show M j<=if j=k then M j+200000000*0 else M j;split<;>omega),rfl⟩⟩
 case round =>
  obtain⟨i,rfl,rfl,hi,S⟩:=hrel;obtain⟨C,z,F⟩:=S.Z;have G:=aq (show k<C.length by omega);generalize ax:C[k]' R5=p at G;obtain⟨gR,cR,oA,n,cA,a1,a2,a3,a4,a5,a6,a7,av,ai⟩:=z.keys G;by_cases ad:i<n
  ·have ab:(i:Int)<(n:Int):=R5;obtain⟨g,x,rfl,hg,hx,ay⟩:=ai i ad;have I:=Ch z F E 7 0 0 x ⟨#[]⟩ (.inr rfl) R5 R5;have J:=λm (hx:∃l,WS w0 m b l (N+3*i+1) (λj=>if j=k then M j+200000000*i else M j)/\l.length=ps.length)=>show Calls prog 41 #[ptr b,.int .i64 k,.agg #[.int .i64 5,.int .i64 0,.int .i64 0,.string x,.string ⟨#[]⟩]] m (λe r=>e=.returned _/\∃l,WS w0 r b l _ (λj=>if j=k then M j+200000000*(i+1)else M j)/\l.length=ps.length)from by
    obtain⟨L,h2,y⟩:=hx;refine b_ (Ce w0 m b L _ _ h2 k _ (aq R5) 0 0 x ⟨#[]⟩ R5 (by show(if k=k then M k+200000000*i else M k)<=_;rw[ag rfl];omega) R5) λr ⟨l,Y,Z⟩=>?_;refine⟨rfl,l,Y.mono (λj hj=>?_),Z.trans y⟩;unfold sT;by_cases D:j=k
    ·subst D;simp;omega
    simp[D]
   have K:=λm (hx:∃l,WS w0 m b l (N+3*i+2) (λj=>if j=k then M j+200000000*(i+1)else M j)/\l.length=ps.length)=>show Calls prog 41 #[ptr b,.int .i64 k,.agg #[.int .i64 6,.int .i64 0,.int .i64 0,.string ⟨#[]⟩,.string ⟨#[]⟩]] m (λe r=>e=.returned _/\∃l,WS w0 r b l _ (λj=>if j=k then M j+200000000*(i+1)else M j)/\l.length=ps.length)from by
    obtain⟨L,h2,y⟩:=hx;exact Ch h2 y E 6 0 0 ⟨#[]⟩ ⟨#[]⟩ (.inl rfl) S4 R5
   unfold ptr at I J K;have O:=bZ I;have P:=bZ J;have Q:=bZ K;have aa:i+1<=40:=R5;go_wp2_with fail;refine b_ O.Z λm ak=>?_;have T:=bZ (P.Z m ak);go_wp2_with fail;refine b_ T.Z λw3 am=>?_;have U:=bZ (Q.Z w3 am);go_wp2_with fail;refine b_ U.Z λw4 ao=>?_;have X:=bZ ao;go_wp2;refine⟨⟨i+1,rfl,by go_num,aa,X⟩,?_⟩;simp[intOf];omega
  have ab:¬(i:Int)<(n:Int):=R5;have R:Hid (∃l u,WS w0 wr b l u (λj=>if j=k then M j+8200000000 else M j)/\l.length=ps.length/\u<=N+120):=bZ ⟨C,N+3*i,z.mono (λj hj=>by show(if j=k then M j+200000000*i else M j)<=if j=k then M j+8200000000 else M j;split<;>omega),F,by omega⟩;go_wp2;go_ret;exact⟨rfl,R.Z⟩
end jU
namespace jU
open Go.RowKit Go.Shelf Ref
def Hm(c:Int)(n:Nat)(w:Xa)(y:-9223372036854775808<=c)(h1:c<=9223372036854775807)(z:0<n)(B:n<=1000000000):Calls prog 42 #[.int .i64 c,.int .i64 n] w λe u=>e=.returned (.int .i64 (E1 c n:Nat))/\u=w:=by
 unfold E1;by_cases l:c<0
 ·rw[ag l];obtain⟨m,p⟩:∃m:Nat,c+1=-(m:Int):=⟨(-(c+1)).toNat,by omega⟩;have j:-((c+1).tmod (n:Int))=(((-(c+1)).toNat%n:Nat):Int):=by
   rw[p,Int.neg_tmod,Int.neg_neg,Int.neg_neg];rfl
  clear p;have b:=bZ j;clear j;generalize (((-(c+1)).toNat%n:Nat):Int)=r at b ⊢;go_enter func42,ntmps42;go_wp2;go_ret;refine⟨?_,rfl⟩;show Ending.returned (Value.int .i64 (-((c+1).tmod (n:Int))))=_;rw[b.Z]
 rw[ae l];obtain⟨m,rfl⟩:∃m:Nat,c=(m:Int):=⟨c.toNat,by omega⟩;have b:Hid (((m:Int).tmod (n:Int))=((((m:Int)).toNat%n:Nat):Int)):=bZ rfl;generalize ((((m:Int)).toNat%n:Nat):Int)=r at b ⊢;go_enter func42,ntmps42;go_wp2;go_ret;refine⟨?_,rfl⟩;show Ending.returned (Value.int .i64 ((m:Int).tmod (n:Int)))=_;rw[b.Z]
def NR(c:Int)(n:Nat)(b:0<n):E1 c n<n:=Sv _ b
def Pk(w:Xa)(g:G w)(hd:jY w):WS w (w.alloc (.cells #[.slice none 0 0,.slice none 0 0,.int .i64 0,.slice none 0 0,.slice none 0 0,.slice none 0 0] 93)) w.1.size [] 0 (λ_=>0):=by
 have r:Below _ w (w.alloc (.cells #[.slice none 0 0,.slice none 0 0,.int .i64 0,.slice none 0 0,.slice none 0 0,.slice none 0 0] 93)):=(VM _ w).alloc (af _) _;have y:=heap_alloc_new w (.cells #[.slice none 0 0,.slice none 0 0,.int .i64 0,.slice none 0 0,.slice none 0 0,.slice none 0 0] 93);generalize w.alloc _=W at *;have u:∀{e:TypeId}{m:Nat},W.ownsRow 8 e m _ 0 []:=λ{e m}=>⟨by simp,.inl ⟨rfl,rfl⟩⟩;refine⟨⟨λk=>if k<w.1.size then 1000000000000 else 0,_,_,λ_=>.slice none 0 0,λ_=>[],λ_=>False,⟨⟨y,λq=>u,(λq p b=>by cases b),(λq g l=>by cases l),(λq p b=>by cases b),(λk n=>n.elim)⟩,λq=>ar _,u,u,ae (SR _),(λg l=>by cases l),(λg l=>by cases l),(λk n=>n.elim),(λi p b=>by cases b),(λi p b=>by cases b),g.below r g.size,hd.below r g.size,g.size,r,λk n=>ag n,by simp⟩⟩,(λp b=>by cases b),(λj p b=>by cases b)⟩
def Ei(w0 w:Xa)(b:Nat)(ps:List mB)(N:Nat)(M:Nat->Nat)(h:WS w0 w b ps N M)(i:Nat)(p:mB)(m:ps[i]?=some p)(K A B:Int)(S T:ba)(U:K<=1):Calls prog 41 #[ptr b,.int .i64 (i:Int),.agg #[.int .i64 K,.int .i64 A,.int .i64 B,.string S,.string T]] w λe n=>e=.returned (.bool true)/\Xc w n:=by
 obtain⟨Q,O,R,P,r,u,y,z,C,D,E,F,G,I,J,L⟩:=h.qp m K A B S T;have l:=iT w K A B S T;have j:=bZ l;unfold fU at *;unfold ptr;go_enter func41,ntmps41;go_wp2;go_ret;exact⟨rfl,j.Z⟩
def Lo(w0 w:Xa)(n:Nat)(ps:List mB)(N M:Nat)(h:WS w0 w n ps N (λ_=>M))(i:Nat)(hi:i<ps.length)(K A B:Int)(S T:ba)(hS:S.size<=20000000)(hT:T.size<=20000000)(hM:M<=70000000000000)(u:N<=25000000)(E:K<=8):Calls prog 41 #[ptr n,.int .i64 (i:Int),.agg #[.int .i64 K,.int .i64 A,.int .i64 B,.string S,.string T]] w λe m=>e=.returned (.bool true)/\∃b l,WS w0 m n b l (λ_=>M+200000000)/\b.length=ps.length/\l<=N+1:=by
 have r:=aq hi;generalize ps[i]=p at r;have y:∀{m:Xa}{l:Nat},l<=N+1->(∃b,WS w0 m n b l (sT (λ_=>M) i)/\b.length=ps.length)->∃b l,WS w0 m n b l (λ_=>M+200000000)/\b.length=ps.length/\l<=N+1:=λ{m l} z hx=>by
  obtain⟨b,h1,h2⟩:=hx;exact⟨b,l,h1.mono (λj _=>NP _ i j),h2,z⟩
 by_cases k2:K=2\/K=3\/K=4\/K=8
 ·exact(Eg w0 w n ps N _ h i p r K A B S T k2 hS hT hM).mono (λe m hx=>⟨hx.1,y (RI _) hx.2⟩)
 by_cases C:K=5
 ·subst C;exact(Ce w0 w n ps N _ h i p r A B S T hS hM u).mono (λe m hx=>⟨hx.1,y (af _) hx.2⟩)
 by_cases D:K=6\/K=7
 ·refine b_ (yS w0 w n ps N _ h i p r K A B S T D hS u) λm ⟨b,h1,h2⟩=>?_;exact⟨rfl,b,_,h1.mono (λj _=>aI _ _),h2,af _⟩
 exact(Ei w0 w n ps N _ h i p r K A B S T R5).mono (λe m hx=>⟨hx.1,ps,N,(h.below hx.2).mono (λj _=>aI _ _),rfl,RI _⟩)
def Lq(w0 w:Xa)(b:Nat)(ps:List mB)(N:Nat)(M:Nat->Nat)(h:WS w0 w b ps N M)(m:N<=100000000):Calls prog 43 #[.pointer (some ⟨b,2,none⟩)] w λe l=>e=.returned (.bool true)/\WS w0 l b ps N M:=by
 obtain⟨o,p,u,r,n,H,j⟩:=h.wp;exact(NJ w b p u r N n H j.hd m (λq=>by have:=j.hlen q;omega)).mono (λe l hx=>⟨hx.1,h.below hx.2⟩)
end jU
namespace jU
open Go.RowKit Go.Shelf Ref
variable{o:Option Addr}{c n k:Nat}
def Ci(w:Xa)(o:Option Addr)(j:Nat)(K A B:Nat->Int)(S T:Nat->ba):Prop :=∀i,i<j->∃b e,o=some ⟨b,e,none⟩/\b<w.1.size/\w.cell? ⟨b,e+i*5,none⟩=some (.int .i64 (K i))/\w.cell? ⟨b,e+i*5+1,none⟩=some (.int .i64 (A i))/\w.cell? ⟨b,e+i*5+2,none⟩=some (.int .i64 (B i))/\w.cell? ⟨b,e+i*5+3,none⟩=some (.string (S i))/\w.cell? ⟨b,e+i*5+4,none⟩=some (.string (T i)) /\(-9223372036854775808<=B i/\B i<=9223372036854775807)/\(S i).size<=20000000/\(T i).size<=20000000
def Ci.below{w w':Xa}{j:Nat}{K A B:Nat->Int}{S T:Nat->ba}(h:Ci w o j K A B S T)(e:Xc w w'):Ci w' o j K A B S T:=λi hi=>by
 obtain⟨b,l,h1,h2,m,p,r,u,y,z⟩:=h i hi;exact⟨b,l,h1,aw h2 e.size,(VS (e.block b h2)).trans m,(VS (e.block b h2)).trans p,(VS (e.block b h2)).trans r,(VS (e.block b h2)).trans u,(VS (e.block b h2)).trans y,z⟩
def SS(w0:Xa)(c n:Nat)(w:Xa):Prop:=∃b N,WS w0 w w0.1.size b N (λ_=>200000000*c)/\b.length=n/\n<=c/\N<=c
def SS.eD{w0 w:Xa}(h:SS w0 c n w):Xc w0 w:=by
 obtain⟨j,N,h1,_⟩:=h;obtain⟨o,l,p,m,e,H,b⟩:=h1.wp;exact b.eD
def SS.cell{w0 w:Xa}(h:SS w0 c n w):∃e b,w.cell? ⟨w0.1.size,0,none⟩=some (.slice e n b)/\w0.1.size<w.1.size:=by
 obtain⟨p,N,h1,rfl,_⟩:=h;obtain⟨o,r,y,u,m,H,l⟩:=h1.wp;obtain⟨e,b,rfl⟩:=dD l.mI;have j:=l.hd.eb;exact⟨e,b,by simp[World.cell?,j],cj j⟩
def mC{w0 w:Xa}(h:SS w0 c n w)(E:c<=300000)(i:Nat)(hi:i<n)(K A B:Int)(S T:ba)(hS:S.size<=20000000)(hT:T.size<=20000000)(r:K<=8):Calls prog 41 #[.pointer (some ⟨w0.1.size,0,none⟩),.int .i64 (i:Int),.agg #[.int .i64 K,.int .i64 A,.int .i64 B,.string S,.string T]] w λe b=>e=.returned (.bool true)/\SS w0 (c+1) n b:=by
 obtain⟨u,N,h1,rfl,C,D⟩:=h;refine b_ (Lo w0 w _ u N _ h1 i hi K A B S T hS hT R5 R5 r) λb ⟨y,l,m,p,z⟩=>?_;exact⟨rfl,y,l,m.mono (λj _=>by show 200000000*c+200000000<=200000000*(c+1);omega),p,by omega,by omega⟩
def Fv{w0 w:Xa}(h:SS w0 c n w)(z:c<=300000):Calls prog 40 #[.pointer (some ⟨w0.1.size,0,none⟩)] w λe b=>e=.returned (.bool true)/\SS w0 (c+1) (n+1) b:=by
 obtain⟨p,N,h1,rfl,u,y⟩:=h;refine b_ (Ll w0 w _ p N _ h1 R5) λb ⟨r,l,m⟩=>?_;exact⟨rfl,r,N,l.mono (λj _=>by show 200000000*c<=200000000*(c+1);omega),m,by omega,by omega⟩
def Lr{w0 w:Xa}(h:SS w0 c n w)(p:c<=300000):Calls prog 43 #[.pointer (some ⟨w0.1.size,2,none⟩)] w λe j=>e=.returned (.bool true)/\SS w0 c n j:=by
 obtain⟨b,N,h1,h2,l,m⟩:=h;exact(Lq w0 w _ b N _ h1 R5).mono (λe j hx=>⟨hx.1,b,N,hx.2,h2,l,m⟩)
def SE(w0:Xa)(c n k:Nat)(w:Xa):Prop:=∃b N,WS w0 w w0.1.size b N (λj=>if j<k then 200000000*c+8200000000 else 200000000*c)/\b.length=n/\N<=c+120*k
def SE.cell{w0 w:Xa}(h:SE w0 c n k w):∃e b,w.cell? ⟨w0.1.size,0,none⟩=some (.slice e n b)/\w0.1.size<w.1.size:=by
 obtain⟨p,N,h1,rfl,_⟩:=h;obtain⟨o,r,y,u,m,H,l⟩:=h1.wp;obtain⟨e,b,rfl⟩:=dD l.mI;have j:=l.hd.eb;exact⟨e,b,by simp[World.cell?,j],cj j⟩
def NS{w0 w:Xa}(h:SE w0 c n k w)(C:c<=200000)(r:k<n)(D:n<=c):Calls prog 44 #[.pointer (some ⟨w0.1.size,0,none⟩),.int .i64 (k:Int),.int .i64 8] w λe b=>e=.returned (.bool true)/\SE w0 c n (k+1) b:=by
 obtain⟨u,N,h1,rfl,B⟩:=h;refine b_ (Ln w0 w _ u N _ h1 k r (by show(if k<k then _ else 200000000*c)<=_;rw[ae (SR _)];omega) R5) λb ⟨y,l,m,p,z⟩=>?_;refine⟨rfl,y,l,m.mono (λj _=>?_),p,by omega⟩;show(if j=k then(if j<k then 200000000*c+8200000000 else 200000000*c)+8200000000 else(if j<k then 200000000*c+8200000000 else 200000000*c))<=if j<k+1 then 200000000*c+8200000000 else 200000000*c;by_cases h1:j=k
 ·subst h1;rw[ag rfl,ae (SR _),ag (Nat.lt_succ_self _)];omega
 rw[ae h1];by_cases h2:j<k
 ·rw[ag h2,ag R5];omega
 rw[ae h2];split<;>omega
def Pm{w0 w:Xa}(h:SE w0 c n k w)(p:c<=200000)(r:k<=n)(u:n<=c):Calls prog 43 #[.pointer (some ⟨w0.1.size,2,none⟩)] w λe b=>e=.returned (.bool true)/\Xc w0 b:=by
 obtain⟨l,N,h1,h2,m⟩:=h;refine(Lq w0 w _ l N _ h1 R5).mono (λe b hx=>⟨hx.1,?_⟩);obtain⟨o,z,C,B,y,H,j⟩:=hx.2.wp;exact j.eD
end jU
end
section
namespace jU
open Go.RowKit Go.Shelf Ref
def SS.below{w0 w w':Xa}{c n:Nat}(h:SS w0 c n w)(b:Xc w w'):SS w0 c n w':=by
 obtain⟨e,N,h1,h2⟩:=h;exact⟨e,N,h1.below b,h2⟩
def Hn(w:Xa)(g:G w)(hd:jY w)(o:Option Addr)(m a2:Nat)(K A B:Nat->Int)(S T:Nat->ba)(h:Ci w o m K A B S T)(hlen:m<=190000):Calls Tryz.prog 14 #[.slice o m a2,.int .i64 8] w λe u=>e=.returned (.bool true)/\Xc w u:=by
 have h0:SS w 0 0 (w.alloc (.cells #[.slice none 0 0,.slice none 0 0,.int .i64 0,.slice none 0 0,.slice none 0 0,.slice none 0 0] 93)):=⟨[],0,Pk w g hd,rfl,af _,af _⟩;have Q:=bZ h0;have HO:=bZ h;clear h0 h;go_enter Tryz.func14,Tryz.ntmps14
 go_upto_region 3 with(go_at_call 40;refine b_ (Fv Q.Z R5) λP h1=>?_;have R:=bZ h1;clear h1)
 go_upto_region 4 with(go_at_call 41;refine b_ (mC R.Z R5 0 R5 2 0 0 _ _ S4 S4 S4) λE h2=>?_;have l:=bZ h2;clear h2)
 go_upto_region 5 with(go_at_call 41;refine b_ (mC l.Z R5 0 R5 3 0 0 _ _ S4 S4 S4) λw3 D=>?_;have U:=bZ D;clear D)
 go_upto_region 6 with(go_at_call 41;refine b_ (mC U.Z R5 0 R5 3 0 0 _ _ S4 S4 S4) λw4 h4=>?_;have V:=bZ h4;clear h4)
 go_upto_region 7 with(go_at_call 41;refine b_ (mC V.Z R5 0 R5 2 0 0 _ _ S4 S4 S4) λw5 h5=>?_;have X:=bZ h5;clear h5)
 go_upto_region 8 with(go_at_call 41;refine b_ (mC X.Z R5 0 R5 5 0 0 _ _ S4 S4 S4) λw6 h6=>?_;have Y:=bZ h6;clear h6)
 go_upto_region 9 with(go_at_call 41;refine b_ (mC Y.Z R5 0 R5 6 0 0 _ _ S4 S4 S4) λw7 h7=>?_;have Z:=bZ h7;clear h7)
 go_upto_region 10 with(go_at_call 41;refine b_ (mC Z.Z R5 0 R5 7 0 0 _ _ S4 S4 S4) λw8 h8=>?_;have H8:=bZ h8;clear h8)
 clear Q R l U V X Y Z
 go_upto_region 12 with fail
 go_wp2
 go_loopw [6,7] (λO L wr=>∃(i n:Nat),O=.bool true/\L=.int .i64 (i:Int)/\i<=m/\Hid (∃c,SS w c n wr/\c<=i+8/\1<=n)) (λ_ L _=>m-(intOf L).toNat)
 case atStart=>exact⟨0,1,rfl,rfl,ar _,bZ ⟨8,H8.Z,af _,af _⟩⟩
 case round =>
  clear H8;obtain⟨i,n,rfl,rfl,hi,r⟩:=hrel;obtain⟨c,b,hc,am⟩:=r.Z;have ap:n<=c:=by obtain⟨_,_,_,_,D,_⟩:=b;exact D
  by_cases bc:i<m
  ·have a7:(i:Int)<(m:Int):=R5;obtain⟨ab,ao,rfl,bl,k0,k1,k2,k3,k4,⟨a3,a4⟩,a5,a6⟩:=HO.Z.below b.eD i bc;by_cases bk:8<K i
   ·have I:Hid (∃c,SS w c n wr/\c<=i+1+8/\1<=n):=bZ ⟨c,b,by omega,am⟩;clear b r;go_wp2;refine⟨⟨i+1,n,rfl,by go_num,by omega,I⟩,?_⟩;simp[intOf];omega
   by_cases bj:K i=1
   ·have I:=bZ (Fv b R5);have z:=bZ (λu (hx:SS w (c+1) (n+1) u)=>Lr hx R5);have J:c+1<=i+1+8:=R5;clear b r;go_wp2_with(first|(go_at_call 40;refine b_ I.Z λP h1=>?_;have F:=bZ (z.Z P h1);have bd:w.1.size<P.1.size:=(by obtain⟨_,_,_,h⟩:=h1.cell;exact h);clear h1)|(go_at_call 43;refine b_ F.Z λE h2=>?_;have l:=bZ h2;clear h2));refine⟨⟨i+1,n+1,rfl,by go_num,by omega,bZ ⟨c+1,l.Z,J,by omega⟩⟩,?_⟩;simp[intOf];omega
   have av:=λy=>Hm (B i) n y a3 a4 R5 R5;have ay:=λy (hB:Xc wr y)=>mC (b.below hB) R5 (E1 (B i) n) (NR _ _ R5) (K i) (A i) (B i) (S i) (T i) a5 a6 R5;obtain⟨oL,cL,d0,d1⟩:=b.cell;have ad:=bZ av;have ai:=bZ ay;have J:c+1<=i+1+8:=R5;have z:=bZ (λu (hx:SS w (c+1) n u)=>Lr hx R5);clear av ay b r
   go_upto_region 18 with fail
   go_cut [6]from 95 to 143 (λv y=>v=.bool true/\Hid (SS w (c+1) n y))
   case first =>
    go_region_with (first|(go_at_call 42;refine b_ (ad.Z _) λwp bf=>?_;have bg:=bf.symm;subst bg)|(go_at_call 41;refine b_ (ai.Z _ ((VM _ wr).drew)) λws ax=>?_;have C:=bZ ax;clear ax))
    all_goals
     go_wp2
     go_meet
     case rel=>exact⟨rfl,C⟩
   case rest =>
    obtain⟨rfl,C⟩:=hcut;generalize wc=W5 at *;have F:=bZ (z.Z _ C.Z);have bd:w.1.size<W5.1.size:=by obtain⟨_,_,_,h⟩:=C.Z.cell;exact h
    clear z ai ad d0 d1 k0 k1 k2 k3 k4
    apply_assumption
    go_wp2_with(go_at_call 43;refine b_ F.Z λE h2=>?_;have l:=bZ h2;clear h2)
    go_roundw
    case rel=>exact⟨i+1,n,rfl,by go_num,by omega,bZ ⟨c+1,l.Z,J,am⟩⟩
    case measure=>simp[intOf];omega
  have a7:¬(i:Int)<(m:Int):=R5;have ak:c<=200000:=R5;have aa:Hid (SE w c n 0 wr):=bZ (by
   obtain⟨ps,N,g1,g2,g3,g4⟩:=b;exact⟨ps,N,g1.mono (λj _=>by show 200000000*c<=if j<0 then _ else 200000000*c;rw[ae (Nat.not_lt_zero _)];exact af _),g2,by omega⟩)
  clear b r;go_wp2
  go_loopw [6,9] (λO M bh=>∃k:Nat,O=.bool true/\M=.int .i64 (k:Int)/\k<=n/\Hid (SE w c n k bh)) (λ_ M _=>n-(intOf M).toNat)
  case atStart=>exact⟨0,rfl,rfl,ar _,aa⟩
  case round =>
   clear aa;obtain⟨k,rfl,rfl,hk,p⟩:=hrel;obtain⟨oL,cL,d0,d1⟩:=p.Z.cell;by_cases a9:k<n
   ·have a8:(k:Int)<(n:Int):=R5;have a0:=bZ (NS p.Z ak a9 ap);clear p;go_wp2_with(go_at_call 44;refine b_ a0.Z λE h2=>?_;have l:=bZ h2;clear h2);refine⟨⟨k+1,rfl,by go_num,by omega,l⟩,?_⟩;simp[intOf];omega
   have a8:¬(k:Int)<(n:Int):=R5;have aC:=bZ (Pm p.Z ak hk ap);clear p;go_wp2_with(go_at_call 43;refine b_ aC.Z λE h2=>?_;have l:=bZ h2;clear h2);go_ret;exact⟨rfl,l.Z⟩
end jU
namespace jU
open Go.RowKit Go.Shelf Ref
def Ls(w:Xa)(g:G w)(hd:jY w)(o:Option Addr)(b j:Nat)(K A B:Nat->Int)(S T:Nat->ba)(h:Ci w o b K A B S T)(hlen:b<=190000):Calls Tryz.prog 8 #[.slice o b j] w λe l=>e=.returned (.bool true)/\Xc w l:=by
 have m:=bZ (Hn w g hd o b j K A B S T h hlen);clear h;go_enter Tryz.func8,Tryz.ntmps8;go_wp2_with fail;refine b_ m.Z λl n=>?_;go_wp2;go_ret;exact⟨rfl,n⟩
end jU
end
section
open Tryz
namespace jU
variable{cs:List Xb}
def NT:prog.cellsOf 96=5:=S8
def Pn:prog.cellsOf 3=1:=S8
def Po:prog.cellsOf 9=1:=S8
def Lt{H:Type}{enc:TypeId×Xb->H}{w:Xa}{base fuel:Nat}{spare:Nat->Bool}{held:Bool}{x:DataW H×List MemPlace}(h:DataW.trod enc prog w base spare held fuel 24 cs=some x):∃(o:Option Addr) (b p:Nat) (K A B:Nat->Int) (S T:Nat->ba) (D:Nat->DataW H) (sp:List (DataW H)),cs=[.slice o b p]/\(∀i,i<b->∃e j,o=some ⟨e,j,none⟩/\w.cell? ⟨e,j+i*5,none⟩=some (.int .i64 (K i))/\w.cell? ⟨e,j+i*5+1,none⟩=some (.int .i64 (A i))/\w.cell? ⟨e,j+i*5+2,none⟩=some (.int .i64 (B i))/\w.cell? ⟨e,j+i*5+3,none⟩=some (.string (S i))/\w.cell? ⟨e,j+i*5+4,none⟩=some (.string (T i))/\(-9223372036854775808<=B i/\B i<=9223372036854775807)) /\(x.1=.slice ((List.range b).map D) sp\/b=0)/\∀i,i<b->D i=.agg [.lit (.int .i64 (K i)),.lit (.int .i64 (A i)),.lit (.int .i64 (B i)),.lit (.string (S i).1.1),.lit (.string (T i).1.1)]:=by
 rcases open_slice underlying24 h with⟨V,_⟩|⟨a,b,p,m,n,D,Pl,rfl,hb,hl,hm,Y,rfl,hx⟩
 ·exact⟨none,0,0,λ_=>0,λ_=>0,λ_=>0,λ_=>⟨#[]⟩,λ_=>⟨#[]⟩,λ_=>.nil,[],V,λi hi=>by omega,Or.inr rfl,λi hi=>by omega⟩
 have ai:b<=m:=by rw[Y];split<;>omega
 have each:∀i,i<b->∃q:Int×Int×Int×ba×ba,w.cell? (a.add (i*5))=some (.int .i64 q.1)/\w.cell? (a.add (i*5+1))=some (.int .i64 q.2.1)/\w.cell? (a.add (i*5+2))=some (.int .i64 q.2.2.1)/\w.cell? (a.add (i*5+3))=some (.string q.2.2.2.1)/\w.cell? (a.add (i*5+4))=some (.string q.2.2.2.2)/\(Lit.int .i64 q.2.2.1).wf=true/\D i=.agg [.lit (.int .i64 q.1),.lit (.int .i64 q.2.1),.lit (.int .i64 q.2.2.1),.lit (.string q.2.2.2.1.1.1),.lit (.string q.2.2.2.2.1.1)]:=by
  intro i hi;obtain⟨U,h1,h2⟩:=hx i R5;rw[NT]at h1;obtain⟨_,hlen,hcell⟩:=World.cells?_some h1;obtain⟨xs,k,hk,ad,_,aa,l⟩:=DataW.trod_struct underlying96 h2
  match xs,aa,U,hlen with
  |[y0,y1,y2,y3,y4],_,[v0,v1,v2,v3,v4],_ =>
   have F:=l 0 _ rfl;have G:=l 1 _ rfl;have I:=l 2 _ rfl;have J:=l 3 _ rfl;have L:=l 4 _ rfl;simp[Pn,Po]at F G I J L;have u:=hcell 0 R5;have y:=hcell 1 R5;have z:=hcell 2 R5;have C:=hcell 3 R5;have E:=hcell 4 R5;rw[add_add]at u y z C E;obtain⟨n0,P,p0,w0⟩:=DataW.trod_int underlying3 F;obtain⟨n1,k1,p1,w1⟩:=DataW.trod_int underlying3 G;obtain⟨n2,k2,p2,w2⟩:=DataW.trod_int underlying3 I;obtain⟨n3,k3,p3,w3⟩:=DataW.trod_string underlying9 J;obtain⟨n4,k4,p4,w4⟩:=DataW.trod_string underlying9 L;simp at P k1 k2 k3 k4;subst P;subst k1;subst k2;subst k3;subst k4;exact⟨(n0,n1,n2,n3,n4),by simpa using u,by simpa using y,by simpa using z,by simpa using C,by simpa using E,w2,by have:=congrArg Prod.fst ad;simpa[p0,p1,p2,p3,p4]using this⟩
 obtain⟨q,r⟩:=choose_lt each;refine⟨some a,b,p,λi=>(q i).1,λi=>(q i).2.1,λi=>(q i).2.2.1,λi=>(q i).2.2.2.1,λi=>(q i).2.2.2.2,D,_,rfl,λi hi=>?_,Or.inl rfl,λi hi=>(r i hi).2.2.2.2.2.2⟩;obtain⟨h1,h2,M,N,O,R,_⟩:=r i hi;obtain⟨e,j,Q⟩:=a;have Z:Q=none:=by
  obtain⟨X,_⟩:=r 0 R5;simpa[Addr.add]using World.cell?_spot X
 subst Z;rw[add_plain]at h1 h2 M N O;exact⟨e,j,rfl,h1,by rw[RJ];exact h2,by rw[RJ];exact M,by rw[RJ];exact N,by rw[RJ];exact O,bounds_i64 R⟩
end jU
end
