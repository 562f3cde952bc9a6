/- Out of U11. -/
import Derived.Test.YtpekpdimdelncaaGreatDoorP12
set_option linter.unusedSimpArgs false
set_option linter.unusedVariables false
set_option maxRecDepth 100000
set_option maxHeartbeats 8000000
set_option linter.defProp false
namespace Go.Proofs.YtpekpdimdelncaaGreatDoor
open Go.RowKit Go.Shelf
section
open bY
open Tryz
def I7(E)(ok:gD E)(n)(ih:hU E n)(t it x xi F st w)(hlen:t.parts.length=2)(h0:iy n it.isSome (t.cM 0)=true)(h1:iy n true (t.cM 1)=true)(hx:dN w (n+1) t x)(hi:hC w it xi)(h:St E F st w):Calls prog 249 #[.pointer (some ⟨E.rb,0,none⟩),x,xi] w (PW (Ψ E F w (jh (ev E.N n (t.cM 0) it st) λv s=>match eS v with|.ok l=>jG (λu s=>ev E.N n (t.cM 1) (some u) s) l [] s|.error e=>(.error e,s)))):=by
 obtain⟨b,i,o,m,c,rfl,nd⟩:=hx.node;obtain⟨b0,q0,rfl,d0,bm⟩:=nd.cM 0 R5;have av:=ih (t.cM 0) it _ xi F st w h0 bm hi h;have hm:=nd.len;obtain⟨_,_,_,_,c4⟩:=nd.cells w (cT.refl w);have e0:=d0 w (cT.refl w);have bN:(0:Int)<(m:Int):=R5;have ND:=bZ nd;have U:=bZ av;have IH:=bZ ih;clear av nd d0 bm hx ih hi h;generalize ev E.N n (t.cM 0) it st=q at U ⊢;obtain⟨r,ab⟩:=q;generalize bl:E.rb=rb at U;have br:=bZ bl;clear bl;cases r with
 |error e1 =>
  show Calls _ _ _ _ (PW (Ψ E F w (.error e1,ab)));go_enter func249,ntmps249;go_wp2_with fail;refine U.Z.mono ?_;rintro e w1⟨r,⟨P,ai⟩,⟨v,y,p,rfl,hv⟩|⟨c1,p,rfl,hc⟩⟩
  ·rw[P]at p;cases p
  rw[P]at p;cases p;exact⟨rfl,.error e1,⟨rfl,ai⟩,.inr ⟨e1,rfl,rfl,hc⟩⟩
 |ok v1 =>
  show Calls _ _ _ _ (PW (Ψ E F w (match eS v1 with|.ok l=>jG (λu s=>ev E.N n (t.cM 1) (some u) s) l [] ab|.error e=>(.error e,ab))));cases hl:eS v1 with
  |error c9 =>
   show Calls _ _ _ _ (PW (Ψ E F w (.error c9,ab)));have a5:c9=9:=by
    rcases v1 with⟨k|b|l⟩<;>cases hl<;>rfl
   subst a5;have ad:=bZ hl;clear hl;go_enter func249,ntmps249;go_wp2_with fail;refine U.Z.mono ?_;rintro e w1⟨r,⟨P,F1,ai,hF,Z⟩,⟨v,y,p,rfl,hv⟩|⟨c1,p,rfl,hc⟩⟩
   ·rw[P]at p;cases p;have ax:∃t a,y=.iface t a/\(t=215\/t=219):=by
     rcases hv.fY with⟨i,rfl,rfl,_⟩|⟨b,rfl,rfl,_⟩|⟨m2,l2,s2,bp,bD,rfl,rfl,_⟩
     ·exact⟨_,_,rfl,.inr rfl⟩
     ·exact⟨_,_,rfl,.inl rfl⟩
     have:=ad.Z;cases this
    obtain⟨t1,a1,rfl,bG⟩:=ax;clear hv U;go_wp2_with fail;refine(lr _ _ _ bG).mono ?_;rintro e w2⟨rfl,rfl⟩;exact⟨rfl,PW.qc ok ai hF Z (PV.err (VM _ _)) (λc' a4=>by cases a4;omega)⟩
   rw[P]at p;cases p
  |ok l =>
   show Calls _ _ _ _ (PW (Ψ E F w (jG (λu s=>ev E.N n (t.cM 1) (some u) s) l [] ab)));have ad:=bZ hl;clear hl;generalize K:jG (λu s=>ev E.N n (t.cM 1) (some u) s) l [] ab=N;have bc:=bZ K;clear K;go_enter func249,ntmps249;go_wp2_with fail;refine U.Z.mono ?_;rintro e w1⟨r,⟨P,F1,ai,hF,Z⟩,⟨v,y,p,rfl,hv⟩|⟨c1,p,rfl,hc⟩⟩
   ·rw[P]at p;cases p;have bA:∃s T,y=.iface 248 s/\gm w1 s T/\jg w1 2 l T/\l.length<=12:=by
     rcases hv.fY with⟨i,rfl,rfl,_⟩|⟨b,rfl,rfl,_⟩|⟨m2,l2,s2,bp,bD,rfl,rfl,p,bx,bg,bH⟩
     ·have:=ad.Z;cases this
     ·have:=ad.Z;cases this
     have:=ad.Z;cases this;obtain rfl:m2=2:=R5;exact⟨s2,bp,rfl,p,⟨bx,bH⟩,bg⟩
    obtain⟨s1,T,rfl,a7,a8,bg⟩:=bA;obtain⟨os,cs,rfl⟩:=a7.len;have bM:=a8.1;obtain⟨bj,qj,bv,dj,bn⟩:=ND.Z.cM 1 R5;cases bv;have ap:=bZ (λ(w':Xa) (hk:cT w w')=>(ND.Z.cells w' hk).2.2.2.2);have DJ:=bZ dj;have am:=bZ bn;have ak:=bZ a7;have ao:=bZ a8;have bB:=ai.lt;have bd:=bZ (Lp.start ai);have bO:(1:Int)<(m:Int):=R5;clear hv U a7 a8 dj bn ND ad;go_wp2_with(go_at_call 278;refine(pO _ _ _ _).mono ?_;rintro e w2 ⟨rfl,rfl⟩)
    go_loopw [7,21] (λa a9 wr=>∃(k:Nat) (B:List V) (ys:List Xb) (F':Nat->Prop) (aa:Nat×E.σ),k<=T.length/\a9=.int .i64 k/\B.length<=k/\Hid (Lp E F1 w2 a ys B F' aa wr)/\Hid (jG (λu s=>ev E.N n (t.cM 1) (some u) s) (l.drop k) B aa=N)) (λ_ a9 _=>T.length-(intOf a9).toNat)
    case atStart=>exact⟨0,[],[],F1,ab,ar _,rfl,af _,bd,bc⟩
    case round =>
     clear bd bc;obtain⟨k,B,ys,F',aa,hk,rfl,bK,LP,HR⟩:=hrel;have bP:B.length=ys.length:=LP.Z.qy.1;have a6:=(Z.trans LP.Z.fm).keeps;by_cases bC:k<T.length
     ·obtain⟨u,hu⟩:∃u,l[k]?=some u:=⟨_,aq R5⟩;obtain⟨y,hy⟩:∃y,T[k]?=some y:=⟨_,aq bC⟩;obtain⟨bz,rfl,hc⟩:=(ak.Z.keeps LP.Z.fm.keeps).cell hy;have hval:=((ao.Z.2 k u y hu hy).keeps LP.Z.fm.keeps).up;obtain⟨ty,ay,rfl⟩:=hval.one;have ek:=ap.Z _ a6;have ej:=DJ.Z _ a6;have hw:=IH.Z (t.cM 1) (some u) _ _ F' aa _ h1 (am.Z.keeps a6) (.inr ⟨u,rfl,hval⟩) LP.Z.st;have Y:=HR.Z;rw[drop_cons hu]at Y;have J:jh (ev E.N n (t.cM 1) (some u) aa) (λv s=>match fw v with|.ok i=>if i=0 then jG (λu s=>ev E.N n (t.cM 1) (some u) s) (l.drop (k+1)) B s else jG (λu s=>ev E.N n (t.cM 1) (some u) s) (l.drop (k+1)) (B++[u]) s|.error e=>(.error e,s))=N:=Y;rw[br.Z]at hw;generalize ev E.N n (t.cM 1) (some u) aa=q at hw J;obtain⟨r,G⟩:=q;have X:=bZ hw;have HU:=bZ hval;have bL:(k:Int)<(T.length:Int):=R5;clear hw Y HR hval;cases r with
      |error e1 =>
       have a3:N=(.error e1,G):=J.symm;subst a3;clear J ap DJ am IH ak ao;go_wp2_with fail;refine X.Z.mono ?_;rintro e w3 hp;have K:=PW.after hF Z (PW.after LP.Z.tf LP.Z.fm hp);obtain⟨r3,⟨I,_⟩,⟨v3,y3,j,_⟩|⟨c3,j,rfl,_⟩⟩:=hp
       ·rw[I]at j;cases j
       rw[I]at j;cases j;exact⟨rfl,K⟩
      |ok S =>
       cases C:fw S with
       |error c9 =>
        have a5:c9=9:=by
         rcases S with⟨k|b|l⟩<;>cases C<;>rfl
        subst a5;have a3:N=(.error 9,G):=by
         have D:(match fw S with|.ok i=>if i=0 then jG (λu s=>ev E.N n (t.cM 1) (some u) s) (l.drop (k+1)) B G else jG (λu s=>ev E.N n (t.cM 1) (some u) s) (l.drop (k+1)) (B++[u]) G|.error e=>(.error e,G))=N:=J;rw[C]at D;exact D.symm
        subst a3;have aC:=bZ C;clear J ap DJ am IH ak ao C;go_wp2_with fail;refine X.Z.mono ?_;rintro e w3⟨r3,⟨I,F3,Q,O,L⟩,⟨v3,y3,j,rfl,R⟩|⟨c3,j,rfl,_⟩⟩
        ·rw[I]at j;cases j;rcases R.nD with⟨i',rfl,_⟩|⟨_,t',a',rfl,ht⟩
         ·have:=aC.Z;cases this
         have M:=bZ (LP.Z.worked Q O L);clear R Q O L LP X;go_wp2_with fail;refine(gC _ _ _ ht).mono ?_;rintro e w4⟨rfl,rfl⟩;exact⟨rfl,PW.after hF Z (PW.qc ok M.Z.st M.Z.tf M.Z.fm (PV.err (VM _ _)) (λc' a4=>by cases a4;omega))⟩
        rw[I]at j;cases j
       |ok z =>
        have D:(if z=0 then jG (λu s=>ev E.N n (t.cM 1) (some u) s) (l.drop (k+1)) B G else jG (λu s=>ev E.N n (t.cM 1) (some u) s) (l.drop (k+1)) (B++[u]) G)=N:=by
         have D:(match fw S with|.ok i=>if i=0 then jG (λu s=>ev E.N n (t.cM 1) (some u) s) (l.drop (k+1)) B G else jG (λu s=>ev E.N n (t.cM 1) (some u) s) (l.drop (k+1)) (B++[u]) G|.error e=>(.error e,G))=N:=J;rw[C]at D;exact D
        have aC:=bZ C;clear J ap DJ am IH ak ao C;by_cases hz:z=0
        ·rw[ag hz]at D;subst hz;have a0:=bZ D;clear D;go_wp2_with fail;refine X.Z.mono ?_;rintro e w3⟨r3,⟨I,F3,Q,O,L⟩,⟨v3,y3,j,rfl,R⟩|⟨c3,j,rfl,_⟩⟩
         ·rw[I]at j;cases j;have C:fw S=.ok 0:=aC.Z;rcases R.nD with⟨i',rfl,rfl,_⟩|⟨ax,_⟩
          ·cases C;have M:=bZ (LP.Z.worked Q O L);clear R Q O L LP X;go_wp2_with(go_at_call 280;refine(eK _ _).mono ?_;rintro e w4 ⟨rfl,rfl⟩);exact⟨⟨k+1,B,_,F3,G,by omega,by go_num,by omega,M,a0⟩,by simp[intOf];omega⟩
          exfalso;rcases S with⟨k|b|l⟩
          ·exact ax k rfl
          ·cases C
          cases C
         rw[I]at j;cases j
        rw[ae hz]at D;have a0:=bZ D;have bQ:(z != 0)=true:=by rw[Q5];exact hz
        clear D hz;go_wp2_with fail;refine X.Z.mono ?_;rintro e w3⟨r3,⟨I,F3,Q,O,L⟩,⟨v3,y3,j,rfl,R⟩|⟨c3,j,rfl,_⟩⟩
        ·rw[I]at j;cases j;have C:fw S=.ok z:=aC.Z;rcases R.nD with⟨i',rfl,rfl,_⟩|⟨ax,_⟩
         ·cases C;have M:=bZ (LP.Z.worked Q O L);have bk:Xc w3 (w3.alloc (Obj.cells #[.iface ty ay] 111)):=(VM _ w3).alloc (af _) _;have a2:=bZ (M.Z.below ok bk);have bt:=bZ ((HU.Z.keeps L.keeps).keeps (cT.below bk));have bw:(w3.alloc (Obj.cells #[.iface ty ay] 111)).cell? ((⟨w3.1.size,0,none⟩:Addr).add 0)=some (.iface ty ay):=cell_one_new _ _ _ 0 _ rfl;have bF:w2.1.size<=(w3.alloc (Obj.cells #[.iface ty ay] 111)).1.size:=a2.Z.fm.size;clear R Q O L LP X M HU;go_wp2_with(first|(go_at_call 280;refine b_ (eK _ _) λw4 bo=>?_;have bI:=bo.symm;subst bI;clear bo)|(at_builtin;refine my rfl _ _ 247 underlying247 rfl w2.1.size _ ys rfl a2.Z.mT ⟨w3.1.size,0,none⟩ _ (.iface ty ay) rfl bw rfl R5 bF ?_;intro v' w5 g2 g3 g4 g5));have bu:=a2.Z.append ok bB bt.Z g2 g3 g4 g5;exact⟨⟨k+1,B++[u],_,F3,G,by omega,by go_num,by simp;omega,bu,a0⟩,by simp[intOf];omega⟩
         exfalso;rcases S with⟨k|b|l⟩
         ·exact ax k rfl
         ·cases C
         cases C
        rw[I]at j;cases j
     have Y:=HR.Z;rw[aT R5]at Y;have J:N=(en B,aa):=Y.symm;have av:=nE B _ ys _ LP.Z.mT.row LP.Z.qy R5;have HL:=bZ (av.mono λe w2 bE=>PW.I5 ok LP.Z bE);obtain⟨oa,ca,rfl⟩:=LP.Z.mT.row.len;clear av Y HR ap DJ am IH ak ao;generalize en B=bJ at HL J;subst J;go_wp2_with fail;refine HL.Z.mono ?_;rintro e w4⟨bf,bh⟩;cases bJ with
     |error c =>
      obtain⟨rfl,K⟩:=bh c rfl;exact⟨rfl,PW.after hF Z K⟩
     |ok v =>
      obtain⟨o2,n2,c2,rfl,K⟩:=bf v rfl;have bq:=bZ (PW.after hF Z K);clear K bf bh HL LP;go_wp2;go_ret;exact bq.Z
   rw[P]at p;cases p
def Ow(E:Env)(n:Nat)(t:bY.T)(it:Option V)(b:Nat×E.σ):Except Nat V×(Nat×E.σ) :=match ev E.N n (t.cM 0) it b with
 |(.ok v,s)=>(.ok v,s)
 |(.error e,s)=>if e=7\/e=8\/e=9\/e=10 then ev E.N n (t.cM 1) it s else(.error e,s)
def vf(w':Xa)(j l n r b e m c:Nat)(p:Addr)(u:Xb):Prop :=w'.cell? ⟨j,0,none⟩=some (.pointer (some ⟨r,0,none⟩))/\w'.cell? ⟨l,0,none⟩=some (.pointer (some ⟨b,0,none⟩))/\w'.cell? ⟨n,0,none⟩=some u/\w'.cell? ⟨b,4,none⟩=some (.slice (some ⟨e,0,none⟩) m c)/\w'.cell? ⟨e,1,none⟩=some (.pointer (some p))
def lN(w w':Xa):Prop :=∀(k:Nat) (b:Array Xb) (t:TypeId) (e:Nat×Nat),w.1[k]?=some (.cells b t e)->I1 t->w'.1[k]?=some (.cells b t e)
def lN.keeps{w w':Xa}(h:lN w w'):cT w w':=λk b t e j l=>h k b t e j (.inl l)
def lN.below{w w':Xa}(h:Xc w w'):lN w w':=λk _ _ _ b _=>(h.block k (cj b)).trans b
def C6(E)(ok:gD E)(n)(ih:hU E n)(t it b M m c i Y L F G w W)(hlen:t.parts.length=2)(Z:iy n it.isSome (t.cM 0)=true)(hx:dN w (n+1) t (.pointer (some ⟨b,0,none⟩)))(nd:Node w n t b i (some ⟨M,0,none⟩) m c)(av:∀j,cT w j->j.cell? ⟨M,1,none⟩=some (.pointer (some Y)))(hi:hC w it L)(h:St E F G w)(aa:Xc w W)(a2:W.1.size=w.1.size+1+1+1)(d0:W.1[w.1.size]?=some (.cells #[.pointer (some ⟨E.rb,0,none⟩)] 242 (0,0)))(d1:W.1[w.1.size+1]?=some (.cells #[.pointer (some ⟨b,0,none⟩)] 121 (0,0)))(d2:W.1[w.1.size+1+1]?=some (.cells #[L] 111 (0,0))):Calls prog 201 #[.func (.func 277) #[] #[.pointer (some ⟨w.1.size,0,none⟩),.pointer (some ⟨w.1.size+1,0,none⟩),.pointer (some ⟨w.1.size+1+1,0,none⟩)]] W λe j=>∃x u,e=.returned x/\ij j (ev E.N n (t.cM 0) it G).1 x/\St E u (ev E.N n (t.cM 0) it G).2 j/\(∀k,u k->F k\/w.1.size<=k)/\Fm E.base w j/\(∀w3,lN j w3->vf w3 w.1.size (w.1.size+1) (w.1.size+1+1) E.rb b M m c Y L):=by
 have V:=ah ok.gE (aF h.lt);obtain⟨l,J⟩:∃l,W.alloc (.cells #[.int .i64 0,.nilIface] 113)=l:=⟨_,rfl⟩;have I:Xc W l:=by rw[<-J];exact(VM _ _).alloc (af _) _
 have N:=aa.trans (I.mono R5);have a0:l.1.size=W.1.size+1:=by rw[<-J];simp
 have p:=cT.below N;have Q:=(I.block _ (cj d0)).trans d0;have R:=(I.block _ (cj d1)).trans d1;have S:=(I.block _ (cj d2)).trans d2;have T:l.1[W.1.size]?=some (.cells #[.int .i64 0,.nilIface] 113 (0,0)):=by rw[<-J];exact heap_alloc_new W _
 have h1:=I8 E ok n ih t it b w.1.size (w.1.size+1) (w.1.size+1+1) L F G l hlen Z (hx.keeps p) (hi.keeps p) (h.below ok N) Q R S;have ai:Calls prog 277 #[.pointer (some ⟨w.1.size,0,none⟩),.pointer (some ⟨w.1.size+1,0,none⟩),.pointer (some ⟨w.1.size+1+1,0,none⟩)] (W.alloc (.cells #[.int .i64 0,.nilIface] 113)) λe j=>j.1[W.1.size]?=some (.cells #[.int .i64 0,.nilIface] 113 (0,0))/\PW (Ψ E F l (ev E.N n (t.cM 0) it G)) e j:=by
  rw[J];refine h1.mono λe w3 X=>⟨?_,X⟩;obtain⟨_,⟨_,_,_,_,hf⟩,_⟩:=X;exact hf.si _ _ _ _ T (.inr (.inl rfl))
 refine(u_ 277 (.inr rfl) _ W _ ai).mono ?_;rintro e j⟨r,x,w2,rfl,⟨rfl,u,ax,ab,O⟩,K,ak⟩;have ad:=(Fm.below N V).trans O;have am:∀k,u k->F k\/w.1.size<=k:=λk p=>by
  grind
 have ap:¬u W.1.size:=λp=>by
  rcases ab _ p with C|C
  ·have:=(ok.Hp _ _ _ _ h.inv C).1;omega
  omega
 have P:=ad.own K R5 V;have keep:∀k z y B,l.1[k]?=some (.cells z y B)->I1 y->k≠W.1.size->j.1[k]?=some (.cells z y B):=λk z y B p ht ao=>by
  have C:=O.si k z y B p ht;exact(K.block k (cj C) (λe=>ao TD)).trans C
 have f0:=keep _ _ _ _ Q (.inr (.inr rfl)) R5;have f1:=keep _ _ _ _ R (.inl (.inr (.inr rfl))) R5;have f2:=keep _ _ _ _ S (.inl (.inl rfl)) R5;have aC:=h.lt;have ay:=(kM K (λz y B U hi=>by
  rw[O.si _ _ _ _ T (.inr (.inl rfl))]at U;cases U;rcases hi with h|h|h<;>cases h)).stay
 exact⟨x,u,rfl,ak,ax.grown ok K R5 ap (by have:=h.g.size;omega) ay,am,P,λw3 D=>⟨by simp[World.cell?,D _ _ _ _ f0 (.inr (.inr rfl))],by simp[World.cell?,D _ _ _ _ f1 (.inl (.inr (.inr rfl)))],by simp[World.cell?,D _ _ _ _ f2 (.inl (.inl rfl))],(nd.cells w3 (P.keeps.trans D.keeps)).2.2.2.2,av w3 (P.keeps.trans D.keeps)⟩⟩
def L_(E)(ok:gD E)(n)(ih:hU E n)(t it x P F Y w)(hlen:t.parts.length=2)(h0:∀j,j<t.parts.length->iy n it.isSome (t.cM j)=true)(hx:dN w (n+1) t x)(hi:hC w it P)(h:St E F Y w):Calls prog 247 #[.pointer (some ⟨E.rb,0,none⟩),x,P] w (PW (Ψ E F w (Ow E n t it Y))):=by
 obtain⟨b,i,o,m,c,rfl,nd⟩:=hx.node;obtain⟨b0,q1,rfl,bd,bj⟩:=nd.cM 1 R5;have hm:=nd.len;have C:(1:Int)<(m:Int):=R5;have am:=hi.form;obtain⟨W,O⟩:∃W,((w.alloc (.cells #[.pointer (some ⟨E.rb,0,none⟩)] 242)).alloc (.cells #[.pointer (some ⟨b,0,none⟩)] 121)).alloc (.cells #[P] 111)=W:=⟨_,rfl⟩;have a8:Xc w W:=by rw[<-O];exact((((VM _ w).alloc (af _) _).alloc S5 _).alloc Tc _)
 have a4:W.1[w.1.size]?=some (.cells #[.pointer (some ⟨E.rb,0,none⟩)] 242 (0,0)):=by
  rw[<-O];exact((VR _ _ _ Tc).trans (VR _ _ _ S5)).trans (heap_alloc_new w _)
 have a5:W.1[w.1.size+1]?=some (.cells #[.pointer (some ⟨b,0,none⟩)] 121 (0,0)):=by
  rw[<-O];refine(VR _ _ _ S5).trans ?_;have:=heap_alloc_new (w.alloc (.cells #[.pointer (some ⟨E.rb,0,none⟩)] 242)) (.cells #[.pointer (some ⟨b,0,none⟩)] 121)
  rwa [World.size_alloc]at this
 have a6:W.1[w.1.size+1+1]?=some (.cells #[P] 111 (0,0)):=by
  rw[<-O];have:=heap_alloc_new ((w.alloc (.cells #[.pointer (some ⟨E.rb,0,none⟩)] 242)).alloc (.cells #[.pointer (some ⟨b,0,none⟩)] 121)) (.cells #[P] 111)
  rwa [World.size_alloc,World.size_alloc]at this
 have bh:W.1.size=w.1.size+1+1+1:=by rw[<-O];simp
 have hT:=C6 E ok n ih t it b b0 m c i q1 P F Y w W hlen (h0 0 R5) hx nd bd hi h a8 bh a4 a5 a6;subst O;have IH:=bZ ih;have HI:=bZ hi;have a0:=bZ bj;have ND:=bZ nd;have bn:E.base<=w.1.size:=ah ok.gE (aF h.lt);unfold Ow;generalize ev E.N n (t.cM 0) it Y=q at hT ⊢;obtain⟨r,N⟩:=q;generalize bf:E.rb=rb at hT;have aC:=bZ bf;have HT:=bZ hT;cases r with
 |ok Z =>
  show Calls _ _ _ _ (PW (Ψ E F w (.ok Z,N)));rcases am with rfl|⟨tx,ax,rfl⟩
  all_goals
   go_enter func247,ntmps247;go_wp2_with fail;refine HT.Z.mono ?_;rintro e u⟨x,F2,rfl,Q,D,hF,S,_⟩;rcases Q with⟨v,y,V,rfl,hval⟩|⟨c',R,_⟩
   ·cases V;obtain⟨t1,a1,rfl⟩:=hval.one;have z:∀o,Xc u (u.alloc o):=λo=>(VM _ u).alloc (af _) o;have ab:=bZ (λo=>qx (r:=.ok Z) (u.alloc o) (.inl ⟨Z,_,rfl,rfl,hval.keeps (cT.below (z o))⟩));go_wp2_with fail;refine(ab.Z _).mono ?_;rintro e w3 U;have aa:=bZ (PW.qc ok (D.below ok (z (Obj.cells #[.int .i64 0,.iface t1 a1] 113))) hF (S.trans (Fm.below (z _) (ah ok.gE (aF D.lt)))) U (λc hc=>by cases hc));obtain⟨y2,rfl,bk⟩:=U.2.1 Z rfl;obtain⟨t2,a2,rfl⟩:=bk.one;go_wp2;go_ret;exact aa.Z
   cases R
 |error l =>
  by_cases he:l=7\/l=8\/l=9\/l=10
  ·show Calls _ _ _ _ (PW (Ψ E F w (if l=7\/l=8\/l=9\/l=10 then ev E.N n (t.cM 1) it N else(.error l,N))));rw[ag he];generalize X:ev E.N n (t.cM 1) it N=a7;have ay:=bZ X;rcases he with rfl|rfl|rfl|rfl
   all_goals
    rcases am with rfl|⟨tx,ax,rfl⟩
    all_goals
     go_enter func247,ntmps247;go_wp2_with fail;refine HT.Z.mono ?_;rintro e u⟨x,F2,rfl,Q,D,hF,S,bc⟩;rcases Q with⟨v,y,V,_⟩|⟨c',R,rfl,ad,ai⟩
     ·cases V
     cases R;have ao:=bZ bc;go_wp2_with fail;generalize bm:u.alloc _=w4;have z:Xc u w4.drew:=by rw[<-bm];exact((VM u.1.size u).alloc (af _) _).drew
     have bg:=D.below ok z;have ak:=S.trans (Fm.below z (ah ok.gE (aF D.lt)));have av:=IH.Z (t.cM 1) it _ _ F2 N w4.drew (h0 1 R5) (a0.Z.keeps ak.keeps) (HI.Z.keeps ak.keeps) bg;rw[ay.Z,aC.Z]at av;have HC:=bZ (av.mono (R':=λe w3=>PW (Ψ E F w a7) e w3/\vf w3 w.1.size (w.1.size+1) (w.1.size+1+1) rb b b0 m c q1 _) (λe w3 T=>⟨PW.after hF ak T,by
      obtain⟨_,⟨_,_,_,_,hf⟩,_⟩:=T;exact ao.Z w3 (λk cs ty fz hk ht=>hf.si k cs ty fz (lN.below z k cs ty fz hk ht) ht)⟩))
     have a9:=ao.Z w4.drew (lN.below z);refine wp_region_held_drew (S:=λB=>vf B w.1.size (w.1.size+1) (w.1.size+1+1) rb b b0 m c q1 _) S8 a9 (λhHeld=>?_);refine wpAnyH_take (i:=0) (v:=?_) rfl S8 S8 S8 (λ_ _ _ h=>h) (Or.inl ⟨by rfl,?_⟩) Ti ?_
     rotate_left
     ·intro B p;obtain⟨G,I,J,L,M⟩:=p;go_simp
      try rw[ag C]
      try with_reducible rfl
     simp only[Act.put,au,Xd,Xe];refine wpAnyH_take (i:=1) (v:=?_) rfl S8 S8 S8 (λ_ _ _ h=>h) (Or.inl ⟨by rfl,?_⟩) Ti ?_
     rotate_left
     ·intro B p;obtain⟨G,I,J,L,M⟩:=p;go_simp
      try rw[ag C]
      try with_reducible rfl
     simp only[Act.put,au,Xd,Xe];refine wpAnyH_take (i:=2) (v:=?_) rfl S8 S8 S8 (λ_ _ _ h=>h) (Or.inl ⟨by rfl,?_⟩) Ti ?_
     rotate_left
     ·intro B p;obtain⟨G,I,J,L,M⟩:=p;go_simp
      try rw[ag C]
      try with_reducible rfl
     simp only[Act.put,au,Xd,Xe];refine wpAnyH_take (i:=3) (v:=?_) rfl S8 S8 S8 (λ_ _ _ h=>h) (Or.inl ⟨by rfl,?_⟩) Ti ?_
     rotate_left
     ·intro B p;obtain⟨G,I,J,L,M⟩:=p;go_simp
      try rw[ag C]
      try with_reducible rfl
     simp only[Act.put,au,Xd,Xe];refine wpAnyH_take (i:=4) (v:=?_) rfl S8 S8 S8 (λ_ _ _ h=>h) (Or.inl ⟨by rfl,?_⟩) Ti ?_
     rotate_left
     ·intro B p;obtain⟨G,I,J,L,M⟩:=p;go_simp
      try rw[ag C]
      try with_reducible rfl
     simp only[Act.put,au,Xd,Xe];refine wpAnyH_take (i:=5) (v:=?_) rfl S8 S8 S8 (λ_ _ _ h=>h) (Or.inl ⟨by rfl,?_⟩) Ti ?_
     rotate_left
     ·intro B p;obtain⟨G,I,J,L,M⟩:=p;go_simp
      try rw[ag C]
      try with_reducible rfl
     simp only[Act.put,au,Xd,Xe];refine wpAnyH_take (i:=6) (v:=?_) rfl S8 S8 S8 (λ_ _ _ h=>h) (Or.inl ⟨by rfl,?_⟩) Ti ?_
     rotate_left
     ·intro B p;obtain⟨G,I,J,L,M⟩:=p;go_simp
      try rw[ag C]
      try with_reducible rfl
     simp only[Act.put,au,Xd,Xe];refine wpAnyH_take (i:=7) (v:=?_) rfl S8 S8 S8 (λ_ _ _ h=>h) (Or.inl ⟨by rfl,?_⟩) Ti ?_
     rotate_left
     ·intro B p;obtain⟨G,I,J,L,M⟩:=p;go_simp
      try rw[ag C]
      try with_reducible rfl
     simp only[Act.put,au,Xd,Xe];refine wpAnyH_ready (rs:=[8]) S8 S5 ?_;refine AllReadyH.cons rfl (λK hK=>?_) AllReadyH.nil;go_simp;refine HC.Z.mono ?_;rintro e w3⟨T,ap⟩;have X:=T;obtain⟨r3,_,⟨v3,y3,_,rfl,bl⟩|⟨c3,_,rfl,_⟩⟩:=T
     ·obtain⟨t3,a3,rfl⟩:=bl.one;have aa:=bZ X;refine hK.out _ _ ap (λ_=>?_);refine wpAnyH_ready (rs:=[9]) S8 S5 ?_;refine AllReadyH.cons rfl (λK hK=>?_) AllReadyH.nil;go_simp;refine hK.out _ _ ap (λ_=>?_);refine wpAnyH_done S8 ?_ _;go_wp2;go_ret;exact aa.Z
     exact⟨rfl,X⟩
  show Calls _ _ _ _ (PW (Ψ E F w (if l=7\/l=8\/l=9\/l=10 then ev E.N n (t.cM 1) it N else(.error l,N))));rw[ae he];have n7:((l:Int)==7)=false:=Tj;have n8:((l:Int)==8)=false:=Tj;have n9:((l:Int)==9)=false:=Tj;have bo:((l:Int)==10)=false:=Tj;rcases am with rfl|⟨tx,ax,rfl⟩
  all_goals
   go_enter func247,ntmps247;go_wp2_with fail;refine HT.Z.mono ?_;rintro e u⟨x,F2,rfl,Q,D,hF,S,_⟩;rcases Q with⟨v,y,V,_⟩|⟨c',R,rfl,ad,ai⟩
   ·cases V
   cases R;have z:∀o,Xc u (u.alloc o):=λo=>(VM _ u).alloc (af _) o;have ab:=bZ (λo=>qx (r:=.error l) (u.alloc o) (.inr ⟨l,rfl,rfl,ad,ai⟩));go_wp2_with fail;refine(ab.Z _).mono ?_;rintro e w3 U;obtain rfl:=U.2.2 l rfl;exact⟨rfl,PW.qc ok (D.below ok (z (Obj.cells #[.int .i64 (l:Int),.nilIface] 113))) hF (S.trans (Fm.below (z _) (ah ok.gE (aF D.lt)))) U (λc hc=>by cases hc;exact⟨ad,ai⟩)⟩
def AZ{n:Nat}{b:Bool}{t:bY.T}(h:iy (n+1) b t=true):1<=t.cu/\t.cu<=16/\(t.cu=8\/t.parts.length=jH t.cu)/\t.parts.length<=200/\(t.cu=1->t.op=43\/t.op=45\/t.op=42\/t.op=47\/t.op=60\/t.op=61)/\(t.cu=13->t.op=109\/t.op=120\/t.op=64)/\(t.cu=2->t.is.isSome=true)/\(t.cu=4->b=true) /\(t.cu=15\/t.cu=16->iy n b (t.cM 0)=true/\iy n true (t.cM 1)=true)/\(t.cu≠15->t.cu≠16->∀j,j<t.parts.length->iy n b (t.cM j)=true):=by
 unfold iy at h;simp only[RO,decide_eq_true_eq,Rv,Rd,Q5,ne_eq]at h;obtain⟨⟨⟨⟨⟨⟨⟨⟨h1,h2⟩,l⟩,m⟩,u⟩,y⟩,z⟩,B⟩,p⟩:=h;refine⟨h1,h2,l,m,λe=>?_,λe=>?_,λe=>?_,λe=>?_,λe=>?_,λe C j r=>?_⟩
 ·grind
 ·grind
 ·grind
 ·grind
 ·grind
 rw[ae R5]at p;have hu:t.parts[j]?=some (t.cM j):=by
  rw[bY.T.cM,aq r];rfl
 grind
def C7{σ:Type}(N n t it)(s:Nat×σ):ev N (n+1) t it s =(if t.cu=1 then fZ N (λu s=>ev N n u it s) t s
  else if s.1=0 then(.error 11,s)
  else if t.cu=2 then((match t.is with|some v=>.ok v|.none=>.error 11),(s.1-1,s.2))
  else if t.cu=3 then qa N t.name (s.1-1,s.2)
  else if t.cu=4 then((match it with|some v=>.ok v|.none=>.error 11),(s.1-1,s.2))
  else if t.cu=14 then
   (match ev N n (t.cM 0) it (s.1-1,s.2) with
   |(.ok v,s)=>(.ok v,s)
   |(.error e,s)=>if e=7\/e=8\/e=9\/e=10 then ev N n (t.cM 1) it s else(.error e,s))
  else if t.cu=15 then jh (ev N n (t.cM 0) it (s.1-1,s.2)) λv s =>
   (match eS v with
   |.ok l=>nF (λu s=>ev N n (t.cM 1) (some u) s) l [] s
   |.error e=>(.error e,s))
  else if t.cu=16 then jh (ev N n (t.cM 0) it (s.1-1,s.2)) λv s =>
   (match eS v with
   |.ok l=>jG (λu s=>ev N n (t.cM 1) (some u) s) l [] s
   |.error e=>(.error e,s))
  else if t.cu=8 then nF (λu s=>ev N n u it s) t.parts [] (s.1-1,s.2)
  else fZ N (λu s=>ev N n u it s) t (s.1-1,s.2)):=rfl
theorem F8(E n t it x z F s w)(h2:2<=t.cu)(B:t.cu<=16)(hx:dN w (n+1) t x)(h:St E F (0,s) w):Calls prog 203 #[.pointer (some ⟨E.rb,0,none⟩),x,z] w (PW (Ψ E F w (ev E.N (n+1) t it (0,s)))):=by
 obtain⟨b,i,o,m,c,rfl,nd⟩:=hx.node;obtain⟨r,_,_,_,_⟩:=nd.cells w (cT.refl w);have u:ev E.N (n+1) t it (0,s)=(.error 11,(0,s)):=by rw[C7,ae R5,ag rfl]
 rw[u];have l:=bZ (C4 E F s w h);have p:=bZ (show PW (Ψ E F w (.error 11,(0,s))) (gY 11) w from⟨.error 11,⟨rfl,F,h,λk j=>.inl j,Fm.refl _ _⟩,.inr ⟨11,rfl,rfl,by omega,by omega⟩⟩);generalize y:E.rb=rb at l;clear y h hx nd;obtain j|j|j|j|j|j|j|j|j|j|j|j|j|j|j:t.cu=2\/t.cu=3\/t.cu=4\/t.cu=5\/t.cu=6\/t.cu=7\/t.cu=8\/t.cu=9\/t.cu=10\/t.cu=11\/t.cu=12\/t.cu=13\/t.cu=14\/t.cu=15\/t.cu=16:=R5
 all_goals
  rw[j]at r;clear j;go_enter func203,ntmps203;go_wp2_with fail;refine l.Z.mono ?_;rintro e C⟨rfl,rfl⟩;exact⟨rfl,p.Z⟩
def F9(E)(ok:gD E)(n t x u F f s w)(X:f≠0)(l)(hx:dN w (n+1) t x)(V:u=.nilIface\/∃tx M,u=.iface tx M)(h:St E F (f,s) w)(D)(I:∀b,x=.pointer (some ⟨b,0,none⟩)->∀p,St E F (f-1,s) p->Fm E.base w p->Calls prog l (if t.cu=3 then #[.pointer (some ⟨E.rb,0,none⟩),.string ⟨t.name.toArray⟩]else #[.pointer (some ⟨E.rb,0,none⟩),.pointer (some ⟨b,0,none⟩),u]) p (PW (Ψ E F w D)))(j:((t.cu=5\/t.cu=6\/t.cu=7\/t.cu=9\/t.cu=10\/t.cu=11\/t.cu=12\/t.cu=13)/\l=251)\/(t.cu=8/\l=250)\/(t.cu=14/\l=247)\/(t.cu=15/\l=248)\/(t.cu=16/\l=249)\/(t.cu=3/\l=246)):Calls prog 203 #[.pointer (some ⟨E.rb,0,none⟩),x,u] w (PW (Ψ E F w D)):=by
 obtain⟨b,i,o,m,c,rfl,nd⟩:=hx.node;have C:=bZ (λS O=>(nd.cells S O));obtain⟨N,_,_,_,_⟩:=nd.cells w (cT.refl w);have z:=bZ (va E ok F f s w h R5);have y:=bZ (I b rfl);generalize P:E.rb=rb at z y;clear P h hx nd I;rcases j with⟨j|j|j|j|j|j|j|j,rfl⟩|⟨j,rfl⟩|⟨j,rfl⟩|⟨j,rfl⟩|⟨j,rfl⟩|⟨j,rfl⟩
 all_goals
  rw[j]at N;go_enter func203,ntmps203;go_wp2_with fail;refine b_ z.Z λp ⟨Q,G,_⟩=>?_;obtain⟨R,k1,k2,k3,k4⟩:=C.Z p G.keeps;have r:=y.Z p Q G;rw[j]at R r;have r:=bZ r;clear y z C j;go_wp2_with fail;refine r.Z.mono ?_;rintro e w3 J;have B:=J;obtain⟨Y,_,⟨Z,y3,_,rfl,K⟩|⟨U,_,rfl,_⟩⟩:=J
  ·obtain⟨t3,T,rfl⟩:=K.one;have L:=bZ B;clear B K r;go_wp2;go_ret;exact L.Z
  exact⟨rfl,B⟩
def A0(E)(ok:gD E)(n t x u F f s w)(Y:f≠0)(hx:dN w (n+1) t x)(X:u=.nilIface\/∃tx M,u=.iface tx M)(h:St E F (f,s) w)(l)(K:(t.cu=2/\t.is=some l)\/(t.cu=4/\cZ w 3 l u)):Calls prog 203 #[.pointer (some ⟨E.rb,0,none⟩),x,u] w (PW (Ψ E F w (.ok l,(f-1,s)))):=by
 obtain⟨b,i,o,m,c,rfl,nd⟩:=hx.node;have G:=bZ (λU P=>(nd.cells U P));obtain⟨N,_,_,_,_⟩:=nd.cells w (cT.refl w);have B:=bZ (va E ok F f s w h R5);have I:∀j,cZ w 3 l j->∀(p:Xa) (y:St E F (f-1,s) p) (r:Fm E.base w p),PW (Ψ E F w (.ok l,(f-1,s))) (.returned j) p:=λj O p y r=>⟨.ok l,⟨rfl,F,y,λk e=>.inl e,r⟩,.inl ⟨l,_,rfl,rfl,O.keeps r.keeps⟩⟩;have e:(t.cu=2/\cZ w 3 l i)\/(t.cu=4/\cZ w 3 l u):=by
  rcases K with⟨e,C⟩|e
  ·rcases nd.is with⟨Q,_⟩|⟨v2,J,S⟩
   ·rw[Q]at C;cases C
   rw[C]at J;cases J;exact .inl ⟨e,S⟩
  exact .inr e
 generalize R:E.rb=rb at B;clear R h hx nd K;rcases e with⟨e,z⟩|⟨e,z⟩
 all_goals
  have D:=bZ (I _ z);obtain⟨Z,V,rfl⟩:=z.one;clear z I;rw[e]at N;go_enter func203,ntmps203;go_wp2_with fail;refine b_ B.Z λp ⟨y,r,_⟩=>?_;obtain⟨T,k1,k2,k3,k4⟩:=G.Z p r.keeps;rw[e]at T;have L:=bZ (D.Z p y r);clear B G D;go_wp2;go_ret;exact L.Z
theorem Ox(E)(ok:gD E)(n)(I:hU E n)(t it x y F j w)(l:t.cu=1)(L:iy (n+1) it.isSome t=true)(hx:dN w (n+1) t x)(hi:hC w it y)(h:St E F j w):Calls prog 203 #[.pointer (some ⟨E.rb,0,none⟩),x,y] w (PW (Ψ E F w (ev E.N (n+1) t it j))):=by
 obtain⟨_,_,N,S,M,U,T,hit,V,O⟩:=AZ L;have C:ev E.N (n+1) t it j=fZ E.N (λu s=>ev E.N n u it s) t j:=by
  rw[C7,l,ag rfl]
 rw[C];have p:=lM E ok n I t it _ y F j w (.inl l) (by rcases N with B|B;(· omega);(· rw[B,l];rfl)) (O R5 R5) (by have:=M l;omega) hx hi h;obtain⟨b,i,o,m,c,rfl,nd⟩:=hx.node;obtain⟨K,_,_,_,_⟩:=nd.cells w (cT.refl w);rw[l]at K;generalize fZ E.N (λu s=>ev E.N n u it s) t j=R at p ⊢;generalize E.rb=rb at p ⊢;have z:=bZ p;clear p h hx hi nd C I;go_enter func203,ntmps203;go_wp2_with fail;refine z.Z.mono ?_;rintro e w3 D;have r:=D;obtain⟨X,_,⟨Y,Z,_,rfl,G⟩|⟨Q,_,rfl,_⟩⟩:=D
 ·obtain⟨t3,P,rfl⟩:=G.one;have J:=bZ r;clear r G z;go_wp2;go_ret;exact J.Z
 exact⟨rfl,r⟩
def A1(E)(ok:gD E):∀n,hU E n
 |0=>λt z x y F Q w L _ _ _=>by cases L
 |n+1=>λt z x y F Q w L hx hi h=>by
  have D:=A1 E ok n;obtain⟨h1,V,Z,R,Y,T,S,hit,J,I⟩:=AZ L;by_cases X:t.cu=1
  ·grind [Ox]
  obtain⟨f,s⟩:=Q;by_cases K:f=0
  ·grind [F8]
  have G:∀{k},t.cu=k->k≠8->t.parts.length=jH k:=λe l=>by
   grind
  have B:∀{m:Xa}{N},Fm E.base w m->∀e w3,PW (Ψ E F m N) e w3->PW (Ψ E F w N) e w3:=λj e w3 U=>PW.after (λk l=>.inl l) j U;have C:=F9 E ok n t x y F f s w K;obtain l|l|l|l|l|l|l|l|l|l|l|l|l|l|l:t.cu=2\/t.cu=3\/t.cu=4\/t.cu=5\/t.cu=6\/t.cu=7\/t.cu=8\/t.cu=9\/t.cu=10\/t.cu=11\/t.cu=12\/t.cu=13\/t.cu=14\/t.cu=15\/t.cu=16:=R5
  all_goals rw[C7];simp only[l,K,aO,Ry,Nat.reduceEqDiff]
  ·cases P:t.is with
   |none=>have:=S l;rw[P]at this;cases this
   |some M=>exact A0 E ok n t x y F f s w K hx hi.form h M (.inl ⟨l,P⟩)
  ·refine C _ hx hi.form h _ (λb u m p j=>?_) (.inr (.inr (.inr (.inr (.inr ⟨l,rfl⟩)))));rw[ag l];obtain⟨_,_,_,_,_,_,nd⟩:=hx.node;exact(xV E ok F (f-1,s) ⟨t.name.toArray⟩ m p (by show t.name.toArray.size<=200;simpa using nd.name) (by have:=h.le;show E.mE s+(f-1)<400;have:E.mE s+f<=400:=this;omega)).mono (B j)
  ·rcases hi with⟨rfl,_⟩|⟨M,rfl,O⟩
   ·grind
   exact A0 E ok n t x y F f s w K hx (.inr O.one) h M (.inr ⟨l,O⟩)
  ·refine C _ hx hi.form h _ (λb u m p j=>?_) (.inl ⟨by omega,rfl⟩);rw[ae R5,<-u];exact(kz E ok n D t z _ y F (f-1,s) m (.inl l) (G l S4) (I R5 R5) (hx.keeps j.keeps) (hi.keeps j.keeps) p).mono (B j)
  ·refine C _ hx hi.form h _ (λb u m p j=>?_) (.inl ⟨by omega,rfl⟩);rw[ae R5,<-u];exact(tJ E ok n D t z _ y F (f-1,s) m l (G l S4) (I R5 R5) (hx.keeps j.keeps) (hi.keeps j.keeps) p).mono (B j)
  ·refine C _ hx hi.form h _ (λb u m p j=>?_) (.inl ⟨by omega,rfl⟩);rw[ae R5,<-u];exact(xn E ok n D t z _ y F (f-1,s) m l (G l S4) (I R5 R5) (hx.keeps j.keeps) (hi.keeps j.keeps) p (by have:E.mE s+f<=400:=h.le;show E.mE s+(f-1)<400;omega)).mono (B j)
  ·refine C _ hx hi.form h _ (λb u m p j=>?_) (.inr (.inl ⟨l,rfl⟩));rw[ae R5,<-u];exact(pq E ok n D t z _ y F (f-1,s) m R (I R5 R5) (hx.keeps j.keeps) (hi.keeps j.keeps) p).mono (B j)
  ·refine C _ hx hi.form h _ (λb u m p j=>?_) (.inl ⟨by omega,rfl⟩);rw[ae R5,<-u];exact(zl E ok n D t z _ y F (f-1,s) m l (G l S4) (I R5 R5) (hx.keeps j.keeps) (hi.keeps j.keeps) p).mono (B j)
  ·refine C _ hx hi.form h _ (λb u m p j=>?_) (.inl ⟨by omega,rfl⟩);rw[ae R5,<-u];exact(kz E ok n D t z _ y F (f-1,s) m (.inr (.inl l)) (G l S4) (I R5 R5) (hx.keeps j.keeps) (hi.keeps j.keeps) p).mono (B j)
  ·refine C _ hx hi.form h _ (λb u m p j=>?_) (.inl ⟨by omega,rfl⟩);rw[ae R5,<-u];exact(kz E ok n D t z _ y F (f-1,s) m (.inr (.inr (.inl l))) (G l S4) (I R5 R5) (hx.keeps j.keeps) (hi.keeps j.keeps) p).mono (B j)
  ·refine C _ hx hi.form h _ (λb u m p j=>?_) (.inl ⟨by omega,rfl⟩);rw[ae R5,<-u];exact(kz E ok n D t z _ y F (f-1,s) m (.inr (.inr (.inr l))) (G l S4) (I R5 R5) (hx.keeps j.keeps) (hi.keeps j.keeps) p).mono (B j)
  ·refine C _ hx hi.form h _ (λb u m p j=>?_) (.inl ⟨by omega,rfl⟩);rw[ae R5,<-u];exact(lM E ok n D t z _ y F (f-1,s) m (.inr l) (G l S4) (I R5 R5) (by have:=T l;omega) (hx.keeps j.keeps) (hi.keeps j.keeps) p).mono (B j)
  ·refine C _ hx hi.form h _ (λb u m p j=>?_) (.inr (.inr (.inl ⟨l,rfl⟩)));rw[ae R5,<-u];have:=L_ E ok n D t z _ y F (f-1,s) m (G l S4) (I R5 R5) (hx.keeps j.keeps) (hi.keeps j.keeps) p;unfold Ow at this
   try dsimp only at this
   generalize ev E.N n (t.cM 0) z (f-1,s)=q at this ⊢;obtain⟨r,s'⟩:=q;cases r<;>exact this.mono (B j)
  ·refine C _ hx hi.form h _ (λb u m p j=>?_) (.inr (.inr (.inr (.inl ⟨l,rfl⟩))));rw[ae R5,<-u];exact(I6 E ok n D t z _ y F (f-1,s) m (G l S4) (J (.inl l)).1 (J (.inl l)).2 (hx.keeps j.keeps) (hi.keeps j.keeps) p).mono (B j)
  refine C _ hx hi.form h _ (λb u m p j=>?_) (.inr (.inr (.inr (.inr (.inl ⟨l,rfl⟩)))));rw[ae R5,<-u];exact(I7 E ok n D t z _ y F (f-1,s) m (G l S4) (J (.inr l)).1 (J (.inr l)).2 (hx.keeps j.keeps) (hi.keeps j.keeps) p).mono (B j)
end
def C8(E)(ok:gD E)(n t u b F m w)(Q:bY.iy n false t=true)(R:E.di=.pointer (some ⟨b,0,none⟩))(hx:dN w n t (.pointer (some ⟨b,0,none⟩)))(h:St E F m w)(d0:w.1[u]?=some (.cells #[.pointer (some ⟨E.rb,0,none⟩)] 242 (0,0))):Calls Tryz.prog 202 #[.pointer (some ⟨u,0,none⟩)] w (PW (Ψ E F w (bY.ev E.N n t none m))):=by
 have D:Xc w w.drew:=(VM _ w).drew;have B:Fm E.base w w.drew:=Fm.below D (ah ok.gE (aF h.lt));have l:=(A1 E ok n t none _ .nilIface F m w.drew Q (hx.keeps B.keeps) (.inl ⟨rfl,rfl⟩) (h.below ok D)).mono (λe w3 j=>PW.after (λk P=>.inl P) B j);have cells:∀w3 r L,Fm E.base w w3->St E r L w3->w3.cell? ⟨u,0,none⟩=some (.pointer (some ⟨E.rb,0,none⟩))/\w3.cell? ⟨E.rb,0,none⟩=some (.pointer (some ⟨b,0,none⟩)):=λw3 r L y C=>by
  have f0:=y.si _ _ _ _ d0 (.inr (.inr rfl));obtain⟨V,X,I⟩:=C.run;rw[dW,R]at I;exact⟨by simp[World.cell?,f0],by simp[World.cell?,I]⟩
 have l:=l.mono (R':=λe w3=>PW (Ψ E F w (bY.ev E.N n t none m)) e w3/\_) (λe w3 j=>⟨j,by
  obtain⟨_,⟨_,r,C,_,y⟩,_⟩:=j;exact cells w3 r _ y C⟩)
 obtain⟨d0,d1⟩:=cells w F m (Fm.refl _ _) h;clear cells;generalize bY.ev E.N n t none m=q at l ⊢;generalize E.rb=rb at l d0 d1;have N:=bZ l;clear hx h B l;go_enter Tryz.func202,Tryz.ntmps202;go_wp2_with fail;refine wp_region_held_drew (S:=λM=>M.cell? ⟨u,0,none⟩=some (.pointer (some ⟨rb,0,none⟩))/\M.cell? ⟨rb,0,none⟩=some (.pointer (some ⟨b,0,none⟩))) S8 ⟨d0,d1⟩ (λhHeld=>?_);refine dP 0 rfl Ti ?_;simp only[Act.put,au,Xd,Xe];refine dP 1 rfl Ti ?_;simp only[Act.put,au,Xd,Xe];refine dP 2 rfl Ti ?_;simp only[Act.put,au,Xd,Xe];refine dP 3 rfl Ti ?_;simp only[Act.put,au,Xd,Xe];refine dP 4 rfl Ti ?_;simp only[Act.put,au,Xd,Xe];refine wpAnyH_ready (rs:=[5]) S8 S5 ?_;refine AllReadyH.cons rfl (λK p=>?_) AllReadyH.nil;go_simp;refine N.Z.mono ?_;rintro e w3⟨j,G⟩;have z:=j;obtain⟨U,_,⟨Y,Z,_,rfl,J⟩|⟨T,_,rfl,_⟩⟩:=j
 ·obtain⟨t3,S,rfl⟩:=J.one;have O:=bZ z;clear z J;refine p.out _ _ G (λ_=>?_);clear p hHeld;refine wpAnyH_ready (rs:=[6]) S8 S5 ?_;refine AllReadyH.cons rfl (λK p=>?_) AllReadyH.nil;go_simp;refine p.out _ _ G (λ_=>?_);clear p;refine wpAnyH_done S8 ?_ _;go_wp2;go_ret;exact O.Z
 exact⟨rfl,z⟩
section
open bY
open Tryz
variable{F:Nat->Prop}
def vg{P:Program}{w:Xa}(a m f x y):(store a (.func f x y) m).run P w=stored P w a (.func f x y) m:=run_store P w a _ m rfl
def q9{P:Program}{w:Xa}(a m):(store a .nilFunc m).run P w=stored P w a .nilFunc m:=run_store P w a _ m rfl
attribute [local go_sem] vg q9
theorem zm(E)(ok:gD E)(n t B b F p W)(U:iy n false t=true)(Y:E.di=.pointer (some ⟨b,0,none⟩))(hx:dN W n t (.pointer (some ⟨b,0,none⟩)))(h:St E F p W)(d0:W.1[B]?=some (.cells #[.pointer (some ⟨E.rb,0,none⟩)] 242 (0,0))):Calls prog 201 #[.func (.func 202) #[] #[.pointer (some ⟨B,0,none⟩)]] W λe l=>∃x m,e=.returned x/\ij l (ev E.N n t none p).1 x/\St E m (ev E.N n t none p).2 l/\(∀k,m k->F k\/W.1.size<=k)/\Fm E.base W l:=by
 have J:=ah ok.gE (aF h.lt);obtain⟨j,y⟩:∃j,W.alloc (.cells #[.int .i64 0,.nilIface] 113)=j:=⟨_,rfl⟩;have u:Xc W j:=by rw[<-y];exact(VM _ _).alloc (af _) _
 have ab:j.1.size=W.1.size+1:=by rw[<-y];simp
 have z:=cT.below u;have M:=(u.block _ (cj d0)).trans d0;have D:j.1[W.1.size]?=some (.cells #[.int .i64 0,.nilIface] 113 (0,0)):=by rw[<-y];exact heap_alloc_new W _
 have h1:=C8 E ok n t B b F p j U Y (hx.keeps z) (h.below ok u) M;have P:Calls prog 202 #[.pointer (some ⟨B,0,none⟩)] (W.alloc (.cells #[.int .i64 0,.nilIface] 113)) λe l=>l.1[W.1.size]?=some (.cells #[.int .i64 0,.nilIface] 113 (0,0))/\PW (Ψ E F j (ev E.N n t none p)) e l:=by
  rw[y];refine h1.mono λe w3 L=>⟨?_,L⟩;obtain⟨_,⟨_,_,_,_,R⟩,_⟩:=L;exact R.si _ _ _ _ D (.inr (.inl rfl))
 refine(u_ 202 (.inl rfl) _ W _ P).mono ?_;rintro e l⟨r,x,w2,rfl,⟨rfl,m,V,N,K⟩,C,Q⟩;have O:=(Fm.below u J).trans K;have S:∀k,m k->F k\/W.1.size<=k:=λk z=>by
  grind
 have T:¬m W.1.size:=λz=>by
  rcases N _ z with G|G
  ·have:=(ok.Hp _ _ _ _ h.inv G).1;omega
  omega
 have aa:=h.lt;have X:=(kM C (λZ ty fz I hi=>by
  rw[K.si _ _ _ _ D (.inr (.inl rfl))]at I;cases I;rcases hi with h|h|h<;>cases h)).stay
 exact⟨x,m,rfl,Q,V.grown ok C R5 T (by have:=h.g.size;omega) X,S,O.own C R5 J⟩
def run_set{E:Env}(ok:gD E){s:E.σ}{w:Xa}{p y tc u wc wi:Xb}{f:Nat}(m:dW w E.rb p y tc u f wc wi)(l:E.J F s w)(g:G w)(o v):E.J F s (w.setCell ⟨E.rb,o,none⟩ v)/\G (w.setCell ⟨E.rb,o,none⟩ v)/\Fm E.base w (w.setCell ⟨E.rb,o,none⟩ v):=by
 have b:=dq (VQ w (some E.rb)) o v;have r:=cj m;have n := Fm.grown b ok.gE (aF (SN ok.gE r)) (λz t B h => by
       rw[dW]at m;rw[m]at h;cases h;rintro((h|h|h)|h|h)<;>cases h)
 refine⟨?_,?_,?_⟩
 ·exact ok.AW _ _ _ _ l b.size (λk j=>b.block k (ok.Hp _ _ _ _ l j).1 (λe=>(ok.Hp _ _ _ _ l j).2 TD)) n.keeps.stay
 ·exact g.below (B:=8) ((VM 8 w).grown b g.size (λk j=>by cases j;exact ah ok.AX ok.gE)) (af _)
 exact n
def lA(E:Env)(F:Nat->Prop)(w:Xa)(q:Except Nat V×(Nat×E.σ))(e:Ending)(w':Xa):Prop :=e=.returned (.tuple #[])/\∃b c i j l,ij w' q.1 (.agg #[c,i])/\dW w' E.rb E.di .nilFunc j l q.2.1 c i/\E.J b q.2.2 w'/\E.mE q.2.2+q.2.1<=400/\(∀k,b k->F k\/w.1.size<=k)/\Fm E.base w w'/\G w'
def sj(E)(ok:gD E)(n t b F f s Z tc T w)(a0:iy n false t=true)(a4:E.di=.pointer (some ⟨b,0,none⟩))(hx:dN w n t (.pointer (some ⟨b,0,none⟩)))(hr:dW w E.rb E.di Z tc T f E.wc E.wi)(hJ:E.J F s w)(g:G w)(hf:E.mE s+f<=400):Calls prog 161 #[.pointer (some ⟨E.rb,0,none⟩),E.Y] w (lA E F w (ev E.N n t none (f,s))):=by
 have Q:=cj hr;have av:=ah ok.gE (aF Q);obtain⟨m,N⟩:∃m,w.alloc (.cells #[Value.pointer (some ⟨E.rb,0,none⟩)] 242)=m:=⟨_,rfl⟩;have z:Xc w m:=by rw[<-N];exact(VM _ _).alloc (af _) _
 have a5:m.1.size=w.1.size+1:=by rw[<-N];simp
 have b0:m.1[w.1.size]?=some (.cells #[.pointer (some ⟨E.rb,0,none⟩)] 242 (0,0)):=by rw[<-N];exact heap_alloc_new w _
 have r:dW m E.rb E.di Z tc T f E.wc E.wi:=(z.block _ Q).trans hr;have ai:=ok.AW _ _ _ _ hJ z.size (λk U=>z.block k (ok.Hp _ _ _ _ hJ U).1) (cT.below z).stay;have g0:G m:=g.below z g.size;have c1:m.cell? ⟨E.rb,1,none⟩=some Z:=by rw[dW]at r;simp[World.cell?,r]
 have z1:m.frozen? ⟨E.rb,1,none⟩=false:=by rw[dW]at r;simp[World.frozen?,r]
 obtain⟨aa,g1,f1⟩:=run_set ok r ai g0 1 E.Y;obtain⟨W,M⟩:∃W,m.setCell ⟨E.rb,1,none⟩ E.Y=W:=⟨_,rfl⟩;have a3:dW W E.rb E.di E.Y tc T f E.wc E.wi:=by
  rw[<-M];rw[dW]at r ⊢;simp[World.setCell,Rq,r]
 have C:W.1[w.1.size]?=some (.cells #[.pointer (some ⟨E.rb,0,none⟩)] 242 (0,0)):=by
  rw[M]at f1;exact f1.si _ _ _ _ b0 (.inr (.inr rfl))
 rw[M]at aa g1 f1;have f0:Fm E.base w W:=(Fm.below z av).trans f1;have ad:St E F (f,s) W:=⟨⟨tc,T,a3⟩,aa,g1,hf⟩;have a7:w.1.size<=W.1.size:=f0.size;have D:Xc W W.drew:=(VM _ W).drew;have ab:Fm E.base W W.drew:=Fm.below D (ah ok.gE (aF ad.lt));have O:=zm E ok n t w.1.size b F (f,s) W.drew a0 a4 (hx.keeps (f0.trans ab).keeps) (ad.below ok D) ((D.block _ (cj C)).trans C);have aC:∀(w3:Xa) (y:Nat->Prop) (c i:Xb),ij w3 (ev E.N n t none (f,s)).1 (.agg #[c,i])->St E y (ev E.N n t none (f,s)).2 w3->(∀k,y k->F k\/W.drew.1.size<=k)->Fm E.base W.drew w3->lA E F w (ev E.N n t none (f,s)) (.returned (.tuple #[])) (((w3.setCell ⟨E.rb,5,none⟩ c).setCell ⟨E.rb,6,none⟩ i).setCell ⟨E.rb,1,none⟩ .nilFunc):=by
  intro w3 y c i S u hF P;obtain⟨I,J,j⟩:=u.run;obtain⟨ak,g4,f4⟩:=run_set ok j u.inv u.g 5 c;have V:dW (w3.setCell ⟨E.rb,5,none⟩ c) E.rb E.di E.Y I J (ev E.N n t none (f,s)).2.1 c E.wi:=by
   rw[dW]at j ⊢;simp[World.setCell,Rq,j]
  obtain⟨am,g5,f5⟩:=run_set ok V ak g4 6 i;have X:dW ((w3.setCell ⟨E.rb,5,none⟩ c).setCell ⟨E.rb,6,none⟩ i) E.rb E.di E.Y I J (ev E.N n t none (f,s)).2.1 c i:=by
   rw[dW]at V ⊢;rw[World.setCell,Rq,V];simp
  obtain⟨ao,g6,f6⟩:=run_set ok X am g5 1 .nilFunc;have a2:dW (((w3.setCell ⟨E.rb,5,none⟩ c).setCell ⟨E.rb,6,none⟩ i).setCell ⟨E.rb,1,none⟩ .nilFunc) E.rb E.di .nilFunc I J (ev E.N n t none (f,s)).2.1 c i:=by
   rw[dW]at X ⊢;rw[World.setCell,Rq,X];simp
  have ff:=(f4.trans f5).trans f6;refine⟨rfl,y,c,i,I,J,S.keeps ff.keeps,a2,ao,u.le,λk U=>?_,((f0.trans ab).trans P).trans ff,g6⟩;rcases hF k U with h|h
  ·exact .inl h
  have:=D.size;exact .inr R5
 have d0:W.cell? ⟨w.1.size,0,none⟩=some (.pointer (some ⟨E.rb,0,none⟩)):=cr C rfl;have O:=O.mono (R':=λe w3=>(∃(c:Int) (i:Xb) (B:Xa),e=.returned (.agg #[.int .i64 c,i])/\(i=.nilIface\/∃t a,i=.iface t a)/\(∃c5 c6,w3.cell? ⟨E.rb,5,none⟩=some c5/\w3.cell? ⟨E.rb,6,none⟩=some c6)/\w3.frozen? ⟨E.rb,5,none⟩=false/\w3.frozen? ⟨E.rb,6,none⟩=false/\B=((w3.setCell ⟨E.rb,5,none⟩ (.int .i64 c)).setCell ⟨E.rb,6,none⟩ i)/\B.cell? ⟨E.rb,1,none⟩=some E.Y/\B.frozen? ⟨E.rb,1,none⟩=false/\lA E F w (ev E.N n t none (f,s)) (.returned (.tuple #[])) (B.setCell ⟨E.rb,1,none⟩ .nilFunc))/\w3.cell? ⟨w.1.size,0,none⟩=some (.pointer (some ⟨E.rb,0,none⟩))) (λe w3 hp=>by
  obtain⟨x,y,rfl,S,u,hF,P⟩:=hp;obtain⟨c,i,rfl,ax⟩:=S.form;have hn:=aC w3 y _ _ S u hF P;obtain⟨I,J,j⟩:=u.run;have b3:=P.si _ _ _ _ ((D.block _ (cj C)).trans C) (.inr (.inr rfl));rw[dW]at j;refine⟨⟨_,_,_,rfl,ax,⟨E.wc,E.wi,?_,?_⟩,?_,?_,rfl,?_,?_,hn⟩,?_⟩
  ·simp[World.cell?,j]
  ·simp[World.cell?,j]
  ·simp[World.frozen?,j]
  ·simp[World.frozen?,j]
  ·simp[World.cell?,World.setCell,Rq,j]
  ·simp[World.frozen?,World.setCell,Rq,j]
  ·simp[World.cell?,b3])
 subst M N;have ay:((w.alloc (.cells #[Value.pointer (some ⟨E.rb,0,none⟩)] 242)).setCell ⟨E.rb,1,none⟩ E.Y)=((w.setCell ⟨E.rb,1,none⟩ E.Y).alloc (.cells #[Value.pointer (some ⟨E.rb,0,none⟩)] 242)):=by
  simp[go_sem,Q]
 rw[ay]at O d0;have HC:=bZ O;generalize lA E F w (ev E.N n t none (f,s))=R at *;unfold Env.Y at *;generalize E.rb=rb at *;generalize E.l=l at *;go_enter func161,ntmps161;go_wp2_with fail;refine wp_region_held_drew (S:=λw'=>w'.cell? ⟨w.1.size,0,none⟩=some (.pointer (some ⟨rb,0,none⟩))) S8 d0 (λhHeld=>?_);refine dP 0 rfl Ti ?_;simp only[Act.put,au,Xd,Xe];refine dP 1 rfl Ti ?_;simp only[Act.put,au,Xd,Xe];refine wpAnyH_ready (rs:=[2]) S8 S5 ?_;refine AllReadyH.cons rfl (λK p=>?_) AllReadyH.nil;go_simp;refine HC.Z.mono ?_;rintro e w3⟨⟨c,i,B,rfl,hi,⟨c5,c6,d5,d6⟩,z5,z6,Y,d1,a8,hR⟩,L⟩;have HR:=bZ hR;refine p.out _ _ L (λ_=>?_);refine wpAnyH_ready (rs:=[3]) S8 S5 ?_;refine AllReadyH.cons rfl (λK p=>?_) AllReadyH.nil;go_simp;refine p.out _ _ L (λ_=>?_);refine wpAnyH_ready (rs:=[4]) S8 S5 ?_;refine AllReadyH.cons rfl (λK p=>?_) AllReadyH.nil;go_simp;refine p.out _ _ L (λ_=>?_);refine wpAnyH_ready (rs:=[5]) S8 S5 ?_;refine AllReadyH.cons rfl (λK p=>?_) AllReadyH.nil;have ap:B.cell? ⟨w.1.size,0,none⟩=some (.pointer (some ⟨rb,0,none⟩)):=by
  rw[Y];simp[go_sem,L,Nat.ne_of_lt Q]
 rcases hi with rfl|⟨t6,a6,rfl⟩
 all_goals
  go_simp;rw[<-Y];refine p.out _ _ ap (λ_=>?_);clear p Y d5 d6 z5 z6;refine wpAnyH_done S8 ?_ _;go_wp2
  go_end0
  exact HR.Z
end
section
open Tryz
def mF(a w):Calls prog 160 #[.pointer (some a)] w λe b=>e=.returned (.pointer (some ⟨w.1.size,0,none⟩))/\dW b w.1.size (.pointer (some a)) .nilFunc (.int .i64 0) .nilIface 400 (.int .i64 0) .nilIface/\Xc w b/\b.1.size=w.1.size+1:=by
 go_enter func160,ntmps160;go_wp2;go_ret;exact⟨rfl,heap_alloc_new w _,(VM _ w).alloc (af _) _,by simp⟩
def I9(b f l y tc n wc wi r x w)(j:dW w b l y tc n f wc wi)(hx:ij w r x):Calls prog 162 #[.pointer (some ⟨b,0,none⟩),x] w λe z=>e=.returned (.tuple #[])/\∃c i,x=.agg #[c,i]/\dW z b l y c i f wc wi/\w.grownBy z (some b)/\z.1.size=w.1.size+1:=by
 obtain⟨c,i,rfl,hi⟩:=hx.form;have u:=cj j;have p:∀o,dW (w.alloc o) b l y tc n f wc wi:=λo=>(VR _ _ _ u).trans j;have D:(w.alloc (.cells #[.int .i64 c,i] 113)).cell? ⟨b,2,none⟩=some tc:=by have h:=p (.cells #[.int .i64 c,i] 113);rw[dW]at h;simp[World.cell?,h]
 have F:(w.alloc (.cells #[.int .i64 c,i] 113)).frozen? ⟨b,2,none⟩=false:=by have h:=p (.cells #[.int .i64 c,i] 113);rw[dW]at h;simp[World.frozen?,h]
 have m:dW ((w.setCell ⟨b,2,none⟩ (.int .i64 c)).alloc (.cells #[.int .i64 c,i] 113)) b l y (.int .i64 c) n f wc wi:=by
  have h:=j;rw[dW]at h ⊢;refine(VR _ _ _ (by simpa[World.setCell]using u)).trans ?_;simp[World.setCell,Rq,h]
 have E:((w.setCell ⟨b,2,none⟩ (.int .i64 c)).alloc (.cells #[.int .i64 c,i] 113)).cell? ⟨b,3,none⟩=some n:=by rw[dW]at m;simp[World.cell?,m]
 have G:((w.setCell ⟨b,2,none⟩ (.int .i64 c)).alloc (.cells #[.int .i64 c,i] 113)).frozen? ⟨b,3,none⟩=false:=by rw[dW]at m;simp[World.frozen?,m]
 have B:dW (((w.setCell ⟨b,2,none⟩ (.int .i64 c)).setCell ⟨b,3,none⟩ i).alloc (.cells #[.int .i64 c,i] 113)) b l y (.int .i64 c) i f wc wi/\w.grownBy (((w.setCell ⟨b,2,none⟩ (.int .i64 c)).setCell ⟨b,3,none⟩ i).alloc (.cells #[.int .i64 c,i] 113)) (some b)/\(((w.setCell ⟨b,2,none⟩ (.int .i64 c)).setCell ⟨b,3,none⟩ i).alloc (.cells #[.int .i64 c,i] 113)).1.size=w.1.size+1:=by
  refine⟨?_,Fr.alloc (dq (dq (VQ _ _) _ _) _ _) _,by simp[World.setCell,World.size_alloc]⟩;rw[dW]at j ⊢;refine(VR _ _ _ (by simpa[World.setCell]using u)).trans ?_;simp[World.setCell,Rq,j]
 have C:=bZ B;clear B hx j p m;rcases hi with rfl|⟨t,a,rfl⟩
 all_goals
  go_enter func162,ntmps162;go_wp2
  go_end0
  exact⟨rfl,_,_,rfl,C.Z⟩
def sn(j f m y tc n r wc wi w)(l:dW w j m y tc n f wc wi)(hx:ij w r (.agg #[wc,wi])):Calls prog 164 #[.pointer (some ⟨j,0,none⟩)] w λe p=>e=.returned (.agg #[wc,wi])/\Xc w p/\p.1.size=w.1.size+1:=by
 have u:=cj l;have b:dW (w.alloc (.cells #[.int .i64 0,.nilIface] 113)) j m y tc n f wc wi:=(VR _ _ _ u).trans l;have z:(w.alloc (.cells #[.int .i64 0,.nilIface] 113)).cell? ⟨j,5,none⟩=some wc:=by rw[dW]at b;simp[World.cell?,b]
 have B:(w.alloc (.cells #[.int .i64 0,.nilIface] 113)).cell? ⟨j,6,none⟩=some wi:=by rw[dW]at b;simp[World.cell?,b]
 obtain⟨c,i,h,hi⟩:=hx.form;cases h;clear l hx b;rcases hi with rfl|⟨t,a,rfl⟩
 all_goals
  go_enter func164,ntmps164;go_wp2;exact VN (v:=.agg #[.int .i64 c,_]) (by simp[results,results164,go_sem]) rfl ⟨rfl,(VM _ w).alloc (af _) _,by simp⟩
end
