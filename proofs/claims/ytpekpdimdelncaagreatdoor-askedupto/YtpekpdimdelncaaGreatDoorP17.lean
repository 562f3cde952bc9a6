/- Out of U13. -/
import Derived.Test.YtpekpdimdelncaaGreatDoorP15
import Derived.BigQuiet
set_option linter.unusedSimpArgs false
set_option linter.unusedVariables false
set_option maxRecDepth 100000
set_option maxHeartbeats 4000000
set_option linter.defProp false
namespace Go.Proofs.YtpekpdimdelncaaGreatDoor
open Go.RowKit Go.Shelf
section
open bY
open Tryz
def Ng(E:Env)(n:Nat)(t:bY.T)(it:Option V)(st:Nat×E.σ):Except Nat V×(Nat×E.σ) :=match ev E.N n (t.cG 0) it st with
 |(.ok v,s)=>(.ok v,s)
 |(.error e,s)=>if e=7\/e=8\/e=9\/e=10 then ev E.N n (t.cG 1) it s else(.error e,s)
def uC(w':QV)(e p1 j n b b0 m c:Nat)(l:Addr)(xi:Xa):Prop :=w'.cell? ⟨e,0,none⟩=some (.pointer (some ⟨n,0,none⟩))/\w'.cell? ⟨p1,0,none⟩=some (.pointer (some ⟨b,0,none⟩))/\w'.cell? ⟨j,0,none⟩=some xi/\w'.cell? ⟨b,4,none⟩=some (.slice (some ⟨b0,0,none⟩) m c)/\w'.cell? ⟨b0,1,none⟩=some (.pointer (some l))
def lB(w w':QV):Prop :=∀(k:Nat) (cs:Array Xa) (t:TypeId) (fz:Nat×Nat),w.1[k]?=some (.cells cs t fz)->Hm t->w'.1[k]?=some (.cells cs t fz)
def lB.keeps{w w':QV}(h:lB w w'):cK w w':=λk cs t fz b e=>h k cs t fz b (.inl e)
def lB.below{w w':QV}(h:Xb w w'):lB w w':=λk _ _ _ b _=>(h.block k (cj b)).trans b
def Co(E)(ok:gh E)(n)(ih:gJ E n)(t it b b0 m c i M xi F st w W)(hlen:t.parts.length=2)(N:ib n it.isSome (t.cG 0)=true)(hx:dI w (n+1) t (.pointer (some ⟨b,0,none⟩)))(nd:Node w n t b i (some ⟨b0,0,none⟩) m c)(V:∀w',cK w w'->w'.cell? ⟨b0,1,none⟩=some (.pointer (some M)))(hi:gI w it xi)(h:St E F st w)(O:Xb w W)(ad:W.1.size=w.1.size+1+1+1)(d0:W.1[w.1.size]?=some (.cells #[.pointer (some ⟨E.rb,0,none⟩)] 242 (0,0)))(d1:W.1[w.1.size+1]?=some (.cells #[.pointer (some ⟨b,0,none⟩)] 121 (0,0)))(d2:W.1[w.1.size+1+1]?=some (.cells #[xi] 111 (0,0))):Calls prog 201 #[.func (.func 277) #[] #[.pointer (some ⟨w.1.size,0,none⟩),.pointer (some ⟨w.1.size+1,0,none⟩),.pointer (some ⟨w.1.size+1+1,0,none⟩)]] W λe w'=>∃x p,e=.returned x/\g_ w' (ev E.N n (t.cG 0) it st).1 x/\St E p (ev E.N n (t.cG 0) it st).2 w'/\(∀k,p k->F k\/w.1.size<=k)/\Fm E.base w w'/\(∀w3,lB w' w3->uC w3 w.1.size (w.1.size+1) (w.1.size+1+1) E.rb b b0 m c M xi):=by
 have K:=ah ok.gj (aE h.lt);obtain⟨j,z⟩:∃j,W.alloc (.cells #[.int .i64 0,.nilIface] 113)=j:=⟨_,rfl⟩;have y:Xb W j:=by rw[<-z];exact(Uz _ _).alloc (af _) _
 have C:=O.trans (y.mono RM);have ab:j.1.size=W.1.size+1:=by rw[<-z];simp
 have l:=cK.below C;have e0:=(y.block _ (cj d0)).trans d0;have e1:=(y.block _ (cj d1)).trans d1;have e2:=(y.block _ (cj d2)).trans d2;have I:j.1[W.1.size]?=some (.cells #[.int .i64 0,.nilIface] 113 (0,0)):=by rw[<-z];exact heap_alloc_new W _
 have h1:=Hu E ok n ih t it b w.1.size (w.1.size+1) (w.1.size+1+1) xi F st j hlen N (hx.keeps l) (hi.keeps l) (h.below ok C) e0 e1 e2;have Q:Calls prog 277 #[.pointer (some ⟨w.1.size,0,none⟩),.pointer (some ⟨w.1.size+1,0,none⟩),.pointer (some ⟨w.1.size+1+1,0,none⟩)] (W.alloc (.cells #[.int .i64 0,.nilIface] 113)) λe w'=>w'.1[W.1.size]?=some (.cells #[.int .i64 0,.nilIface] 113 (0,0))/\PW (Ψ E F j (ev E.N n (t.cG 0) it st)) e w':=by
  rw[z];refine h1.mono λe w3 L=>⟨?_,L⟩;obtain⟨_,⟨_,_,_,_,hf⟩,_⟩:=L;exact hf.rQ _ _ _ _ I (.inr (.inl rfl))
 refine(uy 277 (.inr rfl) _ W _ Q).mono ?_;rintro e w'⟨r,x,w2,rfl,⟨rfl,p,X,J,D⟩,B,R⟩;have P:=(Fm.below C K).trans D;have S:∀k,p k->F k\/w.1.size<=k:=λk l=>by
  rcases J k l with h'|h'
  ·exact .inl h'
  exact .inr RM
 have U:¬p W.1.size:=λl=>by
  rcases J _ l with h'|h'
  ·have:=(ok.Gt _ _ _ _ h.inv h').1;omega
  omega
 have G:=P.own B RM K;have keep:∀k cs ty fz,j.1[k]?=some (.cells cs ty fz)->Hm ty->k≠W.1.size->w'.1[k]?=some (.cells cs ty fz):=λk cs ty fz l Z T=>by
  have h':=D.rQ k cs ty fz l Z;exact(B.block k (cj h') (λe=>T Sv)).trans h'
 have f0:=keep _ _ _ _ e0 (.inr (.inr rfl)) RM;have f1:=keep _ _ _ _ e1 (.inl (.inr (.inr rfl))) RM;have f2:=keep _ _ _ _ e2 (.inl (.inl rfl)) RM;have aa:=h.lt;have Y:=(kz B (λcs ty fz hb hi=>by
  rw[D.rQ _ _ _ _ I (.inr (.inl rfl))]at hb;cases hb;rcases hi with h|h|h<;>cases h)).stay
 exact⟨x,p,rfl,R,X.grown ok B RM U (by have:=h.g.size;omega) Y,S,G,λw3 u=>⟨by simp[World.cell?,u _ _ _ _ f0 (.inr (.inr rfl))],by simp[World.cell?,u _ _ _ _ f1 (.inl (.inr (.inr rfl)))],by simp[World.cell?,u _ _ _ _ f2 (.inl (.inl rfl))],(nd.cells w3 (G.keeps.trans u.keeps)).2.2.2.2,V w3 (G.keeps.trans u.keeps)⟩⟩
def KP(E)(ok:gh E)(n)(ih:gJ E n)(t it x xi F st w)(hlen:t.parts.length=2)(h0:∀j,j<t.parts.length->ib n it.isSome (t.cG j)=true)(hx:dI w (n+1) t x)(hi:gI w it xi)(h:St E F st w):Calls prog 247 #[.pointer (some ⟨E.rb,0,none⟩),x,xi] w (PW (Ψ E F w (Ng E n t it st))):=by
 obtain⟨b,i,o,m,c,rfl,nd⟩:=hx.node;obtain⟨b0,q1,rfl,a7,bd⟩:=nd.cG 1 RM;have hm:=nd.len;have u:(1:Int)<(m:Int):=RM;have ad:=hi.form;obtain⟨W,L⟩:∃W,((w.alloc (.cells #[.pointer (some ⟨E.rb,0,none⟩)] 242)).alloc (.cells #[.pointer (some ⟨b,0,none⟩)] 121)).alloc (.cells #[xi] 111)=W:=⟨_,rfl⟩;have a4:Xb w W:=by rw[<-L];exact((((Uz _ w).alloc (af _) _).alloc R2 _).alloc R5 _)
 have ay:W.1[w.1.size]?=some (.cells #[.pointer (some ⟨E.rb,0,none⟩)] 242 (0,0)):=by
  rw[<-L];exact((UE _ _ _ R5).trans (UE _ _ _ R2)).trans (heap_alloc_new w _)
 have aC:W.1[w.1.size+1]?=some (.cells #[.pointer (some ⟨b,0,none⟩)] 121 (0,0)):=by
  rw[<-L];refine(UE _ _ _ R2).trans ?_;have:=heap_alloc_new (w.alloc (.cells #[.pointer (some ⟨E.rb,0,none⟩)] 242)) (.cells #[.pointer (some ⟨b,0,none⟩)] 121)
  rwa [World.size_alloc]at this
 have a0:W.1[w.1.size+1+1]?=some (.cells #[xi] 111 (0,0)):=by
  rw[<-L];have:=heap_alloc_new ((w.alloc (.cells #[.pointer (some ⟨E.rb,0,none⟩)] 242)).alloc (.cells #[.pointer (some ⟨b,0,none⟩)] 121)) (.cells #[xi] 111)
  rwa [World.size_alloc,World.size_alloc]at this
 have bc:W.1.size=w.1.size+1+1+1:=by rw[<-L];simp
 have hT:=Co E ok n ih t it b b0 m c i q1 xi F st w W hlen (h0 0 RM) hx nd a7 hi h a4 bc ay aC a0;subst L;have IH:=bZ ih;have HI:=bZ hi;have av:=bZ bd;have ND:=bZ nd;have bj:E.base<=w.1.size:=ah ok.gj (aE h.lt);unfold Ng;generalize ev E.N n (t.cG 0) it st=q at hT ⊢;obtain⟨r,J⟩:=q;generalize a8:E.rb=rb at hT;have ap:=bZ a8;have V:=bZ hT;cases r with
 |ok v1 =>
  show Calls _ _ _ _ (PW (Ψ E F w (.ok v1,J)));rcases ad with rfl|⟨tx,ax,rfl⟩
  all_goals
   go_enter func247,ntmps247;go_wp2_with fail;refine V.Z.mono ?_;rintro e w1⟨x,T,rfl,M,z,hF,O,_⟩;rcases M with⟨v,y,hv,rfl,hval⟩|⟨c',N,_⟩
   ·cases hv;obtain⟨t1,a1,rfl⟩:=hval.one;have p:∀o,Xb w1 (w1.alloc o):=λo=>(Uz _ w1).alloc (af _) o;have X:=bZ (λo=>p_ (r:=.ok v1) (w1.alloc o) (.inl ⟨v1,_,rfl,rfl,hval.keeps (cK.below (p o))⟩));go_wp2_with fail;refine(X.Z _).mono ?_;rintro e w3 Q;have U:=bZ (PW.pS ok (z.below ok (p (Obj.cells #[.int .i64 0,.iface t1 a1] 113))) hF (O.trans (Fm.below (p _) (ah ok.gj (aE z.lt)))) Q (λc hc=>by cases hc));obtain⟨y2,rfl,bf⟩:=Q.2.1 v1 rfl;obtain⟨t2,a2,rfl⟩:=bf.one;go_wp2_with fail;go_ret;exact U.Z
   cases N
 |error e1 =>
  by_cases he:e1=7\/e1=8\/e1=9\/e1=10
  ·show Calls _ _ _ _ (PW (Ψ E F w (if e1=7\/e1=8\/e1=9\/e1=10 then ev E.N n (t.cG 1) it J else(.error e1,J))));rw[ag he];generalize R:ev E.N n (t.cG 1) it J=fin;have ao:=bZ R;rcases he with rfl|rfl|rfl|rfl
   all_goals
    rcases ad with rfl|⟨tx,ax,rfl⟩
    all_goals
     go_enter func247,ntmps247;go_wp2_with fail;refine V.Z.mono ?_;rintro e w1⟨x,T,rfl,M,z,hF,O,a6⟩;rcases M with⟨v,y,hv,_⟩|⟨c',N,rfl,Z,aa⟩
     ·cases hv
     cases N;have ai:=bZ a6;go_wp2_with fail;generalize bh:w1.alloc _=w4;have p:Xb w1 w4.drew:=by rw[<-bh];exact((Uz w1.1.size w1).alloc (af _) _).drew
     have a9:=z.below ok p;have ab:=O.trans (Fm.below p (ah ok.gj (aE z.lt)));have am:=IH.Z (t.cG 1) it _ _ T J w4.drew (h0 1 RM) (av.Z.keeps ab.keeps) (HI.Z.keeps ab.keeps) a9;rw[ao.Z,ap.Z]at am;have HC:=bZ (am.mono (R':=λe w3=>PW (Ψ E F w fin) e w3/\uC w3 w.1.size (w.1.size+1) (w.1.size+1+1) rb b b0 m c q1 _) (λe w3 P=>⟨PW.after hF ab P,by
      obtain⟨_,⟨_,_,_,_,hf⟩,_⟩:=P;exact ai.Z w3 (λk cs ty fz hk ht=>hf.rQ k cs ty fz (lB.below p k cs ty fz hk ht) ht)⟩))
     have a5:=ai.Z w4.drew (lB.below p);refine wp_region_held_drew (S:=λw'=>uC w' w.1.size (w.1.size+1) (w.1.size+1+1) rb b b0 m c q1 _) RO a5 (λhHeld=>?_);refine wpAnyH_take (i:=0) (v:=?_) rfl RO RO RO (λ_ _ _ h=>h) (Or.inl ⟨by rfl,?_⟩) R9 ?_
     rotate_left
     ·intro w' l;obtain⟨B,C,D,G,I⟩:=l;go_simp
      try rw[ag u]
      try with_reducible rfl
     simp only[Act.put,ar,Xc,Xd];refine wpAnyH_take (i:=1) (v:=?_) rfl RO RO RO (λ_ _ _ h=>h) (Or.inl ⟨by rfl,?_⟩) R9 ?_
     rotate_left
     ·intro w' l;obtain⟨B,C,D,G,I⟩:=l;go_simp
      try rw[ag u]
      try with_reducible rfl
     simp only[Act.put,ar,Xc,Xd];refine wpAnyH_take (i:=2) (v:=?_) rfl RO RO RO (λ_ _ _ h=>h) (Or.inl ⟨by rfl,?_⟩) R9 ?_
     rotate_left
     ·intro w' l;obtain⟨B,C,D,G,I⟩:=l;go_simp
      try rw[ag u]
      try with_reducible rfl
     simp only[Act.put,ar,Xc,Xd];refine wpAnyH_take (i:=3) (v:=?_) rfl RO RO RO (λ_ _ _ h=>h) (Or.inl ⟨by rfl,?_⟩) R9 ?_
     rotate_left
     ·intro w' l;obtain⟨B,C,D,G,I⟩:=l;go_simp
      try rw[ag u]
      try with_reducible rfl
     simp only[Act.put,ar,Xc,Xd];refine wpAnyH_take (i:=4) (v:=?_) rfl RO RO RO (λ_ _ _ h=>h) (Or.inl ⟨by rfl,?_⟩) R9 ?_
     rotate_left
     ·intro w' l;obtain⟨B,C,D,G,I⟩:=l;go_simp
      try rw[ag u]
      try with_reducible rfl
     simp only[Act.put,ar,Xc,Xd];refine wpAnyH_take (i:=5) (v:=?_) rfl RO RO RO (λ_ _ _ h=>h) (Or.inl ⟨by rfl,?_⟩) R9 ?_
     rotate_left
     ·intro w' l;obtain⟨B,C,D,G,I⟩:=l;go_simp
      try rw[ag u]
      try with_reducible rfl
     simp only[Act.put,ar,Xc,Xd];refine wpAnyH_take (i:=6) (v:=?_) rfl RO RO RO (λ_ _ _ h=>h) (Or.inl ⟨by rfl,?_⟩) R9 ?_
     rotate_left
     ·intro w' l;obtain⟨B,C,D,G,I⟩:=l;go_simp
      try rw[ag u]
      try with_reducible rfl
     simp only[Act.put,ar,Xc,Xd];refine wpAnyH_take (i:=7) (v:=?_) rfl RO RO RO (λ_ _ _ h=>h) (Or.inl ⟨by rfl,?_⟩) R9 ?_
     rotate_left
     ·intro w' l;obtain⟨B,C,D,G,I⟩:=l;go_simp
      try rw[ag u]
      try with_reducible rfl
     simp only[Act.put,ar,Xc,Xd];refine wpAnyH_ready (rs:=[8]) RO R2 ?_;refine AllReadyH.cons rfl (λK Y=>?_) AllReadyH.nil;go_simp;refine HC.Z.mono ?_;rintro e w3⟨P,ak⟩;have R:=P;obtain⟨r3,_,⟨v3,y3,_,rfl,bg⟩|⟨c3,_,rfl,_⟩⟩:=P
     ·obtain⟨t3,a3,rfl⟩:=bg.one;have U:=bZ R;refine Y.out _ _ ak (λ_=>?_);refine wpAnyH_ready (rs:=[9]) RO R2 ?_;refine AllReadyH.cons rfl (λK Y=>?_) AllReadyH.nil;go_simp;refine Y.out _ _ ak (λ_=>?_);refine wpAnyH_done RO ?_ _;go_wp2_with fail;go_ret;exact U.Z
     exact⟨rfl,R⟩
  show Calls _ _ _ _ (PW (Ψ E F w (if e1=7\/e1=8\/e1=9\/e1=10 then ev E.N n (t.cG 1) it J else(.error e1,J))));rw[ae he];have n7:((e1:Int)==7)=false:=R7;have n8:((e1:Int)==8)=false:=R7;have n9:((e1:Int)==9)=false:=R7;have bk:((e1:Int)==10)=false:=R7;rcases ad with rfl|⟨tx,ax,rfl⟩
  all_goals
   go_enter func247,ntmps247;go_wp2_with fail;refine V.Z.mono ?_;rintro e w1⟨x,T,rfl,M,z,hF,O,_⟩;rcases M with⟨v,y,hv,_⟩|⟨c',N,rfl,Z,aa⟩
   ·cases hv
   cases N;have p:∀o,Xb w1 (w1.alloc o):=λo=>(Uz _ w1).alloc (af _) o;have X:=bZ (λo=>p_ (r:=.error e1) (w1.alloc o) (.inr ⟨e1,rfl,rfl,Z,aa⟩));go_wp2_with fail;refine(X.Z _).mono ?_;rintro e w3 Q;obtain rfl:=Q.2.2 e1 rfl;exact⟨rfl,PW.pS ok (z.below ok (p (Obj.cells #[.int .i64 (e1:Int),.nilIface] 113))) hF (O.trans (Fm.below (p _) (ah ok.gj (aE z.lt)))) Q (λc hc=>by cases hc;exact⟨Z,aa⟩)⟩
end
section
open bY
open Tryz
def lG(w:QV)(n:Nat)(q:Option (V×a_))(e:Ending)(w':QV):Prop :=Xb w w'/\((∃v y t a,∃r:ba,q=some (v,r.1.1)/\e=.returned (.tuple #[y,.string r,.bool true])/\y=.iface t a/\cT w' n v y) \/∃y,∃r:ba,q=none/\e=.returned (.tuple #[y,.string r,.bool false])/\(y=.nilIface\/∃t a,y=.iface t a))
def xH(p):∀(l:a_),l.dropWhile p=l.drop (dC p l)
 |[]=>rfl
 |c :: r=>by
  by_cases h:p c=true
  ·have:=xH p r;simp[dC,QU,h,this]
  have h':p c=false:=Sf;simp[dC,QU,h']
def IZ(c):([45,48,49,50,51,52,53,54,55,56,57]:a_).contains c=mu c:=by
 have b:((List.range 256).all λn=>([45,48,49,50,51,52,53,54,55,56,57]:a_).contains (UInt8.ofNat n)==mu (UInt8.ofNat n))=true:=RO;have h:=P_.1 b c.toNat (List.mem_range.2 c.toNat_lt);simpa using h
def I0(l):Lib.trimLeftS l [45,48,49,50,51,52,53,54,55,56,57]=l.drop (dC mu l):=by
 unfold Lib.trimLeftS;rw[show(λc=>([45,48,49,50,51,52,53,54,55,56,57]:a_).contains c)=mu from funext IZ];exact xH _ l
def ze(s w):Calls prog 129 #[.string s,.string ⟨#[45,48,49,50,51,52,53,54,55,56,57]⟩] w λe w'=>(∃r:ba,e=.returned (.string r)/\r.size=s.size-dC mu s.1.1)/\Xb w w':=by
 refine(Any.strings_TrimLeft_laid lays161 RO s ⟨#[45,48,49,50,51,52,53,54,55,56,57]⟩ w RZ (ascii_of_all RZ)).mono ?_;rintro e w'⟨rfl,b⟩;refine⟨⟨_,rfl,?_⟩,b⟩;have:=I0 s.1.1;show(Lib.trimLeftS s.1.1 [45,48,49,50,51,52,53,54,55,56,57]).toArray.size=_;rw[this,Rb,aO,UB]
def AJ(a b:UInt8):(a==b)=(b==a):=by
 by_cases h:a=b
 ·rw[h]
 rw[aw.2 h,aw.2 (Ne.symm h)]
def iH(l c):Lib.hasPrefix l [c]=(l.head?==some c):=by
 cases l with
 |nil=>rfl
 |cons d r=>simp[Lib.hasPrefix,List.isPrefixOf,AJ]
def below_drewM(w k):Xb w (w.drewN k):=⟨rfl,rfl,rfl,af _,λ_ _=>rfl⟩
def oX(s:ba)(k):(s.extract k s.size).1.1=s.1.1.drop k:=by
 rw[UG,Qb (by rw[aO,UB];exact af _)]
def I1(s:ba)(k):(s.extract 0 k).1.1=s.1.1.take k:=by
 rw[UG];simp
def pG(s:ba)(a b)(h:b<=s.size)(e:a<=b):(s.extract a b).size=b-a:=by
 rw[UB,UG,P7,aO,<-UB];omega
def CR(s)(n:Nat)(w)(hs:s.size<=281474976710656)(l:s.1.1.head?=some 39):Calls prog 86 #[.string s,.int .i64 n] w (lG w n (te n s.1.1)):=by
 have z:te n s.1.1=oz s.1.1:=by unfold te;rw[ag l]
 have B:Lib.hasPrefix s.1.1 [39]=true:=by rw[iH,l];rfl
 rw[z];generalize p:lG w n (oz s.1.1)=R;have b:=qw s w RM;cases m:dM s.1.1 with
 |none =>
  rw[m]at b;have b:Calls prog 127 #[.string s] w λe w'=>e=.returned (.tuple #[.string ⟨#[]⟩,.bool false])/\w'=w:=b;have u:=bZ b;have y:R (.returned (.tuple #[.nilIface,.string ⟨#[]⟩,.bool false])) w:=by
   rw[<-p];refine⟨Uz _ _,.inr ⟨_,_,?_,rfl,.inl rfl⟩⟩;unfold oz;rw[m];rfl
  clear b p m l z;go_enter func86,ntmps86;go_wp2_with(first|(go_at_call 126;refine(strings_HasPrefix _ _ _).mono ?_;rintro e w' ⟨rfl,rfl⟩;try rw[B])|(go_at_call 127;refine u.Z.mono ?_;rintro e w' ⟨rfl,rfl⟩));exact UA (v:=.tuple #[.nilIface,.string ⟨#[]⟩,.bool false]) S9 rfl y
 |some k =>
  rw[m]at b;have hl:∃t,s.1.1=39 :: t/\eG 31 t=some k:=by
   cases hd:s.1.1 with
   |nil=>rw[hd]at l;cases l
   |cons c t =>
    rw[hd]at l m;cases l;exact⟨t,rfl,by simpa[dM]using m⟩
  obtain⟨t,D,C⟩:=hl;obtain⟨L,G,I,J⟩:=mU 31 t k C;have K:s.size=t.length+1:=by rw[UB,D];rfl
  obtain⟨j,r⟩:∃j,s.extract 1 (k+1)=j:=⟨_,rfl⟩;have N:j.size=k:=by rw[<-r,pG s 1 (k+1) RM RM];omega
  have E:j.1.1=(s.1.1.drop 1).take k:=by rw[<-r,UG];rfl
  have b:Calls prog 127 #[.string s] w λe w'=>e=.returned (.tuple #[.string j,.bool true])/\w'=w:=by rw[<-r];exact b
  have u:=bZ b;have y:∀w2,Xb w w2->R (.returned (.tuple #[.iface 215 (.string j),.string (s.extract (k+2) s.size),.bool true])) w2:=λw2 F=>by
   rw[<-p];refine⟨F,.inl ⟨vw j.1.1,_,_,_,_,?_,rfl,rfl,cT.leaf (.inr ⟨j,rfl,rfl,by omega⟩)⟩⟩;unfold oz;rw[m,oX,E];rfl
  have M:k+2<=s.size:=RM;clear b p m l z C J I E r D K G;go_enter func86,ntmps86;go_wp2_with(first|(go_at_call 126;refine(strings_HasPrefix _ _ _).mono ?_;rintro e w' ⟨rfl,rfl⟩;try rw[B])|(go_at_call 127;refine u.Z.mono ?_;rintro e w' ⟨rfl,rfl⟩))
  go_quiet (fail)
  go_wp2_with fail;exact UA (v:=.tuple #[.iface 215 (.string j),.string (s.extract (k+2) s.size),.bool true]) S9 rfl (y _ (below_drewM _ _))
def FF(s)(n:Nat)(w)(g:G w)(hs:s.size<=281474976710656)(h1:s.1.1.head? ≠ some 39)(h2:s.1.1.head? ≠ some 123):Calls prog 86 #[.string s,.int .i64 n] w (lG w n (te n s.1.1)):=by
 have K:te n s.1.1=rdNum s.1.1:=by unfold te;rw[ae h1,ae h2]
 have O:Lib.hasPrefix s.1.1 [39]=false:=by rw[iH];exact aw.2 h1
 have P:Lib.hasPrefix s.1.1 [123]=false:=by rw[iH];exact aw.2 h2
 rw[K];generalize l:lG w n (rdNum s.1.1)=R;have I:dC mu s.1.1<=s.size:=by rw[UB];exact mN _ _
 have hT:=ze s w;unfold rdNum at l;rw[<-I1]at l;obtain⟨m,J⟩:∃m,dC mu s.1.1=m:=⟨_,rfl⟩;rw[J]at I hT l;have E:=λ(w1:QV) (j:Xb w w1)=>ou (s.extract 0 m) w1 (g.below j g.size) (by rw[pG s 0 m I RM];omega);have F:∀w2,Xb w w2->R (.returned (.tuple #[.iface 219 (.int .i64 ((dT (s.extract 0 m).1.1).getD 0)),.string (s.extract m s.size),.bool (dT (s.extract 0 m).1.1).isSome])) w2:=λw2 j=>by
  rw[<-l];refine⟨j,?_⟩;cases N:dT (s.extract 0 m).1.1 with
  |none=>exact .inr ⟨_,_,rfl,rfl,.inr ⟨_,_,rfl⟩⟩
  |some i =>
   have y:=iy _ _ (jd N).2;refine .inl ⟨vn i,_,_,_,_,?_,rfl,rfl,cT.leaf (.inl ⟨i,rfl,rfl,y.1,y.2⟩)⟩;rw[oX];rfl
 have D:=bZ hT;have B:=bZ E;have z:=bZ F;clear hT E F l K h1 h2 J;go_enter func86,ntmps86;go_wp2_with(first|(go_at_call 126;refine(strings_HasPrefix _ _ _).mono ?_;rintro e w' ⟨rfl,rfl⟩;try rw[O];try rw[P]));refine D.Z.mono ?_;rintro e w1⟨⟨r,rfl,y⟩,u⟩;have M:s.size-(s.size-m)=m:=RM;have hi:(s.size:Int)-((s.size-m:Nat):Int)=(m:Int):=RM;have C:=bZ (B.Z w1 u);clear D B;go_wp2_with fail
 try simp only[M,hi]
 refine C.Z.mono ?_;rintro e w2⟨rfl,L⟩;have j:=u.trans (L.mono u.size);have p:=bZ (λk=>z.Z (w2.drewN k) (j.trans ((below_drewM w2 k).mono j.size)));clear C z;generalize (dT (s.extract 0 m).1.1).getD 0=x at p ⊢;generalize (dT (s.extract 0 m).1.1).isSome=b at p ⊢;go_wp2_with fail
 go_quiet (fail)
 go_wp2_with fail;exact UA (v:=.tuple #[.iface 219 (.int .i64 x),.string (s.extract m s.size),.bool b]) S9 rfl (p.Z _)
end
section
open bY
open Tryz
def CS(n:Nat):Prop:=∀(s:ba) (w:QV),G w->s.size<=281474976710656->Calls prog 86 #[.string s,.int .i64 n] w (lG w n (te n s.1.1))
def jD(n:Nat)(l:a_):Option (V×a_):=match n with|0=>none|m+1=>oC (te m) l
def zf(n:Nat):Prop:=∀(s:ba) (w:QV),G w->s.size<=281474976710656->Calls prog 128 #[.string s,.int .i64 n] w (lG w n (jD n s.1.1))
def CU:zf 0:=by
 intro s w g hs;have b:lG w 0 (jD 0 s.1.1) (.returned (.tuple #[.nilIface,.string ⟨#[]⟩,.bool false])) w:=⟨Uz _ _,.inr ⟨_,_,rfl,rfl,.inl rfl⟩⟩;generalize lG w 0 _=R at b ⊢;go_enter func128,ntmps128;go_wp2_with fail;exact UA (v:=.tuple #[.nilIface,.string ⟨#[]⟩,.bool false]) SB rfl b
def CV(n)(hi:zf n)(s w)(g:G w)(hs:s.size<=281474976710656)(j:s.1.1.head?=some 123):Calls prog 86 #[.string s,.int .i64 n] w (lG w n (te n s.1.1)):=by
 have B:Lib.hasPrefix s.1.1 [39]=false:=by rw[iH,j];rfl
 have C:Lib.hasPrefix s.1.1 [123]=true:=by rw[iH,j];rfl
 have h1:1<=s.size:=by
  rw[UB];cases hd:s.1.1 with
  |nil=>rw[hd]at j;cases j
  |cons c t=>simp
 have D:te n s.1.1=jD n (s.extract 1 s.size).1.1:=by
  rw[oX];unfold te jD;rw[ae (by rw[j];intro e;cases e),ag j];cases n<;>rfl
 have l:=bZ (hi _ w g (by rw[pG s 1 s.size (af _) h1];omega));rw[D];generalize u:lG w n _=R at l ⊢;have z:∀e w',R e w'->∃y,∃r:ba,∃b,e=.returned (.tuple #[y,.string r,.bool b]):=λe w' h=>by
  rw[<-u]at h;rcases h.2 with⟨_,y,_,_,r,_,h2,_⟩|⟨y,r,_,h2,_⟩
  ·exact⟨y,r,true,h2⟩
  exact⟨y,r,false,h2⟩
 go_enter func86,ntmps86;go_wp2_with(first|(go_at_call 126;refine(strings_HasPrefix _ _ _).mono ?_;rintro e w' ⟨rfl,E⟩;obtain rfl:=E.symm;try rw[B];try rw[C]));refine l.Z.mono ?_;intro e w1 m;obtain⟨y,r,b,rfl⟩:=z e w1 m;have p:=bZ m;go_wp2_with fail;exact UA (v:=.tuple #[y,.string r,.bool b]) S9 rfl p.Z
def xI(n)(hi:zf n):CS n:=by
 intro s w g hs;by_cases h1:s.1.1.head?=some 39
 ·exact CR s n w hs h1
 by_cases h2:s.1.1.head?=some 123
 ·exact CV n hi s w g hs h2
 exact FF s n w g hs h1 h2
structure Il(w:QV)(m:Nat)(fin:Option (V×a_))(t:ba)(v:Xa)(ys:List Xa)(acc:List V)(wr:QV):Prop where
 mB:nf wr w.1.size v ys
 qd:iW wr m acc ys
 len:acc.length<=12
 eh:Xb w wr
 rest:iL (te m) (12-acc.length) t.1.1 acc=fin
 size:t.size<=281474976710656
def CW(m)(hm:m<=2)(ih:CS m):zf (m+1):=by
 intro s w g hs;have IH:=bZ ih;generalize Z:lG w (m+1) (jD (m+1) s.1.1)=R;have bc:∀wr,Xb w wr->jD (m+1) s.1.1=none->R (.returned (.tuple #[.nilIface,.string ⟨#[]⟩,.bool false])) wr:=λwr X h=>by
  rw[<-Z];exact⟨X,.inr ⟨_,_,h,rfl,.inl rfl⟩⟩
 by_cases C:s.1.1.head?=some 125
 ·have hp:Lib.hasPrefix s.1.1 [125]=true:=by rw[iH,C];rfl
  have h1:1<=s.size:=by
   rw[UB];cases hd:s.1.1 with
   |nil=>rw[hd]at C;cases C
   |cons c t=>simp
  have hq:jD (m+1) s.1.1=some (vl [],(s.extract 1 s.size).1.1):=by
   rw[oX];show oC _ _=_;unfold oC;rw[ag C]
  have bd:∀(wr:QV) (b:Nat),Xb w wr->wr.1[b]?=some (.cells #[] 111 (0,0))->R (.returned (.tuple #[.iface 248 (.slice (some ⟨b,0,none⟩) 0 0),.string (s.extract 1 s.size),.bool true])) wr:=λwr b X hb=>by
   rw[<-Z];exact⟨X,.inl ⟨vl [],_,_,_,_,hq,rfl,rfl,.inr ⟨[],_,[],rfl,rfl,.inr ⟨b,0,#[],(0,0),rfl,af _,hb,af _,λi hi=>by simp at hi⟩,rfl,by simp,λi u y hu=>by cases hu⟩⟩⟩
  have Q:=bZ bd;go_enter func128,ntmps128;go_wp2_with(first|(go_at_call 126;refine(strings_HasPrefix _ _ _).mono ?_;rintro e w' ⟨rfl,hw⟩;obtain rfl:=hw.symm;try rw[hp]))
  go_region_with fail
  all_goals
   go_wp2_with fail;exact UA (v:=.tuple #[.iface 248 (.slice (some ⟨w.1.size,0,none⟩) 0 0),.string (s.extract 1 s.size),.bool true]) SB rfl (Q.Z _ _ (((Uz _ w).drew).alloc (af _) _) (heap_alloc_new _ _))
 have hp:Lib.hasPrefix s.1.1 [125]=false:=by rw[iH];exact aw.2 C
 have hq:jD (m+1) s.1.1=iL (te m) 12 s.1.1 []:=by
  show oC _ _=_;unfold oC;rw[ae C]
 have HS:Hid (Il w m (jD (m+1) s.1.1) s (.slice none 0 0) [] [] w):=bZ ⟨.inl ⟨rfl,rfl⟩,⟨rfl,λi u y hu=>by cases hu⟩,by simp,Uz _ _,hq.symm,hs⟩;have K:=bZ bc;have HR:=bZ Z;go_enter func128,ntmps128;go_wp2_with(first|(go_at_call 126;refine(strings_HasPrefix _ _ _).mono ?_;rintro e w' ⟨rfl,hw⟩;obtain rfl:=hw.symm;try rw[hp]))
 go_loopw [0,7] (λtx v wr=>∃(t:ba) (ys:List Xa) (l:List V),tx=.string t/\Hid (Il w m (jD (m+1) s.1.1) t v ys l wr)) (λtx v _=>12-(match v with|.slice _ k _=>k|_=>0))
 case atStart=>exact⟨s,[],[],rfl,HS⟩
 case round =>
  obtain⟨t,ys,l,rfl,j⟩:=hrel;have ad:l.length=ys.length:=j.Z.qd.1;obtain⟨oa,ca,rfl⟩:=j.Z.mB.row.len;by_cases bm:ys.length<12
  ·have HC:=bZ (IH.Z t wr (g.below j.Z.eh g.size) j.Z.size);go_wp2_with fail;refine HC.Z.mono ?_;rintro e w3⟨L,⟨D,y,ty,z,r,I,rfl,rfl,hv⟩|⟨y,r,I,rfl,hy⟩⟩
   ·have Y:=j.Z.eh.trans (L.mono j.Z.eh.size);obtain⟨k,O⟩:∃k,12-l.length=k+1:=⟨11-l.length,by omega⟩;by_cases hr:r.1.1=[]
    ·have G:jD (m+1) s.1.1=none:=by
      have h:=j.Z.rest;rw[O]at h;unfold iL at h;rw[I,hr]at h;exact h.symm
     have bf:r=⟨#[]⟩:=by rw[<-Lib.mk_data r,hr]
     subst bf;have E:=bZ (K.Z w3 Y G);go_wp2_with fail;exact UA (v:=.tuple #[.nilIface,.string ⟨#[]⟩,.bool false]) SB rfl E.Z
    obtain⟨c,r',J⟩:∃c r',r.1.1=c :: r':=by
     cases hd:r.1.1 with
     |nil=>exact(hr hd).elim
     |cons c r'=>exact⟨c,r',rfl⟩
    have bh:1<=r.size:=by rw[UB,J];simp
    have bl:r.toList.isEmpty=false:=by rw[UC,J];rfl
    have a7:r.1.1[0]?=some c:=by rw[J];rfl
    have M:Xb w3 (w3.alloc (Obj.cells #[.iface ty z] 111)):=(Uz _ w3).alloc (af _) _;have ai:=bZ ((j.Z.mB.same (cK.below L)).same (cK.below M));have a3:=bZ ((j.Z.qd.keeps (cK.below L)).keeps (cK.below M));have a4:=bZ (hv.keeps (cK.below M));have ak:=Y.trans (M.mono Y.size);have a6:(w3.alloc (Obj.cells #[.iface ty z] 111)).cell? ((⟨w3.1.size,0,none⟩:Addr).add 0)=some (.iface ty z):=cell_one_new _ _ _ 0 _ rfl;have aC:w.1.size<=(w3.alloc (Obj.cells #[.iface ty z] 111)).1.size:=ak.size;have a0:=bZ j.Z.rest;have a2:=bZ j.Z.size;have B:jD (m+1) s.1.1=if c=125 then some (vl (l++[D]),r')else if c=44 then iL (te m) k r' (l++[D])else none:=by
     have h:=a0.Z;rw[O]at h;unfold iL at h;rw[I,J]at h;exact h.symm
    have bk:∀h:0<r.size,(r[0]'h)=c:=λh=>by
     have h1:r.1.1[0]?=some (r[0]'h):=by
      rw[aq SF];rfl
     rw[a7]at h1;exact(aB h1).symm
    have ax:(r.extract 1 r.size).1.1=r':=by rw[oX,J];rfl
    have bg:(r.extract 1 r.size).size<=281474976710656:=by
     have h6:=zV m _ _ _ I;have U:=congrArg List.length h6.2;rw[aj]at U;have h8:=a2.Z;rw[UB]at h8;have h9:=pG r 1 r.size (af _) bh;have bj:=UB r;omega
    have P:Hid (∀(p:QV) (v':Xa),nf p w.1.size v' (ys++[.iface ty z])->(w3.alloc (Obj.cells #[.iface ty z] 111)).grownBy p (Value.slice oa ys.length ca).ownBlock->(∀n u x,cT (w3.alloc (Obj.cells #[.iface ty z] 111)) n u x->cT p n u x)->Xb w p/\iW p m (l++[D]) (ys++[.iface ty z])):=bZ (λp v' q2 q3 q5=>⟨ak.grown q3 aC (λb hb=>(ai.Z.lt hb).2),by
     refine⟨by simp[ad],λi u y hu hy=>?_⟩;rcases Qh i l.length with hi|hi
     ·rw[aU hi]at hu;rw[aU RM]at hy;exact q5 _ _ _ (a3.Z.2 i u y hu hy)
     ·rw[aY hi]at hu;rw[aY RM]at hy;have ap:i-l.length=0:=by
       have:=(az.1 hu).1;simp at this;omega
      rw[ap]at hu;rw[<-ad,ap]at hy;simp at hu hy;subst hu hy;exact q5 _ _ _ a4.Z⟩)
    go_wp2_with(at_builtin;refine lX rfl _ _ 248 underlying248 rfl w.1.size _ ys rfl ai.Z ⟨w3.1.size,0,none⟩ _ (.iface ty z) rfl a6 rfl RM aC ?_;intro v' p h2 S h4 T;obtain⟨o5,c5,rfl⟩:=h2.row.len)
    ·rename_i av aa;obtain⟨F,N⟩:=P.Z p _ h2 S T;have a5:c=125:=by
      have U:(c.toNat:Int)=125:=by simpa using aa
      have:c.toNat=125:=RM;exact Qi.1 this
     rw[ag a5]at B;rw[aj]at h2;have Q:Hid (R (.returned (.tuple #[.iface 248 (.slice o5 (ys.length+1) c5),.string (r.extract 1 r.size),.bool true])) p):=bZ (by
      rw[<-HR.Z];exact⟨F,.inl ⟨vl (l++[D]),_,_,_,_,by rw[B,ax],rfl,rfl,.inr ⟨l++[D],_,ys++[.iface ty z],rfl,rfl,h2.row,by simp[ad],by simp;omega,N.2⟩⟩⟩)
     exact UA (v:=.tuple #[.iface 248 (.slice o5 (ys.length+1) c5),.string (r.extract 1 r.size),.bool true]) SB rfl Q.Z
    ·rename_i av ab aa;obtain⟨F,N⟩:=P.Z p _ h2 S T;have am:c=44:=by
      have U:(c.toNat:Int)=44:=by simpa using aa
      have:c.toNat=44:=RM;exact Qi.1 this
     rw[ae (by rw[am];decide),ag am]at B;rw[aj]at h2;refine⟨⟨_,ys++[.iface ty z],l++[D],rfl,bZ ⟨h2,N,by simp;omega,F,?_,bg⟩⟩,?_⟩
     ·rw[ax,B]
      congr 1
      simp;omega
     show 12-(ys.length+1)<12-ys.length;omega
    rename_i av ab ao;obtain⟨F,N⟩:=P.Z p _ h2 S T;have a8:c≠125:=λe=>by
     rw[e]at ab;exact absurd ab RZ
    have a9:c≠44:=λe=>by
     rw[e]at ao;exact absurd ao RZ
    rw[ae a8,ae a9]at B;exact UA (v:=.tuple #[.nilIface,.string ⟨#[]⟩,.bool false]) SB rfl (K.Z p F B)
   have G:jD (m+1) s.1.1=none:=by
    have h:=j.Z.rest;obtain⟨k,O⟩:∃k,12-l.length=k+1:=⟨11-l.length,by omega⟩;rw[O]at h;unfold iL at h;rw[I]at h;exact h.symm
   have E:=bZ (K.Z w3 (j.Z.eh.trans (L.mono j.Z.eh.size)) G);go_wp2_with fail;exact UA (v:=.tuple #[.nilIface,.string ⟨#[]⟩,.bool false]) SB rfl E.Z
  have G:jD (m+1) s.1.1=none:=by
   have h:=j.Z.rest;rw[show 12-l.length=0 by omega]at h;exact h.symm
  have E:=bZ (K.Z wr j.Z.eh G);go_wp2_with fail;exact UA (v:=.tuple #[.nilIface,.string ⟨#[]⟩,.bool false]) SB rfl E.Z
def xJ:∀n,n<=3->CS n
 |0,_=>xI 0 CU
 |n+1,h=>xI (n+1) (CW n RM (xJ n RM))
def I2(s w)(g:G w)(hs:s.size<=281474976710656):Calls prog 52 #[.string s] w λe w'=>Xb w w'/\((∃v t a,sA s.1.1=some v/\e=.returned (.tuple #[.iface t a,.bool true])/\cT w' 3 v (.iface t a))\/(sA s.1.1=none/\e=.returned (.tuple #[.nilIface,.bool false]))):=by
 have u:=bZ (xJ 3 (af _) s w g hs);generalize p:(λ(e:Ending) (w':QV)=>Below _ w w'/\((∃v t a,sA _=some v/\e=.returned _/\cT w' 3 v _)\/(sA _=none/\e=.returned _)))=R;have C:∀w',Below _ w w'->sA _=none->R _ w':=λw' l h=>by
  rw[<-p];exact⟨l,.inr ⟨h,rfl⟩⟩
 have D:∀w' v t a,Below _ w w'->sA _=some v->cT w' 3 v _->R _ w':=λw' v t a l h hv=>by
  rw[<-p];exact⟨l,.inl ⟨v,t,a,h,rfl,hv⟩⟩
 have n:=bZ C;have z:=bZ D;go_enter func52,ntmps52;go_wp2_with fail;refine u.Z.mono ?_;rintro e w3⟨m,⟨v,y,ty,B,r,j,rfl,rfl,hv⟩|⟨y,r,j,rfl,hy⟩⟩
 ·cases hd:r.1.1 with
  |nil =>
   have E:r=⟨#[]⟩:=by rw[<-Lib.mk_data r,hd]
   subst E;have b:=bZ (z.Z w3 v ty B m (by unfold sA;rw[j]) hv);go_wp2_with fail;exact b.Z
  |cons c r' =>
   have F:r.toList.isEmpty=false:=by rw[UC,hd];rfl
   have b:=bZ (n.Z w3 m (by unfold sA;rw[j,hd]));go_wp2_with fail;exact b.Z
 have b:=bZ (n.Z w3 m (by unfold sA;rw[j]));go_wp2_with fail;exact b.Z
end
