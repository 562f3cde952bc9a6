/- Out of L30. -/
import Derived.Test.YtpekpdimdelncaaGreatDoorP26
import Derived.Test.YtpekpdimdelncaaGreatDoorP08
import Derived.Test.YtpekpdimdelncaaGreatDoorP19
set_option linter.unusedVariables false
set_option linter.unusedSimpArgs false
set_option maxRecDepth 100000
set_option maxHeartbeats 4000000
set_option linter.defProp false
namespace Go.Proofs.YtpekpdimdelncaaGreatDoor
open Go.RowKit Go.Shelf
section
open bY
open Tryz
def FC(n)(j:a_)(s)(y:KB s.cm)(hd:bY.cr s.done j=none)(u:fN (dq (cC n) j { s with b_:=s.b_++[j] }).2<=fN ({ s with b_:=s.b_++[j] }:LS)+LM)(b:List (a_))(r):fN { (dq (cC n) j { s with b_:=s.b_++[j] }).2 with b_:=b,done:=bY.put (dq (cC n) j { s with b_:=s.b_++[j] }).2.done j r }<=fN s:=by
 have l:fN ({ s with b_:=s.b_++[j] }:LS)=fN s:=q8 rfl rfl rfl;cases hl:bY.cr s.cm j with
 |none =>
  have e:dq (cC n) j { s with b_:=s.b_++[j] }=(.error 7,{ s with b_:=s.b_++[j] }):=by simp only[dq,hl]
  rw[e];exact ah (D2 b r) (Nat.le_of_eq l)
 |some th =>
  cases m:th.dc with
  |none =>
   have e:dq (cC n) j { s with b_:=s.b_++[j] }=(.ok th.value,{ s with b_:=s.b_++[j] }):=by simp only[dq,hl,m]
   rw[e];exact ah (D2 b r) (Nat.le_of_eq l)
  |some t =>
   have p:=qZ n j { s with b_:=s.b_++[j] } y hl m;have h1:j∈bY.dE (dq (cC n) j { s with b_:=s.b_++[j] }).2.cm:=by
    rw[<-eE,p.cX,eE];exact h_ hl (by rw[m];rfl)
   have h2:bY.cr (dq (cC n) j { s with b_:=s.b_++[j] }).2.done j=none:=(p.dn j (by show j∈s.b_++[j];simp)).trans hd;have:=IJ h1 h2 b r;rw[l]at u;exact Nat.le_of_add_le_add_right (ah this u)
def xF(n)(b:a_)(s)(m:KB s.cm)(p:s.done.length+1000*Rs s+1000*(n+1)<=1000000):(dq (cC n) b { s with b_:=s.b_++[b] }).2.done.length<=1000000:=by
 cases hl:bY.cr s.cm b with
 |none =>
  have e:dq (cC n) b { s with b_:=s.b_++[b] }=(.error 7,{ s with b_:=s.b_++[b] }):=by simp only[dq,hl]
  rw[e];show s.done.length<=_;omega
 |some th =>
  cases l:th.dc with
  |none =>
   have e:dq (cC n) b { s with b_:=s.b_++[b] }=(.ok th.value,{ s with b_:=s.b_++[b] }):=by simp only[dq,hl,l]
   rw[e];show s.done.length<=_;omega
  |some t =>
   have j:=(qZ n b { s with b_:=s.b_++[b] } m hl l).mM;have h1:Rs { s with b_:=s.b_++[b] }=Rs s:=rfl;rw[h1]at j;have j:(dq _ b { s with b_:=s.b_++[b] }).2.done.length+1000*Rs (dq _ b { s with b_:=s.b_++[b] }).2<=s.done.length+1000*Rs s+801:=j;omega
def FD(n w p l)(HB:pW p (cC n) (Pre n))(s L)(h:fD w p s L)(g:G w)(hd:jI w)(hk:l.size<=200)(N:Pre (n+1) s)(hl:bY.cr s.done l.1.1=none)(hc:s.b_.contains l.1.1=false):Calls prog 49 #[ptr p,.string l] w λe w'=>∃x,e=.returned x/\g_ w' (dq (cC n) l.1.1 { s with b_:=s.b_++[l.1.1] }).1 x /\cH w p L { (dq (cC n) l.1.1 { s with b_:=s.b_++[l.1.1] }).2 with b_:=s.b_,done:=bY.put (dq (cC n) l.1.1 { s with b_:=s.b_++[l.1.1] }).2.done l.1.1 (dq (cC n) l.1.1 { s with b_:=s.b_++[l.1.1] }).1 } w' /\fN (dq (cC n) l.1.1 { s with b_:=s.b_++[l.1.1] }).2<=fN ({ s with b_:=s.b_++[l.1.1] }:LS)+LM:=by
 have hlen:s.b_.length<=1000:=by have:=N.b_;omega
 have ao:=h.alloc (.cells #[.int .i64 0,.nilIface] 113);have ap:=ao.alloc (.cells #[.int .i64 0,.nilIface] 113);have bz:l.1.1.length<=maxLen:=Sd;have J:=(Uz _ w).alloc (af _) (.cells #[.int .i64 0,.nilIface] 113);have U:=(Uz _ (w.alloc (.cells #[.int .i64 0,.nilIface] 113))).alloc (af _) (.cells #[.int .i64 0,.nilIface] 113);have Q:=(g.below J g.size).below U (g.below J g.size).size;have d2:=(hd.below J g.size).below U (g.below J g.size).size;obtain⟨hb,db,vb,vr,vn,vj,h1⟩:=ao;have c1:(w.alloc (.cells #[.int .i64 0,.nilIface] 113)).cell? ⟨p,1,none⟩=some (.map (some db)):=by simp[World.cell?,h1.eb]
 have hr:(Instr.lookup 105 (.map (some db)) (.string l) true).run prog (w.alloc (.cells #[.int .i64 0,.nilIface] 113))=.ok (.tuple #[.agg #[.int .i64 0,.nilIface],.bool false]) (w.alloc (.cells #[.int .i64 0,.nilIface] 113)):=by
  rcases h1.done.cr (kY:=l.1.1) bz with⟨_,h3⟩|⟨r',v,h2,_⟩
  ·rw[dF]at h3;exact h3
  rw[hl]at h2;cases h2
 have av:=ap;obtain⟨bR,bQ,aa,b8,b6,b4,h2⟩:=ap;have c2:((w.alloc (.cells #[.int .i64 0,.nilIface] 113)).alloc (.cells #[.int .i64 0,.nilIface] 113)).cell? ⟨p,2,none⟩=some aa:=by simp[World.cell?,h2.eb]
 have hI:=D3 h2 hlen l;have bx:∃o m c,aa=.slice o m c:=by
  rcases h2.q_ with⟨rfl,_⟩|⟨F,E,rfl,_⟩
  ·exact⟨_,_,_,rfl⟩
  exact⟨_,_,_,rfl⟩
 -- the l is b_
 obtain⟨g',bO,w3,a8,f2,z2,X⟩:=zd h2 Q (Uz _ _) l hlen;have e2:((((w.alloc (.cells #[.int .i64 0,.nilIface] 113)).alloc (.cells #[.int .i64 0,.nilIface] 113)).alloc (.cells #[.string l] 9))).cell? ⟨p,2,none⟩=some aa:=(UF (UE _ _ p (cj h2.eb))).trans c2;have g4:=X.g av Q;have d4:=X.pD av Q d2;obtain⟨L4,ax,bV,bG⟩:=X.then
 -- it is worked out
 have bg:=IK n _ p l HB { s with b_:=s.b_++[l.1.1] } L4 ax g4 d4 hk (by show l.1.1∈s.b_++[l.1.1];simp) (λth t h1 h2=>N.work h1 h2 hc);have bd:(dq (cC n) l.1.1 { s with b_:=s.b_++[l.1.1] }).2.b_=s.b_++[l.1.1]:=(zc (oT n) l.1.1 { s with b_:=s.b_++[l.1.1] }).b_;have bf:=xF n l.1.1 s N.kb N.mM;generalize dq (cC n) l.1.1 { s with b_:=s.b_++[l.1.1] }=q at bg bd bf ⊢;generalize bq:(λ(e:Ending) (w':QV)=>∃x,e=.returned x/\g_ w' q.1 x/\cH w p L { q.2 with b_:=s.b_,done:=bY.put q.2.done l.1.1 q.1 } w'/\fN q.2<=fN ({ s with b_:=s.b_++[l.1.1] }:LS)+LM)=RR;have bw:∀wr c i,cH (w.alloc (.cells #[.int .i64 0,.nilIface] 113)) p L { q.2 with b_:=s.b_,done:=bY.put q.2.done l.1.1 q.1 } wr->g_ wr q.1 (.agg #[.int .i64 c,i])->fN q.2<=fN ({ s with b_:=s.b_++[l.1.1] }:LS)+LM->wr.cell? ⟨w.1.size,0,none⟩=some (.int .i64 0)/\wr.cell? ⟨w.1.size,1,none⟩=some .nilIface/\wr.frozen? ⟨w.1.size,0,none⟩=false/\wr.frozen? ⟨w.1.size,1,none⟩=false/\((wr.setCell ⟨w.1.size,0,none⟩ (.int .i64 c)).setCell ⟨w.1.size,1,none⟩ i).cell? ⟨w.1.size,0,none⟩=some (.int .i64 c)/\((wr.setCell ⟨w.1.size,0,none⟩ (.int .i64 c)).setCell ⟨w.1.size,1,none⟩ i).cell? ⟨w.1.size,1,none⟩=some i/\RR (.returned (.agg #[.int .i64 c,i])) ((wr.setCell ⟨w.1.size,0,none⟩ (.int .i64 c)).setCell ⟨w.1.size,1,none⟩ i):=λwr c i hP hW bC=>by
  obtain⟨b0,b1,z0,P,bo,br,d0,d1⟩:=pF h hP hW;rw[<-bq];exact⟨b0,b1,z0,P,d0,d1,_,rfl,br,bo,bC⟩
 have bF:∀z w2,cH _ p L4 z w2->cH (w.alloc (.cells #[.int .i64 0,.nilIface] 113)) p L z w2:=λz w2 hx=>cH.pre U (bG z w2 hx);simp only[World.size_alloc]at a8;have bm:=bZ bF;have bj:=bZ bw;have HW:=bZ bg;have HI:=bZ hI;have bl:=bZ a8;have bh:=bZ ax;have bk:=bZ g4;obtain⟨o2,m2,bP,rfl⟩:=bx;unfold ptr at *;go_enter func49,ntmps49;go_wp2_with fail;refine HI.Z.mono ?_;rintro e w'⟨bJ,⟨_,rfl⟩|⟨j,hj,a6,_⟩⟩
 ·subst bJ;go_wp2_with(at_builtin;refine cY _ rfl _ _ _ _ rfl _ _ _ _ rfl rfl bl.Z ?_);refine HW.Z.mono ?_;rintro e r⟨x,rfl,a3,aC,bD⟩;obtain⟨c,i,rfl,hi⟩:=a3.form;have g5:=aC.g bh.Z bk.Z;obtain⟨L5,R,bW,bH⟩:=aC.then;have V:Xb r (r.alloc (.cells #[.int .i64 c,i] 113)):=(Uz _ _).alloc (af _) _;have ay:=(R.alloc (.cells #[.int .i64 c,i] 113)).drew;have g6:G (r.alloc (.cells #[.int .i64 c,i] 113)).drew:=g5.below V.drew g5.size;obtain⟨F,E,k2,bT,y2,a0⟩:=Le ay g6 bd;generalize Z:r.alloc (.cells #[.int .i64 c,i] 113)=D at *;have bv:D.1[r.1.size]?=some (.cells #[.int .i64 c,i] 113 (0,0)):=by rw[<-Z];exact heap_alloc_new _ _
  have bU:p<r.1.size:=(R.ct _ R.here).2.1;have bt:g_ D q.1 (.agg #[.int .i64 c,i]):=a3.keeps (cK.below V);have a4:=(bt.keeps (cK.below ((Uz _ D).drew))).keeps (a0.keeps ay);have Y:(D.drew.setCell ⟨p,2,none⟩ (.slice (some ⟨F,0,none⟩) s.b_.length E)).1[r.1.size]?=some (.cells #[.int .i64 c,i] 113 (0,0)):=(UK _ _ _ _ (by show r.1.size≠p;omega)).trans bv;obtain⟨L7,T,bX,bI⟩:=a0.then;generalize bc:D.drew.setCell ⟨p,2,none⟩ (.slice (some ⟨F,0,none⟩) s.b_.length E)=B at *;obtain⟨I,C,k1,bE,a2,a9⟩:=IP T.drew (s6:={ q.2 with b_:=s.b_ }) bf l hk (a4.keeps (cK.below ((Uz _ B).drew)));have a5:=a9 _ _ _ _ Y;have bu:g_ C q.1 (.agg #[.int .i64 c,i]):=(a4.keeps (cK.below ((Uz _ B).drew))).keeps (a2.keeps T.drew);have bp:=bm.Z _ _ (bH _ _ (cH.pre V.drew (bI _ _ (cH.pre ((Uz _ B).drew) a2))));obtain⟨b0,b1,z0,P,e0,e1,hR⟩:=bj.Z C c i bp bu bD;have HR:=bZ hR;have ab:=bZ bE;have m0:C.cell? ⟨r.1.size,0,none⟩=some (.int .i64 c):=by simp[World.cell?,a5]
  have m1:C.cell? ⟨r.1.size,1,none⟩=some i:=by simp[World.cell?,a5]
  have y:B.cell? ⟨p,1,none⟩=some (.map (some I))/\B.cell? ⟨r.1.size,0,none⟩=some (.int .i64 c)/\B.cell? ⟨r.1.size,1,none⟩=some i:=⟨k1,by simp[World.cell?,Y],by simp[World.cell?,Y]⟩;have M:C.cell? ⟨p,1,none⟩=some (.map (some I))/\C.cell? ⟨r.1.size,0,none⟩=some (.int .i64 c)/\C.cell? ⟨r.1.size,1,none⟩=some i:=by
   refine⟨?_,m0,m1⟩;obtain⟨bS,bn,b3,b9,b7,b5,a7⟩:=T.drew;have bA:=a9 _ _ _ _ a7.eb;have:some (Value.map (some bn))=some (Value.map (some I)):=by rw[<-k1];simp[World.cell?,a7.eb]
   cases this;simp[World.cell?,bA]
  have bL:D.cell? ⟨p,2,none⟩=some (.slice (some ⟨F,0,none⟩) (s.b_.length+1) E):=k2;have bK:IntKind.i64.wrap (s.b_.length:Int)=(s.b_.length:Int):=Sk;have bB:s.b_.length<=E:=RM;have HX:=bZ (And.intro y (And.intro M (And.intro b0 (And.intro b1 (And.intro z0 (And.intro P (And.intro e0 (And.intro e1 (And.intro m0 m1)))))))));have ad:=bZ Z;have ak:Hid ((D.setCell ⟨p,2,none⟩ (.slice (some ⟨F,0,none⟩) s.b_.length E)).drew=B):=bZ bc;clear Z bc;rcases hi with rfl|⟨ti,ai,rfl⟩
  all_goals
   go_wp2_with fail;rw[ad.Z];rename_i K5 bM;refine mE K5 (λa w h=>h) ?_;refine wp_region_held_drew (S:=λ_=>True) RO trivial (λhHeld=>?_);refine wpAnyH_take (i:=0) (v:=?_) rfl RO RO RO (λ_ _ _ h=>h) (Or.inl ⟨by rfl,?_⟩) trivial ?_
   rotate_left
   ·intro w' u;go_simp
    try with_reducible rfl
   simp only[Act.put,ar,Xc,Xd];refine wpAnyH_take (i:=1) (v:=?_) rfl RO RO RO (λ_ _ _ h=>h) (Or.inl ⟨by rfl,?_⟩) trivial ?_
   rotate_left
   ·intro w' u;go_simp
    try with_reducible rfl
   simp only[Act.put,ar,Xc,Xd];refine wpAnyH_take (i:=2) (v:=?_) rfl RO RO RO (λ_ _ _ h=>h) (Or.inl ⟨by rfl,?_⟩) trivial ?_
   rotate_left
   ·intro w' u;go_simp
    try with_reducible rfl
   simp only[Act.put,ar,Xc,Xd];refine wpAnyH_take (i:=3) (v:=?_) rfl RO RO RO (λ_ _ _ h=>h) (Or.inl ⟨by rfl,?_⟩) trivial ?_
   rotate_left
   ·intro w' u;go_simp
    try with_reducible rfl
   simp only[Act.put,ar,Xc,Xd];refine wpAnyH_take (i:=5) (v:=?_) rfl RO RO RO (λ_ _ _ h=>h) (Or.inl ⟨by rfl,?_⟩) trivial ?_
   rotate_left
   ·intro w' u;go_simp
    try with_reducible rfl
   simp only[Act.put,ar,Xc,Xd];refine wpAnyH_take (i:=6) (v:=?_) rfl RO RO RO (λ_ _ _ h=>h) (Or.inl ⟨by rfl,?_⟩) trivial ?_
   rotate_left
   ·intro w' u;go_simp
    try with_reducible rfl
   simp only[Act.put,ar,Xc,Xd];refine wpAnyH_take (i:=7) (v:=?_) rfl RO RO RO (λ_ _ _ h=>h) (Or.inl ⟨by rfl,?_⟩) trivial ?_
   rotate_left
   ·intro w' u;go_simp
    try with_reducible rfl
   simp only[Act.put,ar,Xc,Xd];refine wpAnyH_ready (rs:=[4,8]) RO R2 ?_;refine AllReadyH.cons rfl (λK b=>?_) (AllReadyH.cons rfl (λK b=>?_) AllReadyH.nil)
   all_goals
    first
    |go_simp
     refine b.out _ _ trivial (λ_=>?_);clear b;refine wpAnyH_ready (rs:=[8]) RO R2 ?_;refine AllReadyH.cons rfl (λK b=>?_) AllReadyH.nil;go_simp;refine b.out _ _ trivial (λ_=>?_);clear b;refine wpAnyH_ready (rs:=[9]) RO R2 ?_;refine AllReadyH.cons rfl (λK b=>?_) AllReadyH.nil;go_simp;refine b.out _ _ trivial (λ_=>?_);clear b;refine wpAnyH_ready (rs:=[10]) RO R2 ?_;refine AllReadyH.cons rfl (λK b=>?_) AllReadyH.nil;go_simp;refine b.out _ _ trivial (λ_=>?_);clear b;refine wpAnyH_ready (rs:=[11]) RO R2 ?_;refine AllReadyH.cons rfl (λK b=>?_) AllReadyH.nil;go_simp;refine b.out _ _ trivial (λ_=>?_);clear b;refine wpAnyH_ready (rs:=[12]) RO R2 ?_;refine AllReadyH.cons rfl (λK b=>?_) AllReadyH.nil;go_simp;refine b.out _ _ trivial (λ_=>?_);clear b;refine wpAnyH_ready (rs:=[13]) RO R2 ?_;refine AllReadyH.cons rfl (λK b=>?_) AllReadyH.nil;go_simp;refine b.out _ _ trivial (λ_=>?_);clear b;refine wpAnyH_ready (rs:=[14]) RO R2 ?_;refine AllReadyH.cons rfl (λK b=>?_) AllReadyH.nil;go_simp;refine b.out _ _ trivial (λ_=>?_);clear b;refine wpAnyH_done RO ?_ _
    |go_simp
     refine b.out _ _ trivial (λ_=>?_);clear b;refine wpAnyH_take (i:=9) (v:=?_) rfl RO RO RO (λ_ _ _ h=>h) (Or.inl ⟨by rfl,?_⟩) trivial ?_
     rotate_left
     ·intro w' u;go_simp
      try with_reducible rfl
     simp only[Act.put,ar,Xc,Xd];refine wpAnyH_take (i:=10) (v:=?_) rfl RO RO RO (λ_ _ _ h=>h) (Or.inl ⟨by rfl,?_⟩) trivial ?_
     rotate_left
     ·intro w' u;go_simp
      try with_reducible rfl
     simp only[Act.put,ar,Xc,Xd];refine wpAnyH_ready (rs:=[4]) RO R2 ?_;refine AllReadyH.cons rfl (λK b=>?_) AllReadyH.nil;go_simp;refine b.out _ _ trivial (λ_=>?_);clear b;refine wpAnyH_ready (rs:=[11]) RO R2 ?_;refine AllReadyH.cons rfl (λK b=>?_) AllReadyH.nil;go_simp;refine b.out _ _ trivial (λ_=>?_);clear b;refine wpAnyH_ready (rs:=[12]) RO R2 ?_;refine AllReadyH.cons rfl (λK b=>?_) AllReadyH.nil;go_simp;refine b.out _ _ trivial (λ_=>?_);clear b;refine wpAnyH_ready (rs:=[13]) RO R2 ?_;refine AllReadyH.cons rfl (λK b=>?_) AllReadyH.nil;go_simp;refine b.out _ _ trivial (λ_=>?_);clear b;refine wpAnyH_ready (rs:=[14]) RO R2 ?_;refine AllReadyH.cons rfl (λK b=>?_) AllReadyH.nil;go_simp;refine b.out _ _ trivial (λ_=>?_);clear b;refine wpAnyH_done RO ?_ _
   all_goals
    show K5 _ _;rw[ak.Z];clear hHeld bL y2 ad ak bK bB;go_wp2_with fail;rename_i K6 bN;obtain⟨⟨j1,j2,k7⟩,⟨j4,j5,j6⟩,am⟩:=HX.Z;have y:=And.intro j1 (And.intro j2 (Eq.refl (B.cell? ⟨r.1.size,1,none⟩)));have M:=And.intro j4 (And.intro j5 (j6.trans k7.symm));clear j1 j2 j4 j5 j6;have HY:=bZ am;clear am;refine mE K6 (λa w h=>h) ?_;refine wp_region_held_drew (S:=λw'=>w'.cell? ⟨p,1,none⟩=some (.map (some I))/\w'.cell? ⟨r.1.size,0,none⟩=some (.int .i64 c)/\w'.cell? ⟨r.1.size,1,none⟩=B.cell? ⟨r.1.size,1,none⟩) RO y (λhHeld=>?_);refine wpAnyH_take (i:=0) (v:=?_) rfl RO RO RO (λ_ _ _ h=>h) (Or.inl ⟨by rfl,?_⟩) y ?_
    rotate_left
    ·rintro w'⟨u,O,z⟩;go_simp
     try with_reducible rfl
    simp only[Act.put,ar,Xc,Xd];refine wpAnyH_take (i:=1) (v:=?_) rfl RO RO RO (λ_ _ _ h=>h) (Or.inl ⟨by rfl,?_⟩) y ?_
    rotate_left
    ·rintro w'⟨u,O,z⟩;go_simp
     try with_reducible rfl
    simp only[Act.put,ar,Xc,Xd];refine wpAnyH_take (i:=2) (v:=?_) rfl RO RO RO (λ_ _ _ h=>h) (Or.inl ⟨by rfl,?_⟩) y ?_
    rotate_left
    ·rintro w'⟨u,O,z⟩;go_simp
     try with_reducible rfl
    simp only[Act.put,ar,Xc,Xd];refine wpAnyH_take (i:=3) (v:=?_) rfl RO RO RO (λ_ _ _ h=>h) (Or.inl ⟨by rfl,?_⟩) y ?_
    rotate_left
    ·rintro w'⟨u,O,z⟩;go_simp
     try with_reducible rfl
    simp only[Act.put,ar,Xc,Xd];refine wpAnyH_take (i:=4) (v:=?_) rfl RO RO RO (λ_ _ _ h=>h) (Or.inl ⟨by rfl,?_⟩) y ?_
    rotate_left
    ·rintro w'⟨u,O,z⟩;go_simp
     try with_reducible rfl
    simp only[Act.put,ar,Xc,Xd];refine wpAnyH_ready (rs:=[5]) RO R2 ?_;refine AllReadyH.cons rfl (λK b=>?_) AllReadyH.nil;go_simp;refine b.out _ _ y (λ_=>?_);clear b;refine wpAnyH_ready (rs:=[6]) RO R2 ?_;refine AllReadyH.cons rfl (λK b=>?_) AllReadyH.nil;refine yK rfl (.tmp 67) (.tmp 68) (.tmp 69) 105 rfl _ _ _ _ rfl rfl rfl ab.Z ?_;simp only[Act.put,ar,Xc,Xd];refine b.out _ _ M (λ_=>?_);clear b ab hHeld y;refine wpAnyH_done RO ?_ _;show K6 _ C;clear M;obtain⟨b0,b1,z0,P,e0,e1,m0,m1⟩:=HY.Z;clear HX HY;go_wp2_with fail;exact UA (v:=.agg #[.int .i64 c,_]) (by simp[results,results49,go_sem,e0,e1]) rfl HR.Z
 rw[hc]at a6;cases a6
end
section
open bY
def uW(m):∀n,pW m (cC n) (Pre n)
 |0=>λW s L b _ _ _ l _=>by have:=l.un;omega
 |n+1=>λW s L b h g hd l p=>by
  have u:=uW m n;have j:=gM (n+1) b.1.1 s l.kb;have hlen:s.b_.length<=1000:=by have:=l.b_;omega
  cases hl:bY.cr s.done b.1.1 with
  |some r =>
   have e:cC (n+1) b.1.1 s=(r,s):=by
    show eR _ _ _=_;unfold eR;rw[hl]
   rw[e]at j ⊢;refine(CM W m b s L h p r hl).mono ?_;rintro e w'⟨x,rfl,h1,h2⟩;exact⟨x,rfl,h1,h2,af _,j⟩
  |none =>
   cases hc:s.b_.contains b.1.1 with
   |true =>
    have e:cC (n+1) b.1.1 s=(.error 12,s.meet b.1.1):=by
     show eR _ _ _=_;unfold eR;rw[hl];simp only;rw[ag hc]
    rw[e]at j ⊢;refine(FA W m b s L h g p hl hc hlen).mono ?_;rintro e w'⟨x,rfl,h1,h2⟩;refine⟨x,rfl,h1,h2,?_,j⟩;show fN (s.meet b.1.1)<=fN s;unfold LS.meet;split
    ·exact Nat.le_of_eq (q8 rfl rfl rfl)
    exact af _
   |false =>
    have z:(dq (cC n) b.1.1 { s with b_:=s.b_++[b.1.1] }).2.b_=s.b_++[b.1.1]:=(zc (oT n) b.1.1 { s with b_:=s.b_++[b.1.1] }).b_;have e:cC (n+1) b.1.1 s=((dq (cC n) b.1.1 { s with b_:=s.b_++[b.1.1] }).1,{ (dq (cC n) b.1.1 { s with b_:=s.b_++[b.1.1] }).2 with b_:=s.b_,done:=bY.put (dq (cC n) b.1.1 { s with b_:=s.b_++[b.1.1] }).2.done b.1.1 (dq (cC n) b.1.1 { s with b_:=s.b_++[b.1.1] }).1 }):=by
     show eR _ _ _=_;unfold eR;rw[hl];simp only;rw[ae (by rw[hc];exact R0),z];simp
    rw[e]at j ⊢;refine(FD n W m b u s L h g hd p l hl hc).mono ?_;rintro e w'⟨x,rfl,h1,h2,y⟩;exact⟨x,rfl,h1,h2,FC n b.1.1 s l.kb hl y _ _,j⟩
end
section
open bY
open Tryz
variable{j hb db N:Nat}{s:LS}{L:Nat->Prop}
def LP.Li{w:QV}{n r vn p:Xa}(h:LP w j s L hb db n r vn p)(g:G w):cH w j L { s with cE:=[] } (w.setCell ⟨j,3,none⟩ (.slice none 0 0)):=by
 have m:Tn 9 w w none:=qY (Uz _ _);refine h.turned 9 none m (.inr (.inl rfl)) RZ RZ RZ RZ (λb hb=>by cases hb) (λk=>False) (λk l=>l.elim) g 3 _ rfl rfl rfl h.b_ ⟨rfl,.inl ⟨rfl,rfl⟩⟩ h.du h.jr (λk l=>?_) (λk l e=>by cases e) (λ_=>rfl);rcases l with l|l|l|l
 ·exact .inl (h.dK k (.inl l))
 ·cases l
 ·exact .inl (h.dK k (.inr (.inr (.inl l))))
 exact .inl (h.dK k (.inr (.inr (.inr l))))
def LP.Ny{w:QV}{m p vn n:Xa}(h:LP w j s L hb db m p vn n)(g:G w):cH w j L { s with du:=[] } (w.setCell ⟨j,4,none⟩ (.slice none 0 0)):=by
 have l:Tn 9 w w none:=qY (Uz _ _);refine h.turned 9 none l (.inr (.inl rfl)) RZ RZ RZ RZ (λb hb=>by cases hb) (λk=>False) (λk e=>e.elim) g 4 _ rfl rfl rfl h.b_ h.cE ⟨rfl,.inl ⟨rfl,rfl⟩⟩ h.jr (λk e=>?_) h.apart h.oq;rcases e with e|e|e|e
 ·exact .inl (h.dK k (.inl e))
 ·exact .inl (h.dK k (.inr (.inl e)))
 ·cases e
 exact .inl (h.dK k (.inr (.inr (.inr e))))
structure Fit(s:LS)(N:Nat):Prop where
 kb:KB s.cm
 b_:s.b_=[]
 len:s.cm.length<=40
 jr:(cW s.jr).length<=N
def Fit.pre(h:Fit s N)(m:N<=70366744177664):Pre 42 s.fresh where
 kb:=h.kb
 un:=by have:=MU s.fresh;have:s.fresh.cm.length<=40:=h.len;omega
 b_:=by show s.b_.length+42<=200;rw[h.b_];simp
 mM:=by have:=uV s.fresh;have:s.fresh.cm.length<=40:=h.len;show 0+1000*Rs s.fresh+1000*42<=_;omega
 du:=by have:=uV s.fresh;have:s.fresh.cm.length<=40:=h.len;show 0+Rs s.fresh+42<=_;omega
 K_:=by
  have h1:=uV s.fresh;have h2:s.fresh.cm.length<=40:=h.len;have b:(cW s.fresh.jr).length<=N:=h.jr;have e:LM*Rs s.fresh<=LM*40:=QC _ RM;unfold fN;have l:LM*40=2000000000:=rfl;omega
def Fit.ask(h:Fit s N)(b:a_)(l:fN (s.ask b).2<=fN s.fresh):Fit (s.ask b).2 (N+2000000000) where
 kb:=(gM 42 b s.fresh h.kb).kb h.kb
 b_:=(gM 42 b s.fresh h.kb).b_.trans h.b_
 len:=by
  have:=r_ (gM 42 b s.fresh h.kb).cX;have e:(s.ask b).2.cm.length=s.fresh.cm.length:=this;rw[e];exact h.len
 jr:=by
  have h1:=uV s.fresh;have h2:s.fresh.cm.length<=40:=h.len;have m:(cW s.fresh.jr).length<=N:=h.jr;have n:LM*Rs s.fresh<=LM*40:=QC _ RM;have p:LM*40=2000000000:=rfl;unfold fN at l;omega
def CO(w:QV)(b:Nat)(L:Nat->Prop)(v:Xa)(l:List (a_)):Prop :=(v=.slice none 0 0/\l=[])\/∃g c,v=.slice (some ⟨g,0,none⟩) l.length c/\b<=g/\¬L g/\w.ownsRow b 9 1 v l.length (l.map str)
def CP{W:QV}{z n vn B:Xa}(h:LP W j s L hb db z n vn B)(hl:s.cE.length<=200):Calls prog 51 #[n] W λe w'=>∃v,e=.returned v/\Xb W w'/\CO w' W.1.size L v s.cE/\∃o m c,v=.slice o m c:=by
 rcases h.cE.2 with⟨rfl,h2⟩|⟨g,r,C,rfl,_⟩
 ·refine(slices_Clone_string_nil 0 0 W).mono ?_;rintro e w'⟨rfl,rfl⟩;exact⟨_,rfl,Uz _ _,.inl ⟨rfl,QN h2⟩,_,_,_,rfl⟩
 have hz:(uU s.cE).length=s.cE.length:=by unfold uU;rw[aG]
 have l:=rZ h.cE 0;rw[aW]at l;refine(slices_Clone_string g 0 s.cE.length r (uU s.cE) W RM RM l).mono ?_;rintro e w'⟨v',rfl,b,hv,u⟩;obtain⟨g',p,rfl,y⟩:=Az b hv;rw[Qb RM,D0]at b;exact⟨_,rfl,u,.inr ⟨g',p,rfl,y,λhl=>by have:=h.lt hl;omega,b⟩,_,_,_,rfl⟩
def D4(w:QV)(j:Nat)(L:Nat->Prop)(s:LS)(b:a_)(e:Ending)(w':QV):Prop :=∃(v:Xa) (tc:Int) (ts:ba) (L':Nat->Prop),e=.returned (.tuple #[.string ts,.int .i64 tc,v])/\dw (s.ask b).1=.agg #[.int .i64 tc,.string ts] /\fD w' j (s.ask b).2 L'/\(∀k,L' k->L k\/w.1.size<=k)/\(∀k,L k->L' k)/\uE j L w w'/\fN (s.ask b).2<=fN s.fresh /\CO w' w.1.size L' v (if tc=12 then(s.ask b).2.cE else[])
def CQ(w j b)(g:G w)(n:b.size<=281474976710656)(p:dL b.1.1=false):Calls prog 22 #[ptr j,.string b] w λe w'=>e=.returned (.tuple #[.string ⟨#[]⟩,.int .i64 1,.slice none 0 0])/\Xb w w':=by
 have l:=bZ (eg b w g n);rw[p]at l;unfold ptr;go_enter func22,ntmps22;go_wp2_with fail;refine l.Z.mono ?_;rintro e w1⟨rfl,m⟩;go_wp2_with fail;exact UA (v:=.tuple #[.string ⟨#[]⟩,.int .i64 1,.slice none 0 0]) Te rfl ⟨rfl,m⟩
def Ll(w j b s L N)(h:fD w j s L)(g:G w)(hd:jI w)(n:b.size<=200)(hn:dL b.1.1=true)(hf:Fit s N)(hN:N<=70366744177664):Calls prog 22 #[ptr j,.string b] w (D4 w j L s b.1.1):=by
 have V:=bZ (eg b w g RM);rw[hn]at V;have ay:=bZ (And.intro h (And.intro g (And.intro hd hf)));clear h g hd hf hn;unfold ptr;go_enter func22,ntmps22;go_wp2_with fail;refine V.Z.mono ?_;rintro e w1⟨rfl,u⟩;obtain⟨h,g,hd,hf⟩:=ay.Z;have a4:fD w1 j s L:=h.st (λk n=>u.block k (h.ct k n).2.1) (eH.below u);have Y:=g.below u g.size;have d1:=hd.below u g.size;have ab:=a4;obtain⟨hb,db,vb,vr,vn,vj,h1⟩:=a4;have c1:w1.cell? ⟨j,1,none⟩=some (.map (some db)):=by simp[World.cell?,h1.eb]
 obtain⟨w2,bp,O,bc⟩:=h1.KY 0;have y:=bc _ _ _ _ h1.eb;have f3:w2.cell? ⟨j,3,none⟩=some vr:=by simp[World.cell?,y]
 have z3:w2.frozen? ⟨j,3,none⟩=false:=by simp[World.frozen?,y]
 have f4:w2.cell? ⟨j,4,none⟩=some vn:=by simp[World.cell?,y]
 have z4:w2.frozen? ⟨j,4,none⟩=false:=by simp[World.frozen?,y]
 have I:=O.g ab Y;have d2:=O.pD ab Y d1;obtain⟨L2,a5,br,bf⟩:=O.then;have ad:=a5;obtain⟨bD,bA,bH,bQ,bN,bK,h2⟩:=a5;have P:=h2.Li I;have J:=P.g ad I;have d3:=P.pD ad I d2;obtain⟨L3,a6,bt,bg⟩:=P.then;have ak:=a6;obtain⟨bE,bB,bI,bR,bO,bL,h3⟩:=a6;have Q:=h3.Ny J;have Z:=Q.g ak J;have d4:=Q.pD ak J d3;obtain⟨L4,am,bu,bh⟩:=Q.then;have a8:=uW j 42 _ _ L4 b am Z d4 (hf.pre hN) n;have bq:(s.ask b.1.1).2.cE.length<=200:=uX 42 b.1.1 s.fresh (by show s.b_.length+42<=200;rw[hf.b_];simp) (by show 0<=200;omega);have bo:cC 42 b.1.1 ({ s with done:=[],cE:=[],du:=[] }:LS)=s.ask b.1.1:=rfl;have a3:Hid (∀s' w',cH _ j L4 s' w'->cH w j L s' w'):=bZ (λs' w' hx=>cH.pre u (bf _ _ (bg _ _ (bh _ _ hx))));have aC:=bZ a8;have av:=bZ am;have a2:=bZ Z;clear a8 am Z d4 J d3 I d2 O P Q bf bg bh br bt bu ab ad ak h1 h2 h3 bc y h g hd hf Y d1 ay V;go_wp2_with fail;refine aC.Z.mono ?_;rintro e w5⟨x,rfl,S,R,B,bn⟩;rw[bo]at S R B;have g5:=R.g av.Z a2.Z;obtain⟨tc,ts,p,-⟩:=dG (s.ask b.1.1).1;have hT:=qa w5 g5 S;rw[p]at hT;obtain⟨F,l,C,D,z⟩:=a3.Z _ _ R;obtain⟨c,i,rfl,hi⟩:=S.form;have X:=bZ hT;have ax:=bZ (And.intro l (And.intro C (And.intro D (And.intro z B))));clear hT l C D z B R S bn aC av a2 a3 g5 f3 z3 f4 z4 c1 bp;have E:Hid (∀(W w':QV) (v:Xa),Xb w5 W->Xb W w'->CO w' W.1.size F v (if tc=12 then(s.ask b.1.1).2.cE else[])->D4 w j L s b.1.1 (.returned (.tuple #[.string ts,.int .i64 tc,v])) w'):=bZ (λW w' v hB bl r=>by
  obtain⟨l,C,D,z,B⟩:=ax.Z;have ao:=hB.trans (bl.mono hB.size);refine⟨v,tc,ts,F,rfl,p,l.st (λk n=>ao.block k (l.ct k n).2.1) (eH.below ao),C,D,z.trans (uE.below (L:=F) ao) C D,B,?_⟩;have bd:w.1.size<=W.1.size:=ah z.size hB.size;rcases r with r|⟨g',c',r1,r2,r3,r4⟩
  ·exact .inl r
  ·exact .inr ⟨g',c',r1,ah bd r2,r3,oW r4 bd⟩)
 rcases hi with rfl|⟨ti,ai,rfl⟩
 all_goals
  go_wp2_with fail;refine X.Z.mono ?_;rintro e T⟨rfl,a7⟩;have M:Xb w5 (T.alloc (.cells #[.int .i64 tc,.string ts] 59)):=a7.alloc a7.size _;by_cases aa:tc=12
  ·subst aa;obtain⟨l,-⟩:=ax.Z;have bk:fD (T.alloc (.cells #[.int .i64 12,.string ts] 59)) j (s.ask b.1.1).2 F:=l.st (λk n=>M.block k (l.ct k n).2.1) (eH.below M);obtain⟨bF,bC,bJ,bj,bP,bM,K⟩:=bk;have q3:(T.alloc (.cells #[.int .i64 12,.string ts] 59)).cell? ⟨j,3,none⟩=some bj:=by simp[World.cell?,K.eb]
   have bw:∃o m c,bj=.slice o m c:=by
    rcases K.cE.2 with⟨rfl,_⟩|⟨g,bx,bz,rfl,_⟩
    ·exact⟨_,_,_,rfl⟩
    exact⟨_,_,_,rfl⟩
   have a9:=CP K bq;obtain⟨o7,m7,c7,rfl⟩:=bw;have a0:=bZ a9;have bv:ts=⟨#[]⟩:=by
    cases r:(s.ask b.1.1).1 with
    |ok v=>rw[r]at p;cases p
    |error c=>rw[r]at p;cases p;rfl
   subst bv;clear a9 K l X p;go_wp2_with fail;refine a0.Z.mono ?_;rintro e w8⟨v,rfl,bm,ap,o8,m8,c8,rfl⟩;have U:=bZ (E.Z _ w8 _ M bm (by first|(rw[ag trivial];exact ap)|(rw[ag rfl];exact ap)));clear E a0 ap;go_wp2_with fail;exact UA (v:=.tuple #[.string ⟨#[]⟩,.int .i64 12,.slice o8 m8 c8]) Te rfl U.Z
  have bG:(tc != 12)=true:=by simpa using aa
  have U:=bZ (λk=>E.Z _ ((T.alloc (.cells #[.int .i64 tc,.string ts] 59)).drewN k) (.slice none 0 0) M (below_drewN (Uz _ _) k) (by rw[ae aa];exact .inl ⟨rfl,rfl⟩));clear E X;go_wp2_with fail
  go_quiet (fail)
  go_wp2_with fail;exact UA (v:=.tuple #[.string ts,.int .i64 tc,.slice none 0 0]) Te rfl (U.Z _)
end
section
variable{j p:Nat}{s:bY.LS}{L:Nat->Prop}{cs:Array Xa}{th:bY.cu}{b:a_}
def fD.more{w:QV}(h:fD w j s L)(m:8<=p)(hb:w.1[p]?=some (.cells cs 124 (0,0))):fD w j s (λk=>L k\/k=p):=by
 obtain⟨n,db,u,z,vn,y,h1⟩:=h;have l:∀k,L k->(L k\/k=p):=λk e=>.inl e;exact⟨n,db,u,z,vn,y,{
  eb:=h1.eb
  here:=.inl h1.here
  ne:=h1.ne
  cm:=h1.cm.mono l
  done:=h1.done.mono l
  b_:=h1.b_
  cE:=h1.cE
  du:=h1.du
  jr:=h1.jr
  dK:=λg r=>.inl (h1.dK g r)
  apart:=h1.apart
  oq:=h1.oq
  ct:=λk e=>by
   rcases e with e|rfl
   ·exact h1.ct k e
   ·exact⟨m,.inr ⟨_,_,_,hb,.inr (.inr (.inr (.inr (.inl rfl))))⟩⟩ }⟩
def wL{w:QV}(h:fc w L th p)(n:b.length<=200):(bY.dU b th).length<=200000:=by
 obtain⟨v,r,k,_,_,hc,m,_⟩:=h;unfold bY.dU;rcases m with⟨l,_,hv,_⟩|⟨t,a,l,_⟩
 ·rw[l];have:=lz (w:=w) (r:=.ok th.value) (.inl ⟨_,_,rfl,rfl,hv⟩);have e:bY.gu (.ok th.value)=bY.wr 3 th.value:=rfl;rw[e]at this;simp;omega
 rw[l];simp;omega
def IY{w:QV}{hb db:Nat}{J M vn K:Xa}(l:LP w j s L hb db J M vn K)(V:¬L p)(n:fc w (λk=>L k\/k=p) th p)(N:8<=p){b:ba}(R:b.size<=8)(hlen:s.cm.length<=40):∃w1 L3,(Instr.mapUpdate 104 (.map (some hb)) (.string b) (ptr p)).run Tryz.prog w=.ok () w1/\fD w1 j { s with cm:=bY.put s.cm b.1.1 th } L3/\fc w1 L3 th p/\(∀k,L3 k->(L k\/k=p)\/w.1.size<=k)/\(∀k,(L k\/k=p)->L3 k)/\ed (λk=>L k\/k=p) w w1:=by
 have Q:=n.block;obtain⟨_,cs,m⟩:=Q;obtain⟨P,ab,ai,ao,am,ak,h1⟩:=fD.more ⟨hb,db,J,M,vn,K,l⟩ N m;have e1:P=hb:=by
  have:=h1.eb;rw[l.eb]at this;cases this;rfl
 subst e1;have S:b.1.1.length<=8:=by rw[<-size_data];exact R
 obtain⟨w1,E,O,T,B⟩:=h1.Nl (kY:=b.1.1) (th:=th) (p:=p) n (λx q hx ⟨k,hl,F⟩=>by
  have C:bY.cr s.cm k=some x:=hl;obtain⟨p',Z,Y⟩:=l.cm.at C;have U:k.length<=maxLen:=by
   obtain⟨ad,r,G,u,I,q5,q6⟩:=l.cm;have D:=bY.j8 C;rw[r]at D;obtain⟨z,hz,aa⟩:=aH.1 D;have:=q5 z hz;have e:z.1=k:=congrArg Prod.fst aa;rw[e]at this;unfold maxLen;omega
  have:=Y false U;simp only[Q8,Qn]at this;rw[this]at F;have X:p'=q:=by
   have y:(Result.ok (ptr p') w:Result Xa)=.ok (ptr q) w:=F;simp[ptr]at y;exact y
  subst X;intro e;subst e;exact V Z.block.1) S RM
 rw[dF]at E;obtain⟨L3,r,G,u,I⟩:=O;refine⟨w1,L3,E,r,?_,G,u,I⟩;exact(n.st ((B _ _ _ _ m).trans m.symm) (λk _ cs t fz hc _=>B _ _ _ _ hc) T.stay).mono u
end
section
open bY
open Tryz
variable{L:Nat->Prop}{cm:List (a_×cu)}
def Lm{w:QV}{hb:Nat}(h:ik w L hb cm)(ty):(Builtin.len_ #[104] ty #[.map (some hb)]).run prog w=.ok (.int .i64 cm.length) w:=by
 obtain⟨b,h1,h2,_⟩:=h;have:=h2.len (ty:=ty) underlying104;rw[this,h1];simp
def AH(w m p b s L th)(h:fD w m s L)(g:G w)(hd:jI w)(j:b.size<=8)(hp:¬L p)(U:8<=p)(K:fc w (λk=>L k\/k=p) th p)(hlen:s.cm.length<=40)(hj:(cW s.jr).length<=70368744177664):Calls prog 53 #[ptr m,.string b,ptr p] w λe w'=>e=.returned (.int .i64 ((s.iq b.1.1 th).1:Nat))/\ez w m (λk=>L k\/k=p) (s.iq b.1.1 th).2 w':=by
 have T:b.1.1.length<=maxLen:=Sd;have ad:b.1.1.length<=200:=by rw[<-size_data];omega
 have aa:=K.block;obtain⟨_,cs,ab⟩:=aa;have B:=fD.more h U ab;obtain⟨hb,db,vb,vr,vn,vj,l⟩:=h;have c0:w.cell? ⟨m,0,none⟩=some (.map (some hb)):=by simp[World.cell?,l.eb]
 have ai:=Lm l.cm 3;obtain⟨w1,L3,ak,F,M,J,Q,u⟩:=IY l hp K U j hlen;have av:=wL M ad;have r:G w1:=DN B u g;have d1:jI w1:=yV B u g hd;have hT:=wH w1 L3 th p b M r RM;have am:str (dU b.1.1 th)=.string ⟨(dU b.1.1 th).toArray⟩:=rfl;rw[am]at hT;have P:∀w2,Xb w1 w2->Calls prog 59 #[ptr m,.string ⟨(dU b.1.1 th).toArray⟩] w2 λe w'=>e=.returned (.tuple #[])/\ez w m (λk=>L k\/k=p) ({ s with cm:=bY.put s.cm b.1.1 th }.write (dU b.1.1 th)) w':=λw2 y=>by
  have Z:fD w2 m { s with cm:=bY.put s.cm b.1.1 th } L3:=F.st (λk j=>y.block k (F.ct k j).2.1) (eH.below y);have ao:(⟨(dU b.1.1 th).toArray⟩:ba).size=(dU b.1.1 th).length:=size_mk _;have V:(⟨(dU b.1.1 th).toArray⟩:ba).1.1=dU b.1.1 th:=R2;have:=pC w2 m { s with cm:=bY.put s.cm b.1.1 th } L3 ⟨(dU b.1.1 th).toArray⟩ Z (r.below y r.size) (d1.below y r.size) (by rw[ao];omega) (by
   rw[V];show(cW (s.jr++[_])).length<=_;rw[eN,aj,jB];omega)
  rw[V]at this;refine this.mono ?_;rintro e w'⟨rfl,Y,q1,q2,q3,q4⟩;refine⟨rfl,Y,q1,λk j=>?_,λk j=>q3 k (Q k j),u.trans ((ed.below (L:=L3) y).trans q4.toed (λk j=>.inl j)) J⟩;rcases q2 k j with h|h
  ·exact J k h
  have:=y.size;have:=u.size;exact .inr RM
 by_cases n:(bY.cr s.cm b.1.1).isNone=true/\40<=s.cm.length
 ·have z:s.iq b.1.1 th=(5,s):=by unfold LS.iq;rw[ag n]
  rw[z];have hl:bY.cr s.cm b.1.1=none:=Option.isNone_iff_eq_none.1 n.1;have C:=l.cm.yY hl T;rw[dF]at C;have R:=n.2;have D:Hid (ez w m (λk=>L k\/k=p) s w):=bZ ⟨_,B,λk j=>.inl j,λk j=>j,ed.refl _ _⟩;clear n z hl P hT M F ak l B K u J Q r d1;unfold ptr at *;go_enter func53,ntmps53;go_wp2_with fail;exact UA (v:=.int .i64 5) Tf rfl ⟨rfl,D.Z⟩
 have z:s.iq b.1.1 th=(0,{ s with cm:=bY.put s.cm b.1.1 th }.write (dU b.1.1 th)):=by unfold LS.iq;rw[ae n]
 rw[z];have N:=bZ hT;have O:=bZ P;cases hl:bY.cr s.cm b.1.1 with
 |none =>
  have C:=l.cm.yY hl T;rw[dF]at C;have R:¬40<=s.cm.length:=λR=>n ⟨by rw[hl];rfl,R⟩;have ap:((s.cm.length:Int)<40):=RM;clear n z hl P hT M F l B K u J Q r d1;unfold ptr at *;go_enter func53,ntmps53;go_wp2_with fail;refine N.Z.mono ?_;rintro e w2⟨rfl,S⟩;have E:=bZ (O.Z w2 S);clear N O;go_wp2_with fail;refine E.Z.mono ?_;rintro e w3⟨rfl,I⟩;have D:=bZ I;clear E I;go_wp2_with fail;exact UA (v:=.int .i64 0) Tf rfl ⟨rfl,D.Z⟩
 |some ax =>
  obtain⟨p0,_,X⟩:=l.cm.at hl;have C:=X true T;rw[dF]at C;simp only[aN]at C;clear n z hl P hT M F l B K u J Q r d1 X ai;unfold ptr at *;go_enter func53,ntmps53;go_wp2_with fail;refine N.Z.mono ?_;rintro e w2⟨rfl,S⟩;have E:=bZ (O.Z w2 S);clear N O;go_wp2_with fail;refine E.Z.mono ?_;rintro e w3⟨rfl,I⟩;have D:=bZ I;clear E I;go_wp2_with fail;exact UA (v:=.int .i64 0) Tf rfl ⟨rfl,D.Z⟩
end
section
open bY
open Tryz
variable{y:Nat}{s:bY.LS}{L:Nat->Prop}{k l:a_}
def bY.LS.lH(s:bY.LS)(b e:a_):Nat×bY.LS :=if dL b=false then(1,s)else match sA e with
  |none=>(6,s)
  |some v=>s.iq b ⟨v,none,[],none⟩
def ez.new{w w1 w':QV}{p:Nat}(b:Xb w w1)(u:w.1.size<=p)(h:ez w1 y (λk=>L k\/k=p) s w'):ez w y L s w':=by
 obtain⟨L',h1,h2,n,j⟩:=h;refine⟨L',h1,λk m=>?_,λk m=>n k (.inl m),⟨j.os.trans b.os,j.tape.trans b.tape,j.output.trans b.output,ah b.size j.size,λk m r=>?_⟩⟩
 ·rcases h2 k m with(h|rfl)|h
  ·exact .inl h
  ·exact .inr u
  have:=b.size;exact .inr RM
 have:=b.size;exact(j.block k RM (λe=>by rcases e with e|e;exact r e;omega)).trans (b.block k m)
def ez.below{w w':QV}(h:fD w y s L)(b:Xb w w'):ez w y L s w':=(cH.below h b).O4
def kC(h:dL k=true):k.length<=8:=by
 unfold dL at h;simp only[QB,P']at h;obtain⟨h1,h2⟩:=h;cases k with
 |nil=>cases h1
 |cons c r =>
  rw[fZ _ c r rfl]at h1 h2;split at h1
  ·split at h1<;>cases h1
  rename_i hd;rw[ae hd]at h2;split at h1
  ·rename_i hl;rw[ag hl]at h2;split at h1
   ·cases h1
   rename_i j;rw[ae j]at h2;split at h1
   ·cases h1
   rename_i e;rw[ae e]at h2;omega
  rename_i hl;split at h1
  ·cases b:dM _ with
   |none=>rw[b]at h1;cases h1
   |some n=>rw[b]at h1;cases h1
  split at h1<;>cases h1
def Lo(w y b j s L)(h:fD w y s L)(g:G w)(hd:jI w)(F:b.size<=281474976710656)(Z:j.size<=281474976710656)(hlen:s.cm.length<=40)(hj:(cW s.jr).length<=70368744177664):Calls prog 23 #[ptr y,.string b,.string j] w λe w'=>e=.returned (.int .i64 ((s.lH b.1.1 j.1.1).1:Nat))/\ez w y L (s.lH b.1.1 j.1.1).2 w':=by
 have u:=eg b w g F;cases r:dL _ with
 |false =>
  have e:s.lH b.1.1 j.1.1=(1,s):=by unfold bY.LS.lH;rw[ag r]
  rw[e];rw[r]at u;have z:=bZ u;have HL:=bZ h;unfold ptr;go_enter func23,ntmps23;go_wp2_with fail;refine z.Z.mono ?_;rintro e w1⟨rfl,D⟩;go_wp2_with fail;exact UA (v:=.int .i64 1) (by simp[results,results23,go_sem]) rfl ⟨rfl,ez.below HL.Z D⟩
 |true =>
  rw[r]at u;have X:b.size<=8:=by rw[size_data];exact kC r
  have e0:s.lH b.1.1 j.1.1=match sA j.1.1 with|none=>(6,s)|some v=>s.iq b.1.1 ⟨v,none,[],none⟩:=by
   unfold bY.LS.lH;rw[ae (by rw[r];exact λe=>by cases e)]
  rw[e0];generalize N:(λ(e:Ending) (w':QV)=>e=.returned _/\ez w y L ((match sA _ with|none=>(6,s)|some v=>s.iq _ ⟨v,none,[],none⟩):Nat×bY.LS).2 w')=J;have S:Hid (sA j.1.1=none->∀w',ez w y L s w'->J (.returned (.int .i64 6)) w'):=bZ (λhv w' p=>by
   rw[<-N,hv];exact⟨rfl,p⟩)
  have T:Hid (∀v,sA j.1.1=some v->∀w',ez w y L (s.iq b.1.1 ⟨v,none,[],none⟩).2 w'->J (.returned (.int .i64 ((s.iq b.1.1 ⟨v,none,[],none⟩).1:Nat))) w'):=bZ (λv hv w' p=>by
   rw[<-N,hv];exact⟨rfl,p⟩)
  have V:=λ(w1:QV) (D:Xb w w1)=>I2 j w1 (g.below D g.size) Z;have z:=bZ u;have Q:=bZ V;have HL:=bZ (And.intro h (And.intro g hd));unfold ptr;go_enter func23,ntmps23;go_wp2_with fail;refine z.Z.mono ?_;rintro e w1⟨rfl,m⟩;have R:=bZ (Q.Z w1 m);go_wp2_with fail;refine R.Z.mono ?_;rintro e w2⟨K,⟨v,I,C,hv,rfl,hval⟩|⟨hv,rfl⟩⟩
  ·have E:=m.trans (K.mono m.size);have n:Xb w (w2.alloc (.cells #[.iface I C,.pointer none,.string ⟨#[]⟩,.pointer none] 124)):=E.alloc E.size _;obtain⟨h,g,hd⟩:=HL.Z;have U:=h.st (λk F=>n.block k (h.ct k F).2.1) (eH.below n);have Y:=heap_alloc_new w2 (.cells #[.iface I C,.pointer none,.string ⟨#[]⟩,.pointer none] 124);have O:=E.size;have aa:=hval.keeps (cK.below ((Uz _ w2).alloc (af _) (.cells #[.iface I C,.pointer none,.string ⟨#[]⟩,.pointer none] 124)));have M:=AH _ y w2.1.size b s L ⟨v,none,[],none⟩ U (g.below n g.size) (hd.below n g.size) X (λhl=>by have:=(h.ct _ hl).2.1;omega) (ah g.size O) ⟨_,_,_,Y,.inr rfl,by simp,.inl ⟨rfl,rfl,aa,rfl⟩,.inl ⟨rfl,rfl⟩⟩ hlen hj;unfold ptr at M;have P:=bZ M;go_wp2_with fail;refine P.Z.mono ?_;rintro e w4⟨rfl,p⟩;have B:=bZ (T.Z v hv _ (ez.new n O p));go_wp2_with fail;exact B.Z
  have B:=bZ (S.Z hv _ (ez.below HL.Z.1 (m.trans (K.mono m.size))));go_wp2_with fail;exact B.Z
/-! Rules. -/
def dI.lower{w:QV}:∀m n b t x,ib m b t=true->dI w n t x->dI w m t x
 |0,n,b,t,x,h,_=>by unfold ib at h;cases h
 |m+1,0,b,t,x,_,h=>h.elim
 |m+1,n+1,b,t,x,h,⟨b',i,s,qs,fz,h1,h2,r,z,B,C⟩=>by
  obtain⟨_,_,k3,k4,F⟩:=FK h;refine⟨b',i,s,qs,fz,h1,h2,r,z,B,λj u q hu E=>?_⟩;have hx:=C j u q hu E;by_cases e:t.cq=15\/t.cq=16
  ·have hl:t.parts.length=2:=by
    rcases k3 with k3|k3
    ·omega
    rw[k3];rcases e with e|e<;>rw[e]<;>rfl
   obtain⟨p,a1⟩:=k4 e;have hj:=(az.1 hu).1;have D:j=0\/j=1:=RM;rcases D with rfl|rfl
   ·have:t.cG 0=u:=by unfold bY.T.cG;rw[hu];rfl
    rw[this]at p;exact dI.lower m n b u q p hx
   have:t.cG 1=u:=by unfold bY.T.cG;rw[hu];rfl
   rw[this]at a1;exact dI.lower m n true u q a1 hx
  exact dI.lower m n b u q (F e u (aL hu)) hx
def Lq{n m:Nat}(h:n<=m):hT n<=hT m:=by
 induction h with
 |refl=>exact af _
 |step _ b=>exact ah b (by show _<=hT _+_+2;omega)
def AV{t:bY.T}(h:mG l=some t):l.length<=200/\t=gG l/\ib (hM t) false t=true:=by
 unfold mG at h;split at h
 ·cases h
 rename_i hl;have b:l.length<=200:=RM;split at h
 ·rename_i j ts e;split at h
  ·obtain⟨h1,_,_⟩:=ML l b _;obtain⟨_,_,t',p,n⟩:=h1 0 0 0 _ [] j ts RM (pj l 0 (au _)) e;subst p;simp at h;subst h;refine⟨b,?_,?_⟩
   ·unfold gG;rw[e];rfl
   have m:hT (8*l.length+5)<=hM t':=by
    unfold hM;rw[Q6,Qc];exact Lq RM
   exact jX n m
  cases h
 cases h
def NA(w y j b s L t)(h:fD w y s L)(g:G w)(hd:jI w)(D:dL j.1.1=true)(I:mG b.1.1=some t)(hlen:s.cm.length<=40)(hj:(cW s.jr).length<=70368744177664):Calls prog 25 #[ptr y,.string j,.string b] w λe w'=>e=.returned (.tuple #[.int .i64 ((s.iq j.1.1 ⟨vn 0,some t,b.1.1,none⟩).1:Nat),.int .i64 0])/\ez w y L (s.iq j.1.1 ⟨vn 0,some t,b.1.1,none⟩).2 w':=by
 obtain⟨C,-,E⟩:=AV I;have ab:j.size<=8:=by rw[size_data];exact kC D
 have z:=eg j w g RM;rw[D]at z;have ao:b.size<=200:=by rw[size_data];exact C
 have B:=λ(w1:QV) (U:Xb w w1)=>va b w1 (g.below U g.size) RM;rw[I]at B;generalize Y:(λ(e:Ending) (w':QV)=>e=.returned _/\ez w y L (s.iq _ ⟨vn 0,some t,b.1.1,none⟩).2 w')=S;have R:=bZ Y;have N:=bZ z;have P:=bZ B;have HL:=bZ (And.intro h (And.intro g hd));unfold ptr;go_enter func25,ntmps25;go_wp2_with fail;refine N.Z.mono ?_;rintro e w1⟨rfl,p⟩;have Q:=bZ (P.Z w1 p);go_wp2_with fail;refine Q.Z.mono ?_;rintro e w2⟨⟨q,rfl,hq⟩,V⟩;obtain⟨Z,aa,a,rfl,n,am⟩:=hq t rfl;rw[Z,aa];have K:=dI.lower _ _ _ _ _ E am;obtain⟨tb,J⟩:=AB K;unfold ptr at J;cases J;have r:=p.trans (V.mono p.size);have m:Below _ w (w2.alloc (.cells #[.nilIface,.pointer (some ⟨tb,0,none⟩),.string b,.pointer none] 124)):=r.alloc r.size _;obtain⟨h,g,hd⟩:=HL.Z;have T:=h.st (λk hk=>m.block k (h.ct k hk).2.1) (eH.below m);have ad:=heap_alloc_new w2 (.cells #[.nilIface,.pointer (some ⟨tb,0,none⟩),.string b,.pointer none] 124);have F:=r.size;have ak:=K.keeps (cK.below ((Uz _ w2).alloc (af _) (.cells #[.nilIface,.pointer (some ⟨tb,0,none⟩),.string b,.pointer none] 124)));have ai:=dF b;have u:=AH _ y w2.1.size j s L ⟨vn 0,some t,b.1.1,none⟩ T (g.below m g.size) (hd.below m g.size) ab (λhl=>by have:=(h.ct _ hl).2.1;omega) (ah g.size F) ⟨_,_,_,by rw[ai];exact ad,.inr rfl,C,.inr ⟨t,_,rfl,rfl,rfl,E,ak⟩,.inl ⟨rfl,rfl⟩⟩ hlen hj;unfold ptr at u;have M:=bZ u;go_wp2_with fail;refine M.Z.mono ?_;rintro e w4⟨rfl,X⟩;have O:Hid (S (.returned (.tuple #[.int .i64 ((s.iq j.1.1 ⟨vn 0,some t,b.1.1,none⟩).1:Nat),.int .i64 0])) w4):=bZ (by
  rw[<-R.Z];exact⟨rfl,ez.new m F X⟩)
 go_wp2_with fail;exact O.Z
end
