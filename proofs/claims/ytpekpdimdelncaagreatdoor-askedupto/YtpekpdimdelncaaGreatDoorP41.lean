/- Out of B13. -/
import Derived.Test.YtpekpdimdelncaaGreatDoorP37
import Derived.Test.YtpekpdimdelncaaGreatDoorP38
set_option linter.unusedVariables false
set_option linter.unusedSimpArgs false
set_option maxRecDepth 100000
set_option maxHeartbeats 4000000
set_option linter.defProp false
namespace Go.Proofs.YtpekpdimdelncaaGreatDoor
open Go.RowKit Go.Shelf
section
open bY
open Tryz
namespace Ref
def J5(C n:Nat)(says:vP C n)(w:QV)(s:LS)(rn:List (a_))(L:Nat->Prop)(h:fA C s rn w L)(i:Nat)(p:a_×cu)(hp:s.cm[i]?=some p)(cc:bY.cr s.cm p.1=some p.2)(t:bY.T)(ht:p.2.dc=some t)(bC:p.1∉rn)(bk:∀k∈p.1 :: rn,k∈s.b_)(y:qc){k1 k2 b1 b2:ba}{a1 F:Int}(hy:dB y=[.string k1,.string k2,.int .i64 a1,.string b1,.int .i64 F,.string b2])(S:gn s)(g3:s.du.length<=1000)(eb:s.cm.length<=40)
  (bg:∀s' c,jg { s with du:=s.du++[y] } s' c->c<=400->gn s'->Ph s'<=Ph { s with du:=s.du++[y] }->vM n s') :
  Calls prog 151 #[ptr C,.int .i64 (i:Int),.agg #[.string k1,.string k2,.int .i64 a1,.string b1,.int .i64 F,.string b2]] w λe w'=>e=.returned (.tuple #[])/\eX (Me C (fR (cC n) p.1 t y s).2 rn i (fR (cC n) p.1 t y s).1) w L w':=by
 obtain⟨es,fl,vA,vF,vB,vR,vN,h⟩:=h;have bm:Xb w (w.alloc (.cells #[.string k1,.string k2,.int .i64 a1,.string b1,.int .i64 F,.string b2] 199)):=(Uz _ w).alloc (af _) _;have h1:=h.below bm;obtain⟨e,g,bl,he,hE,rfl,hg,hc⟩:=h1.entry hp;obtain⟨xk,ct⟩:∃x:ba,str e.key=.string x:=⟨_,rfl⟩;have z0:=hc 0 (.string xk) (by rw[<-ct];rfl);simp only[Qc]at z0;have z2:=hc 2 _ rfl;have z3:=hc 3 _ rfl;obtain⟨c0,c1,c2,c3,c4,c5,cf⟩:=h1.cells;have gF:=cj h1.eb;have hi:=(az.1 hp).1;have gz:(i:Int)<(s.cm.length:Int):=RM;have h8:8<=w.1.size:=ah (h.ct _ h.here).1 (aE (h.ct.lt h.here));obtain⟨oN,cN,rfl⟩:=dP h1.runs;have cL:=bZ (λ(w1 w2:QV) (g bl:Nat)=>h1.Mb y (w1:=w1) (w2:=w2) (g:=g) (cP:=bl));have Y:=bZ h1.runs;have ak:(w.alloc (.cells #[.string k1,.string k2,.int .i64 a1,.string b1,.int .i64 F,.string b2] 199)).1[w.1.size]?=some (.cells #[.string k1,.string k2,.int .i64 a1,.string b1,.int .i64 F,.string b2] 199 (0,0)):=heap_alloc_new w _;have f0:(w.alloc (.cells #[.string k1,.string k2,.int .i64 a1,.string b1,.int .i64 F,.string b2] 199)).cell? ⟨w.1.size,0,none⟩=some (.string k1):=by simp only[World.cell?,ak];rfl
 have f1:(w.alloc (.cells #[.string k1,.string k2,.int .i64 a1,.string b1,.int .i64 F,.string b2] 199)).cell? ⟨w.1.size,1,none⟩=some (.string k2):=by simp only[World.cell?,ak];rfl
 have f2:(w.alloc (.cells #[.string k1,.string k2,.int .i64 a1,.string b1,.int .i64 F,.string b2] 199)).cell? ⟨w.1.size,2,none⟩=some (.int .i64 a1):=by simp only[World.cell?,ak];rfl
 have f3:(w.alloc (.cells #[.string k1,.string k2,.int .i64 a1,.string b1,.int .i64 F,.string b2] 199)).cell? ⟨w.1.size,3,none⟩=some (.string b1):=by simp only[World.cell?,ak];rfl
 have f4:(w.alloc (.cells #[.string k1,.string k2,.int .i64 a1,.string b1,.int .i64 F,.string b2] 199)).cell? ⟨w.1.size,4,none⟩=some (.int .i64 F):=by simp only[World.cell?,ak];rfl
 have f5:(w.alloc (.cells #[.string k1,.string k2,.int .i64 a1,.string b1,.int .i64 F,.string b2] 199)).cell? ⟨w.1.size,5,none⟩=some (.string b2):=by simp only[World.cell?,ak];rfl
 have f6:=cj ak;have M:e.kept=p.2.kept.isSome:=by
  have:=hE.kept.is;rw[ae bC]at this;exact this
 have ai:xk.1.1=p.1:=by rw[<-hE.key];exact fG ct
 have cG:=bZ (And.intro M ai);clear h h1 hc hE ak M ai;unfold ptr;go_enter func151,ntmps151
 go_upto_region 2 with fail
 generalize f7:w.alloc (.cells #[.string k1,.string k2,.int .i64 a1,.string b1,.int .i64 F,.string b2] 199)=W1 at *
 go_cut []from 18 to 27 (λE=>Hid (∃Z vN',fW E C { s with du:=s.du++[y] } rn Z es fl (.slice (some ⟨g,0,none⟩) s.cm.length bl) vF vB vR vN'/\(∀k,Z k->L k\/w.1.size<=k)/\(∀k,L k->Z k)/\ed L w E))
 case first =>
  go_region_law (refine jc rfl (.tmp 22) (.tmp 24) 99 rfl 199 _ 6 80 underlying99 JE OP RZ (.slice oN s.du.length cN) _ (s.du.flatMap dB) rfl (UL (w:=W1.drewN _) Y.Z _) ⟨W1.1.size,0,none⟩ 1 [.string k1,.string k2,.int .i64 a1,.string b1,.int .i64 F,.string b2] rfl rfl (nH _ _ _ _) Tw RM R6 R5 ?_;intro g1 dk w3 ho d6 ej hold;obtain⟨G,q2,q3,⟨v0,hw⟩,gg,gR⟩:=cL.Z _ w3 g1 dk (qm _ _ _) (by rw[hy];exact ho) d6 ej hold;have HQ:=bZ (And.intro G (And.intro q2 q3)))
  all_goals
   go_wp2_with fail
   go_meet
   case rel=>exact bZ ⟨_,_,HQ.Z.1,λk b=>(by rcases HQ.Z.2.1 k b with h|h;exact .inl h;exact .inr (by have:=bm.size;omega)),λk b=>.inl b,(ed.below bm).trans HQ.Z.2.2 (λk b=>.inl b)⟩
 case rest =>
  obtain⟨Z,vN',h2,dx,dy,dv⟩:=hcut.Z;obtain⟨e2,g2,e8,dQ,bN,eY,gi,bu⟩:=h2.entry hp;cases eY;obtain rfl:e=e2:=aB (he.symm.trans dQ);have d4:es.length=s.cm.length:=h2.kE;obtain⟨fk,fr,bU⟩:=cz h2.all (g:=g) rfl;have z2:=bu 2 _ rfl;have z3:=bu 3 _ rfl;have z4:=bu 4 _ rfl;have ga:∀j,wc.frozen? ⟨g,j,none⟩=false:=λj=>by
   rcases h2.all.2 with⟨l,_⟩|⟨g',cp,bL,l,_,hb,_⟩
   ·cases l
   have a0:some g=some g':=congrArg Value.ownBlock l;cases a0;simp[World.frozen?,hb]
  obtain⟨t',ns,m,o,cR,r1,r2,r3,r4,r5,r6,r7,r8⟩:∃t' ns m o c,p.2.dc=some t'/\e.text=p.2.came/\e.eY=.slice (some o) ns.length c/\wN wc 8 e.eY ns/\nB ns m (ns.length-1) t'/\0<ns.length/\ns.length<=2000/\ib (hM t') false t'=true:=by
   rcases bN.eY with⟨l,_⟩|l
   ·rw[ht]at l;cases l
   exact l
  obtain rfl:t=t':=aB (ht.symm.trans r1);obtain⟨c0,c1,c2,c3,c4,c5,cf⟩:=h2.cells;have g8:=cj h2.eb;have ea:g≠C:=λe=>by rw[e,h2.eb]at bU;cases bU
  have g5:C≠g:=λe=>ea e.symm;have cd:=h2;rw[<-d4]at cd;obtain⟨o1,o2⟩:=cd.NQ hp he;rw[r3]at z2 r4;have eU:ns.length<=2000:=r7;have V:=bZ (And.intro o1 o2);have cU:=bZ h2.ct;have H2:=bZ (And.intro r4 (And.intro r5 (And.intro r6 (And.intro r8 bN))));have HP:=bZ (And.intro dx (And.intro dy dv));have e3:((ns.length-1:Nat):Int)=(ns.length:Int)-1:=RM;have bf:LA t:=S.dc p.1 p.2 t cc ht
  apply_assumption
  go_upto_region 7 with fail
  generalize dK:(wc.setCell ⟨g,i*7+3,none⟩ (.bool false)).setCell ⟨g,i*7+4,none⟩ (.slice none 0 0)=K at *;have ch:K.1.size=wc.1.size:=by rw[<-dK];simp
  have ey:wN K 8 (.slice (some o) ns.length cR) ns:=H2.Z.1.st (KN.ot cU.Z V.Z.2);have d5:=JF (c:=⟨C,K.1.size,p.1 :: rn,.slice (some o) ns.length cR,ns,{ s with du:=s.du++[y] },n,says,bg,bk⟩) (s:={ s with du:=s.du++[y] }) (w:=K) (L:=Z) ⟨_,_,_,_,_,_,_,V.Z.1⟩ rfl ey;have am:=Dq ⟨C,K.1.size,p.1 :: rn,.slice (some o) ns.length cR,ns,{ s with du:=s.du++[y] },n,says,bg,bk⟩ (hM t) m false t (ns.length-1) none H2.Z.2.2.2.1 bf H2.Z.2.1 (λh=>by cases h) (λu hu=>by cases hu) _ _ _ [] 400 0 _ d5 (af _) ⟨⟨0,jg.refl _ 0,by omega,af _⟩,⟨S.val,S.dc,S.kept,S.done⟩,af _,A_.nil _⟩ (FZ _ _ RM);rw[e3,ch]at am;unfold ql at am;obtain⟨R,hR⟩:∃R,(tr (hM t) t none 400).run (d_ (cC n)) ({ s with du:=s.du++[y] },[])=R:=⟨_,rfl⟩;simp only[Nn]at am;rw[hR]at am;obtain⟨tc,ts,cl⟩:=dG R.1.1;rw[cl]at am;unfold ptr FY at am;have bI:=bZ am;have Y:=bZ (And.intro hR cl);go_wp2_with(go_at_call 196;refine bI.Z.mono ?_;rintro er O ⟨rfl,dz⟩);obtain⟨M4,bO,bR,bS,bQ⟩:=dz;have bE:=(sh (A:=L3) ⟨C,K.1.size,p.1 :: rn,.slice (some o) ns.length cR,ns,{ s with du:=s.du++[y] },n,says,bg,bk⟩ 0 (tr (hM t) t none 400) 400 { s with du:=s.du++[y] } [] ⟨⟨0,jg.refl _ 0,by omega,af _⟩,⟨S.val,S.dc,S.kept,S.done⟩,af _,A_.nil _⟩ ((nE _ bf (λv hv=>by cases hv)).sp 400) ((nE _ bf (λv hv=>by cases hv)).pp 400) ((nE _ bf (λv hv=>by cases hv)).pe 400))
  simp only[Nn]at bE;rw[Y.Z.1]at bE;have bo:=bO.below (eB O tc ts);have bt:=nK O tc ts;have P:=bZ (And.intro (eB O tc ts) bo.ct);obtain⟨L4,vQ,G,q2,q3,q4,q5,q6,q7⟩:=bo.parts;obtain⟨aa,bM,e5,cB,cA,cF,cE,G⟩:=G;have G:fW (gO O tc ts) C R.2.1 (p.1 :: rn) L4 aa bM e5 cB cA cF cE:=G;obtain⟨bh,eW,gN,gP⟩:=bE;obtain⟨kO,n1,n2,n3⟩:=bh.p8;obtain⟨p',T,N,eV⟩:=xY (h:=s.cm) n1.cX hp;obtain⟨D,B,dn,d3,bP,cn,gj,bv⟩:=G.entry T;have bG:ei R.1.1=[.int .i64 tc,.string ts]:=by
   have:=Y.Z.2;generalize R.1.1=r at this;cases r<;>(cases this;rfl)
  have eh:R.2.1.cm.length=aa.length:=G.kE.symm;rw[eh]at cn;subst cn;have hW:=G.JD T d3 (by rw[N];simp) R.1.1 bG;obtain⟨e7,c8,c9,dc,dg,dj,ff⟩:=G.cells;obtain⟨b5,b6,b7,b8,b9⟩:=cM (nK O tc ts);obtain⟨y5,z5,cy⟩:∃y z,ei D.w=[y,z]:=by
   obtain⟨k1,k2,k3,k4,k5,w5⟩:=D;cases w5<;>exact⟨_,_,rfl⟩
  have x5:=bv 5 y5 (by show(ei D.w)[0]?=_;rw[cy];rfl);have x6:=bv 6 z5 (by show(ei D.w)[1]?=_;rw[cy];rfl);have xf:∀j,(gO O tc ts).frozen? ⟨B,j,none⟩=false:=λj=>by
   rcases G.all.2 with⟨l,_⟩|⟨g',cp,bL,l,_,hb,_⟩
   ·cases l
   have a0:some B=some g':=congrArg Value.ownBlock l;cases a0;simp[World.frozen?,hb]
  have gx:(i:Int)<(aa.length:Int):=by rw[G.kE];have:=(az.1 T).1;omega
  have gB:aa.length<=40:=by
   have h1:=congrArg List.length n1.cX;unfold bY.cX at h1;rw[aG,aG]at h1;rw[G.kE,h1];exact eb
  have HW:=bZ hW;have X:=bZ (And.intro G (And.intro q2 (And.intro q4 (And.intro q5 (And.intro q6 q7)))));have bc:=bZ (And.intro bR (And.intro bS bQ));clear hW G q2 q4 q5 q6 q7 bR bS bQ c8 c9 dc dg dj bO bo bv z2 z3 z4 c0 cf bI;change Code.wp _ _ _ _ (gO O tc ts);generalize gO O tc ts=W5 at *;generalize wc=Wc at *
  go_cut []from 69 to 76 (λE=>Hid (Below (W5.setCell ⟨B,i*7+5,none⟩ (.int .i64 tc)).1.size ((W5.setCell ⟨B,i*7+5,none⟩ (.int .i64 tc)).setCell ⟨B,i*7+6,none⟩ (.string ts)) E))
  case first =>
   go_region
   all_goals
    go_wp2_with fail
    go_meet
    case rel=>exact bZ ((Uz _ _).drew)
  case rest =>
   generalize wc=E at *;have ao:Hid ((∀k,M4 k->(Z k\/k=K.1.size)\/(FY K (.slice (some o) ns.length cR)).1.size<=k)/\(∀k,(Z k\/k=K.1.size)->M4 k)/\ed (λk=>Z k\/k=K.1.size) (FY K (.slice (some o) ns.length cR)) O):=bZ (by rw[ch];exact bc.Z);have ay:fR (cC n) p.1 t y s=gT p.1 (R.1.1,R.2):=by
    unfold fR bY.prog;rw[Pg.rO,Y.Z.1]
   have a9:gC R.1.1=decide (tc=12):=by
    have:=Y.Z.2;generalize R.1.1=r at this;cases r with
    |ok v=>cases this;rfl
    |error c =>
     cases this;show(c==12)=decide ((c:Int)=12);by_cases hc:c=12
     ·subst hc;rfl
     rw[beq_false_of_ne hc,aF RM]
   have ab:Below ((W5.setCell ⟨B,i*7+5,none⟩ (.int .i64 tc)).setCell ⟨B,i*7+6,none⟩ (.string ts)).1.size ((W5.setCell ⟨B,i*7+5,none⟩ (.int .i64 tc)).setCell ⟨B,i*7+6,none⟩ (.string ts)) E:=hcut.Z.mono R2;have J:=HW.Z.1.below ab;have I:ed L4 W5 E:=HW.Z.2.trans (ed.below ab) (λk b=>.inl b);have em:¬L4 O.1.size:=λhl=>by
    obtain⟨_,cs,ty,fz,hb,hty⟩:=X.Z.1.ct _ hl;rw[bt]at hb;cases hb;exact hty.Pp rfl
   obtain⟨y0,y1,y2,y3,y4⟩:=cM ((I.block _ (cj bt) em).trans bt);obtain⟨e6,g6,e9,bV,dr,co,gr,bw⟩:=J.entry T;have d8:some B=some g6:=congrArg Value.ownBlock co;cases d8;clear co;have bD:=bg R.2.1 kO n1 RM bh.fs bh.ph;have a3:i<aa.length:=RM;rw[P4 a3]at bV;obtain rfl:=aB bV;have bB:(R.2.1.cm.map (·.1)).Nodup:=X.Z.1.nodup;have cb:cS R.2.1.cm p.1=p.2.kept:=by
    rw[<-Y.Z.1];refine(Mf (s:={ s with du:=s.du++[y] }) (bk p.1 R2)).trans ?_;show cS s.cm p.1=_;unfold cS;rw[cc];rfl
   have b3:(cW R.2.1.jr).length<=1000000000000000000:=ah (aJ _ _) bD.ph;have ec:p.1.length<=8:=bD.hl.key p.1 (by rw[<-N,kS (k:=p'.1) (a:=p'.2) bB T];rfl);obtain⟨M,ai⟩:=cG.Z;by_cases bd:tc=12
   ·subst bd;have bj:gC R.1.1=true:=by rw[a9];rfl
    have aC:=fW.NS (p:=p') (rn:=rn) (by rw[N];exact J) T (by rw[N];exact bC);cases b:e.kept with
    |false =>
     have ef:p.2.kept=none:=by
      rw[b]at M;cases hq:p.2.kept with
      |none=>rfl
      |some _=>rw[hq]at M;cases M
     have b4:cS R.2.1.cm p.1=none:=cb.trans ef;have bX:eX (Me C (fR (cC n) p.1 t y s).2 rn i (fR (cC n) p.1 t y s).1) w L E:=by
      rw[ay,JJ bj b4];have hs:bY.di R.2.1.cm p'.1 none=R.2.1.cm:=zv bB T (by have:=Ej bB T;rw[N]at this;exact this.symm.trans b4);rw[hs]at aC;exact vU HP.Z V.Z.2 (nJ _ _) ao.Z P.Z.1 P.Z.2 aC X.Z.2.1 I (P4 a3) rfl
     have cI:=bZ bX;clear ay a9 M ai bX aC J I X HW bc ao P HP V hcut ab
     apply_assumption
     go_wp2_with fail
     (try simp only[Exit.inBlock,Exit.then])
     refine UA (UO rfl _ _ _) rfl ?_;exact⟨rfl,cI.Z⟩
    |true =>
     have ca:(cS R.2.1.cm p.1).isSome=true:=by rw[cb,<-M,b]
     have cm:(⟨#[108,111,115,101,32]⟩++xk:ba).1.1=[108,111,115,101,32]++p.1:=by rw[dD,ai]
     have hB:xk.size<=8:=by rw[UB,ai];exact ec
     have hr:(⟨#[108,111,115,101,32]⟩++xk:ba).size=5+xk.size:=SN;have bH:=(xX E C _ rn L4 (⟨#[108,111,115,101,32]⟩++xk) aC RM b3).mono (R':=λe w'=>e=.returned (.tuple #[])/\eX (Me C (fR (cC n) p.1 t y s).2 rn i (fR (cC n) p.1 t y s).1) w L w') (λe w' hq=>by
      obtain⟨rfl,h1,h2⟩:=hq;refine⟨rfl,?_⟩;rw[ay,JI bj ca];rw[cm,N]at h1;exact vU HP.Z V.Z.2 (nJ _ _) ao.Z P.Z.1 P.Z.2 h1 X.Z.2.1 (I.trans h2 (λk b=>.inl b)) (P4 a3) rfl)
     unfold ptr at bH;have c6:=bZ bH;have f8:¬9223372036854775807<5+xk.size:=RM;have hm:(⟨#[108,111,115,101,32]⟩:ba).size=5:=rfl;clear ay a9 M ai cm ca bH aC J I X HW bc ao P HP V hcut ab
     apply_assumption
     go_wp2_with(go_at_call 105;refine c6.Z.mono ?_;rintro ew w9 ⟨rfl,bp⟩)
     (try simp only[Exit.inBlock,Exit.then])
     refine UA (UO rfl _ _ _) rfl ?_;exact⟨rfl,bp⟩
   have bj:gC R.1.1=false:=by rw[a9,aF bd]
   have f9:decide (tc=12)=false:=aF bd;have gL:(tc==12)=false:=aw.2 bd;obtain⟨a1,F,a4,a5,a6,a7⟩:=X.Z;have a4:Wc.1.size<W5.1.size:=a4;have a5:¬L4 Wc.1.size:=a5;have q3:W5.cell? ⟨Wc.1.size,1,none⟩=some vQ:=q3;obtain⟨U,Q,rfl⟩:=dP a7;have gV:E.cell? ⟨Wc.1.size,1,none⟩=some (.slice U R.2.2.length Q):=(UF (I.block _ a4 a5)).trans q3;have g0:Wc.1.size<E.1.size:=aA a4 I.size;have bT:fW E C R.2.1 (p'.1 :: rn) L4 (aa.set i { D with w:=R.1.1 }) bM (.slice (some ⟨B,0,none⟩) (aa.set i { D with w:=R.1.1 }).length dn) cB cA cF cE:=by
    rw[aX,N];exact J
   have ap:=cD a7 (λg hg cs fz hb=>(I.block g (cj hb) (a6 g hg).2).trans hb);have eU:R.2.2.length<=400:=RM;have iu:=fW.OQ bT T (P4 a3) (by rw[N];exact bC) ap (λk b=>(a6 k b).2) RM;have x3:=bw 3 _ rfl;have x4:=bw 4 _ rfl;obtain⟨d0,_,_,_,_,_,df⟩:=J.cells;have ha:=cj J.eb;obtain⟨fm,fP,br⟩:=cz J.all (g:=B) rfl;have d7:B≠C:=λe=>by rw[e,J.eb]at br;cases br
   have g7:C≠B:=λe=>d7 e.symm;have gW:Wc.1.size≠B:=λe=>a5 (by rw[e];exact J.dK B (.inl rfl));have gb:∀j,E.frozen? ⟨B,j,none⟩=false:=λj=>by
    rcases J.all.2 with⟨l,_⟩|⟨g',cp,bL,l,_,hb,_⟩
    ·cases l
    have a0:some B=some g':=congrArg Value.ownBlock l;cases a0;simp[World.frozen?,hb]
   have bA:D.key=p.1:=bP.key.trans N;obtain⟨hG,cw⟩:∃x:ba,str p.1=.string x:=⟨_,rfl⟩;obtain⟨hH,cx⟩:∃x:ba,str D.text=.string x:=⟨_,rfl⟩;obtain⟨o4,n4,c4,bF⟩:∃o n c,D.eY=.slice (some o) n c:=by
    rcases bP.eY with⟨l,_⟩|⟨t',hD,m',o',c',_,_,l,_⟩
    ·rw[eV,ht]at l;cases l
    exact⟨_,_,_,l⟩
   have a8:=Ba (kY:=p.1) (h:=R.2.1.cm) (w:=R.1.1) RM eW bh.Pr bD.hl.len (by omega:R.2.2.length<=401);obtain⟨kt,av⟩:∃x:ba,str (dh p.1 ⟨R.1.1,R.2.2⟩)=.string x:=⟨_,rfl⟩;have ax:=fG av;have gA:kt.size<=3000000:=by rw[UB,ax];exact a8
   have bK:=bZ (And.intro iu (And.intro ap I));have HA:=bZ (And.intro F a6);have bJ:=bZ (And.intro a8 (And.intro av ax));have cO:=bZ ay;clear ay a9 M ai iu ap I J bT a1 F a6 a7 a8 av ax X hcut ab HW dr bw br
   apply_assumption
   go_upto_region 13 with fail
   go_cut []from 92 to 102 (λwy=>Hid (Below E.1.size ((E.setCell ⟨B,i*7+3,none⟩ (.bool true)).setCell ⟨B,i*7+4,none⟩ (.slice U R.2.2.length Q)) wy))
   case first =>
    go_region
    all_goals
     go_wp2_with fail
     go_meet
     case rel=>exact bZ ((Uz _ _).drew)
   case rest =>
    generalize wc=wy at *;have bn:Below ((E.setCell ⟨B,i*7+3,none⟩ (.bool true)).setCell ⟨B,i*7+4,none⟩ (.slice U R.2.2.length Q)).1.size ((E.setCell ⟨B,i*7+3,none⟩ (.bool true)).setCell ⟨B,i*7+4,none⟩ (.slice U R.2.2.length Q)) wy:=hcut.Z.mono R2;obtain⟨⟨ce,cg⟩,ap,I⟩:=bK.Z;have h9:=ce.below bn;have bz:ed L4 E wy:=cg.trans (ed.below bn) (λk b=>.inl b);have bW:ed (λk=>L4 k\/(Value.slice U R.2.2.length Q).ownBlock=some k) W5 wy:=by
     have l:=I.trans bz (λk b=>.inl b);exact⟨l.os,l.tape,l.output,l.size,λk b hn=>l.block k b (λe=>hn (.inl e))⟩
    have ck:=cD ap (λg hg cs fz hb=>(bz.block g (cj hb) (HA.Z.2 g hg).2).trans hb);have bx:((aa.set i { D with w:=R.1.1 }).set i { D with w:=R.1.1,kept:=true,np:=.slice U R.2.2.length Q })[i]?=some { D with w:=R.1.1,kept:=true,np:=.slice U R.2.2.length Q }:=P4 (by rw[aX];exact a3);obtain⟨g9,fd,e0,gv,ad⟩:=iI nG RZ h9.all bx;have d9:some B=some g9:=congrArg Value.ownBlock e0;cases d9;have s0:=ad 0 (str D.key) rfl;have s1:=ad 1 (str D.text) rfl;have s2:=ad 2 D.eY rfl;have s3:=ad 3 (.bool true) rfl;have s4:=ad 4 (.slice U R.2.2.length Q) rfl;have s5:=ad 5 (.int .i64 tc) (by show(ei R.1.1)[0]?=_;rw[bG];rfl);have s6:=ad 6 (.string ts) (by show(ei R.1.1)[1]?=_;rw[bG];rfl);simp only[Qc]at s0;rw[bA,cw]at s0;rw[cx]at s1;rw[bF]at s2;obtain⟨fo,_⟩:=h9.cells;have hh:=cj h9.eb;obtain⟨a8,av,ax⟩:=bJ.Z;have hK:=F6 wy D.key D.text D.eY true (.slice U R.2.2.length Q) R.1.1 R.2.2 (by rw[bF];rfl) ck (by rw[bA];omega) RM Y.Z.2;rw[bA,cw,cx,bF,av]at hK;have bq:∀w8,Xb wy w8->Calls prog 105 #[ptr C,.string kt] w8 λe w'=>e=.returned (.tuple #[])/\eX (Me C (fR (cC n) p.1 t y s).2 rn i (fR (cC n) p.1 t y s).1) w L w':=λw8 ab=>by
     refine(xX w8 C _ rn _ kt (h9.below ab) RM b3).mono ?_;rintro e w'⟨rfl,h1,h2⟩;refine⟨rfl,?_⟩;rw[cO.Z,JK bj];rw[ax]at h1;rw[N]at h1;refine vU HP.Z V.Z.2 (nJ _ _) ao.Z P.Z.1 P.Z.2 h1 (λk b=>?_) ((bW.trans (ed.below ab) (λk b=>.inl b)).trans h2 (λk b=>.inl b)) bx rfl;rcases b with b|b
     ·exact HA.Z.1 k b
     exact(HA.Z.2 k b).1
    unfold ptr at bq;have HK:=bZ hK;have cV:=bZ bq;clear hK bq h9 bz bW ck ce cg ap I bn hcut ad bx a8 av ax bK HA bJ HP V ao bc P
    apply_assumption
    go_wp2_with(first|(go_at_call 116;refine HK.Z.mono ?_;rintro ek w8 ⟨rfl,dp⟩;have c7:=bZ (cV.Z w8 dp))|(go_at_call 105;refine c7.Z.mono ?_;rintro ew w9 ⟨rfl,bp⟩))
    go_end0
    exact⟨rfl,bp⟩
end Ref
end
