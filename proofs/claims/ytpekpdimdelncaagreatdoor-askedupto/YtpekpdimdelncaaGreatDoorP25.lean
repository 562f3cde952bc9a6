/- Out of L21. -/
import Derived.Test.YtpekpdimdelncaaGreatDoorP24
set_option linter.unusedVariables false
set_option linter.unusedSimpArgs false
set_option maxRecDepth 100000
set_option maxHeartbeats 2000000
set_option linter.defProp false
namespace Go.Proofs.YtpekpdimdelncaaGreatDoor
open Go.RowKit Go.Shelf
section
variable{j hb db:Nat}{s:bY.LS}{L:Nat->Prop}
def LP.K7{w w1:QV}{j:Nat}{s:bY.LS}{L:Nat->Prop}{hb db:Nat}{m B vn F:Xa}(h:LP w j s L hb db m B vn F)(C:G w){g u n:Nat}(r:a_)(y:w.grownBy w1 m.ownBlock)
  (D:n=(s.b_++[r]).length) (z:w1.ownsRow 8 9 1 (.slice (some ⟨g,0,none⟩) n u) n ((s.b_++[r]).map str)) (hl:m.ownBlock=some g\/g=w.1.size) (hold:∀b,m.ownBlock=some b->∃cs fz,w1.1[b]?=some (.cells cs 9 fz)) :
  cH w j L { s with b_:=s.b_++[r] } (w1.setCell ⟨j,2,none⟩ (.slice (some ⟨g,0,none⟩) n u)):=by
 subst D;have p:Tn 9 w w1 m.ownBlock:=⟨y,λb hb=>cz h.b_ hb⟩;have E:dm w1 B s.cE:=cD h.cE (λk l cs fz hc=>(y.block k (cj hc) (λe=>h.apart k e.symm l)).trans hc);refine h.turned 9 m.ownBlock p (.inr (.inl rfl)) RZ RZ RZ RZ (λb hb=>⟨h.dK b (.inl hb),hold b hb⟩) (λk=>k=g/\g=w.1.size) (λk l=>?_) C 2 _ rfl rfl rfl z E (iV h.du p RZ) (iV h.jr p RZ) (λk l=>?_) (λk l e=>?_) h.oq
 ·obtain⟨rfl,h1⟩:=l;exact⟨by omega,cz z rfl⟩
 ·rcases l with l|l|l|l
  ·cases l;rcases hl with hl|hl
   ·exact .inl (h.dK _ (.inl hl))
   exact .inr ⟨rfl,hl⟩
  ·exact .inl (h.dK k (.inr (.inl l)))
  ·exact .inl (h.dK k (.inr (.inr (.inl l))))
  exact .inl (h.dK k (.inr (.inr (.inr l))))
 cases l;rcases hl with hl|hl
 ·exact h.apart _ hl e
 have:g<w.1.size:=h.lt (h.dK _ (.inr (.inl e)));omega
def LP.Oy{w:QV}{D vn C:Xa}{g l:Nat}(h:LP w j s L hb db (.slice (some ⟨g,0,none⟩) s.b_.length l) D vn C)(n:G w):cH w j L { s with b_:=s.b_.dropLast } (w.setCell ⟨j,2,none⟩ (.slice (some ⟨g,0,none⟩) (s.b_.length-1) l)):=by
 have B:Tn 9 w w none:=qY (Uz _ _);have z:dm w (.slice (some ⟨g,0,none⟩) (s.b_.length-1) l) s.b_.dropLast:=by
  have hd:s.b_.dropLast.length=s.b_.length-1:=List.length_dropLast;unfold dm;rw[hd];rcases h.b_.2 with⟨h1,_⟩|⟨g',E,m,h1,h2,p,F,r,u,y⟩
  ·cases h1
  cases h1;refine⟨by simp,.inr ⟨g,l,m,rfl,h2,p,by omega,r,u,?_⟩⟩;have:s.b_.dropLast.map str=(s.b_.map str).take (s.b_.length-1):=by
   rw[RV,List.map_take]
  rw[this,<-y,Ru]
  congr 1
  omega
 refine h.turned 9 none B (.inr (.inl rfl)) RZ RZ RZ RZ (λb hb=>by cases hb) (λk=>False) (λk e=>e.elim) n 2 _ rfl rfl rfl z h.cE h.du h.jr (λk e=>.inl (h.dK k ?_)) (λk e=>h.apart k Sv) h.oq;rcases e with e|e
 ·cases e;exact .inl rfl
 exact .inr e
def LP.Oz{w w1:QV}{B D vn C:Xa}(h:LP w j s L hb db B D vn C)(r:G w){g m n:Nat}(y)(u:w.grownBy w1 vn.ownBlock)(z:n=(s.du++[y]).length)(p:w1.ownsRow 8 61 6 (.slice (some ⟨g,0,none⟩) n m) n ((s.du++[y]).flatMap dB))(hl:vn.ownBlock=some g\/g=w.1.size)(hold:∀b,vn.ownBlock=some b->∃cs fz,w1.1[b]?=some (.cells cs 61 fz)):cH w j L { s with du:=s.du++[y] } (w1.setCell ⟨j,4,none⟩ (.slice (some ⟨g,0,none⟩) n m)):=by
 subst z;have l:Tn 61 w w1 vn.ownBlock:=⟨u,λb hb=>cz h.du hb⟩;refine h.turned 61 vn.ownBlock l (.inr (.inr (.inl rfl))) RZ RZ RZ RZ (λb hb=>⟨h.dK b (.inr (.inr (.inl hb))),hold b hb⟩) (λk=>k=g/\g=w.1.size) (λk e=>?_) r 4 _ rfl rfl rfl (iV h.b_ l RZ) (iV h.cE l RZ) p (iV h.jr l RZ) (λk e=>?_) h.apart h.oq
 ·obtain⟨rfl,h1⟩:=e;exact⟨by omega,cz p rfl⟩
 rcases e with e|e|e|e
 ·exact .inl (h.dK k (.inl e))
 ·exact .inl (h.dK k (.inr (.inl e)))
 ·cases e;rcases hl with hl|hl
  ·exact .inl (h.dK _ (.inr (.inr (.inl hl))))
  exact .inr ⟨rfl,hl⟩
 exact .inl (h.dK k (.inr (.inr (.inr e))))
end
section
open bY
open Tryz
variable{j:Nat}{s s':LS}{L:Nat->Prop}{l:a_->LS->Wo×LS}{ns:List (a_×Wo)}
def dY:Array Xa:=#[.string ⟨#[]⟩,.string ⟨#[]⟩,.int .i64 0,.string ⟨#[]⟩,.int .i64 0,.string ⟨#[]⟩]
def II(w j b):Calls prog 124 #[ptr j,.string b,.pointer none] w λe w'=>e=.returned (.tuple #[.agg (dB ⟨b.1.1,[],.error 0,.error 0⟩).toArray,.bool true])/\Xb w w':=by
 unfold ptr;go_enter func124,ntmps124;go_wp2_with fail;have m:(dB ⟨b.1.1,[],.error 0,.error 0⟩).toArray=#[.string b,.string ⟨#[]⟩,.int .i64 0,.string ⟨#[]⟩,.int .i64 0,.string ⟨#[]⟩]:=by
  simp[dB,ei,str]
 rw[m];exact UA (v:=.tuple #[.agg #[.string b,.string ⟨#[]⟩,.int .i64 0,.string ⟨#[]⟩,.int .i64 0,.string ⟨#[]⟩],.bool true]) (by simp[results,results124,go_sem]) rfl ⟨rfl,(Uz _ w).alloc (af _) _⟩
def K8(a b:Wo):MK a b=iY a b:=by
 cases a<;>cases b<;>rfl
def Fv{w wr:QV}{P:LS->Prop}(V:pW j l P)(h:fD w j s L)(g:G w)(hd:jI w){sl:Xa}(hN:ee w ns sl)(a0:∀gk,sl.ownBlock=some gk->L gk)(I:cH (w.alloc (.cells dY 61)) j L s' wr)(ai:P s'){k:Nat}{nd:a_×Wo}(ay:ns[k]?=some nd):∃(m J:Nat) (E:ba) (b:Int) (r:Xa),sl=.slice (some ⟨m,0,none⟩) ns.length J/\E.1.1=nd.1/\(r=.nilIface\/∃t a,r=.iface t a)/\m<wr.1.size /\wr.cell? ⟨m,k*3,none⟩=some (.string E)/\wr.cell? ⟨m,k*3+1,none⟩=some (.int .i64 b)/\wr.cell? ⟨m,k*3+2,none⟩=some r /\Calls prog 49 #[.pointer (some ⟨j,0,none⟩),.string E] (wr.alloc (.cells #[.string E,.int .i64 b,r] 133)) λe w2=>∃c2 y,e=.returned (.agg #[.int .i64 c2,y])/\(y=.nilIface\/∃t a,y=.iface t a) /\g_ w2 (l nd.1 s').1 (.agg #[.int .i64 c2,y])/\g_ w2 nd.2 (.agg #[.int .i64 b,r])/\w2.1[wr.1.size]?=some (.cells #[.string E,.int .i64 b,r] 133 (0,0))/\G w2/\wr.1.size<w2.1.size /\cH (w.alloc (.cells dY 61)) j L (l nd.1 s').2 w2/\fN (l nd.1 s').2<=fN s'/\jg s' (l nd.1 s').2 1:=by
 have u:Below _ w (w.alloc (.cells dY 61)):=(Uz _ _).alloc (af _) _;have M:=h.st (λk p=>u.block k (h.ct k p).2.1) (eH.below u);have m:=g.below u g.size;have d0:=hd.below u g.size;have z:=I.g M m;have X:=I.pD M m d0;have av:=I.keeps M;obtain⟨L',K,B,C,hf⟩:=I;have ab:=hN.st (λgk am cs fz hc=>hf.k2 gk (a0 gk am) cs _ fz ((u.block gk (cj hc)).trans hc) (.inr rfl)) ((eH.below u).trans av.stay);obtain⟨o,J,a2,hcell⟩:=ab.cell;obtain⟨Z,x0,O,ho,ao,ax,e0,e1,e2,S⟩:=hcell k nd ay;subst ho;obtain⟨b,r,ak,a4⟩:=S.form;cases ak;have aC:(⟨nd.1.toArray⟩:ba).1.1=nd.1:=rfl;refine⟨Z,J,⟨nd.1.toArray⟩,b,O,a2,aC,a4,ao,e0,e1,e2,?_⟩;have n:Below _ wr (wr.alloc (.cells #[.string ⟨nd.1.toArray⟩,.int .i64 b,O] 133)):=(Uz _ _).alloc (af _) _;have F:=K.st (λk p=>n.block k (K.ct k p).2.1) (eH.below n);refine(V _ s' L' ⟨nd.1.toArray⟩ F (z.below n z.size) (X.below n z.size) ai (by rw[size_mk];exact ax)).mono ?_;rintro e w2⟨x2,rfl,R,D,ad,aa⟩;obtain⟨c2,y,rfl,a3⟩:=R.form;have ap:=D.keeps F;have Y:=D.g F (z.below n z.size);refine⟨c2,y,rfl,a3,R,(S.keeps (cK.below n)).keeps ap,?_,Y,?_,?_,ad,aa⟩
 ·obtain⟨Q,p1,T,U,N⟩:=D;exact(N.block _ R2 (λhl=>by have:=(K.ct _ hl).2.1;omega)).trans (heap_alloc_new wr _)
 ·have:=D.size;rw[World.size_alloc]at this;omega
 have a5:cH (w.alloc (.cells dY 61)) j L s' (wr.alloc (.cells #[.string ⟨nd.1.toArray⟩,.int .i64 b,O] 133)):=by
  refine⟨L',F,B,C,hf.trans (uE.below (L:=L') n) B C⟩
 obtain⟨Q,p1,T,U,N⟩:=D;refine⟨Q,p1,λk p=>?_,λk p=>U k (C k p),(hf.trans (uE.below (L:=L') n) B C).trans N B C⟩;rcases T k p with h|h
 ·exact B k h
 have:=hf.size;rw[World.size_alloc]at h;exact .inr RM
def D1{w wr:QV}(h:fD w j s L)(E:cH (w.alloc (.cells dY 61)) j L s' wr):wr.1[w.1.size]?=some (.cells dY 61 (0,0))/\∀wf,wr.grownBy wf (some w.1.size)->cH w j L s' wf:=by
 obtain⟨L',h1,h2,B,m⟩:=E;have n:Below _ w (w.alloc (.cells dY 61)):=(Uz _ _).alloc (af _) _;have u:∀k,L k->k<w.1.size:=λk b=>(h.ct k b).2.1;have z:¬L w.1.size:=λb=>by have:=u _ b;omega
 have y:=(m.block _ R2 z).trans (heap_alloc_new w _);refine⟨y,λwf p=>?_⟩;have K:¬L' _:=λb=>by
  rcases h2 _ b with h|h
  ·exact z h
  rw[World.size_alloc]at h;omega
 have O:=iG p (λcs t fz hb=>by rw[y]at hb;cases hb;rintro(h|h|h)<;>cases h);have r:∀k,k<wr.1.size->k≠w.1.size->wf.1[k]?=wr.1[k]? := λk b M=>p.block k b (λe=>M (aB e));have P:w.1.size<=wr.1.size:=ah R2 m.size;refine⟨L',h1.st (λk b=>r k (h1.ct k b).2.1 (λe=>K (e▸b))) O,λk b=>?_,B,⟨⟨(p.os.trans m.os).trans n.os,(p.tape.trans m.tape).trans n.tape,(p.output.trans m.output).trans n.output,ah P p.size,λk b N=>?_⟩,λk b cs t fz hc F=>?_,λhb J hc=>?_⟩⟩
 ·rcases h2 k b with h|h
  ·exact .inl h
  simp at h;exact .inr RM
 ·exact(r k RM RM).trans ((m.block k R5 N).trans (n.block k b))
 ·have I:=cj hc;exact(r k RM RM).trans (m.k2 k b cs t fz ((n.block k I).trans hc) F)
 have G:=u _ h.here;obtain⟨C,D⟩:=m.Cr hb R5 ((UF (n.block j G)).trans hc);exact⟨(UF (r j RM (by show j≠_;omega))).trans C,(r hb RM RM).trans (D.trans (n.block hb J))⟩
end
section
open bY
open Tryz
variable{fz:Nat×Nat}
def dG(r:Wo):∃tc ts,dw r=.agg #[.int .i64 tc,.string ts]/\ei r=[.int .i64 tc,.string ts]:=by
 cases r with
 |ok v=>exact⟨_,_,rfl,rfl⟩
 |error c=>exact⟨_,_,rfl,rfl⟩
def CJ{W:QV}{k:Nat}{a b c:Xa}{t:TypeId}(h:W.1[k]?=some (.cells #[a,b,c] t fz)):W.cell? ⟨k,2,none⟩=some c:=by simp[World.cell?,h]
def K9(w M kb l b P)(HB:pW M b P)(s L)(h:fD w M s L)(g:G w)(hd:jI w)(kp)(bQ:jf w L kp kb)(hP:∀s' c,jg s s' c->c<=401->fN s'<=fN s->P s'):Calls prog 124 #[ptr M,.string l,ptr kb] w λe w'=>cH w M L (en b l.1.1 kp.cO s).2 w'/\fN (en b l.1.1 kp.cO s).2<=fN s/\jg s (en b l.1.1 kp.cO s).2 401 /\(((en b l.1.1 kp.cO s).1=none/\e=.returned (.tuple #[.agg dY,.bool false]))\/∃y,(en b l.1.1 kp.cO s).1=some y/\e=.returned (.tuple #[.agg (dB y).toArray,.bool true])):=by
 obtain⟨cw,iw,sl,bm,cc,ce,bd,bT,hlen⟩:=bQ;have c2:(w.alloc (.cells dY 61)).cell? ⟨kb,2,none⟩=some sl:=(UF (UE w _ kb (cj bm))).trans (by simp[World.cell?,bm]);obtain⟨o,cp,rfl⟩:=bd.len;generalize hR:(λ(e:Ending) (w':QV)=>cH w M L (en b l.1.1 kp.cO s).2 w'/\fN (en b l.1.1 kp.cO s).2<=fN s/\jg s (en b l.1.1 kp.cO s).2 401 /\(((en b l.1.1 kp.cO s).1=none/\e=.returned (.tuple #[.agg dY,.bool false]))\/∃y,(en b l.1.1 kp.cO s).1=some y/\e=.returned (.tuple #[.agg (dB y).toArray,.bool true])))=R;have a9:Xb w (w.alloc (.cells dY 61)):=(Uz _ _).alloc (af _) _;have HA:=bZ h;have bv:=bZ (cH.refl (h.st (λk hk=>a9.block k (h.ct k hk).2.1) (eH.below a9)));have bu:=bZ bd;have bw:=bZ hP;have br:=bZ HB;unfold dY at c2;unfold ptr;go_enter func124,ntmps124;go_wp2_with fail
 go_loopw [20] (λi wr=>∃(k:Nat) (s':LS),k<=kp.cO.length/\i=.int .i64 k/\en b l.1.1 kp.cO s=en b l.1.1 (kp.cO.drop k) s'/\cH (w.alloc (.cells dY 61)) M L s' wr/\jg s s' k/\fN s'<=fN s) (λi _=>kp.cO.length-(intOf i).toNat)
 case atStart=>exact⟨0,s,au _,rfl,rfl,bv.Z,jg.refl _ _,af _⟩
 case round =>
  obtain⟨k,s',ch,rfl,am,ak,ad,ai⟩:=hrel;by_cases ax:k<kp.cO.length
  ·obtain⟨nd,ay⟩:∃nd,kp.cO[k]?=some nd:=⟨_,aq ax⟩;obtain⟨g0,cb,B,I,yn,bW,bS,b8,cg,e0,e1,e2,bL⟩:=Fv br.Z HA.Z g hd bu.Z bT ak (bw.Z _ _ ad RM ai) ay;cases bW;have bt:=bZ bL;have ca:=bZ ak;have bB:Hid (w.1.size<wr.1.size):=bZ (by have:=ak.size;rw[World.size_alloc]at this;omega);have bX:en b l.1.1 (kp.cO.drop k) s'=if iY (b nd.1 s').1 nd.2=true then en b l.1.1 (kp.cO.drop (k+1)) (b nd.1 s').2 else(some ⟨l.1.1,nd.1,nd.2,(b nd.1 s').1⟩,(b nd.1 s').2):=by
    have:kp.cO.drop k=nd :: kp.cO.drop (k+1):=by
     rw[aq ax]at ay;cases ay;exact aR ax
    rw[this];rfl
   have a6:=bZ bX;rcases b8 with rfl|⟨tn,an,rfl⟩
   all_goals
    go_wp2_with fail;refine bt.Z.mono ?_;rintro e w2⟨c2,y2,rfl,b7,bk,bl,bK,g2,bR,bE,bf,bc⟩;have av:∀o',(w2.alloc o').1[wr.1.size]?=some _:=λo'=>(UE w2 o' _ bR).trans bK;have f0:∀o',(w2.alloc o').cell? ⟨wr.1.size,0,none⟩=some (.string B):=λo'=>by simp[World.cell?,av o']
    have f1:∀o',(w2.alloc o').cell? ⟨wr.1.size,1,none⟩=some (.int .i64 I):=λo'=>by simp[World.cell?,av o']
    have f2:∀o',(w2.alloc o').cell? ⟨wr.1.size,2,none⟩=some _:=λo'=>CJ (av o');have ao:∀o',Xb w2 (w2.alloc o'):=λo'=>(Uz _ _).alloc (af _) o';have bA:=bZ (λo'=>Cf (w2.alloc o') (bk.keeps (cK.below (ao o'))) (bl.keeps (cK.below (ao o'))));have a7:=bZ bk;have bC:=bZ bl;have aC:=bZ bE;rcases b7 with rfl|⟨t2,F,rfl⟩
    all_goals
     go_wp2_with fail;refine(bA.Z _).mono ?_;rintro e m⟨rfl,C⟩;rw[K8];have a8:=(ao _).trans (C.mono R2);by_cases hs:iY (b nd.1 s').1 nd.2=true
     ·rw[hs];have bU:en b l.1.1 kp.cO s=en b l.1.1 (kp.cO.drop (k+1)) (b nd.1 s').2:=by
       rw[am,a6.Z,ag hs]
      have bF:=aC.Z.trans (λL' h'=>cH.below h' a8);have a5:=bZ (And.intro bU bF);go_wp2_with fail;refine⟨⟨k+1,_,by omega,by go_num,a5.Z.1,a5.Z.2,ad.trans bc,ah bf ai⟩,?_⟩;simp[intOf];omega
     have bV:iY (b nd.1 s').1 nd.2=false:=by simpa using hs
     rw[bV];go_wp2_with fail;rename_i K5 b9;refine mE K5 (λa w h=>h) ?_;have k2:=(C.cell (p:=⟨wr.1.size,2,none⟩) (by show wr.1.size<_;simp;omega)).trans (f2 _);have k4:=C.cell (p:=⟨w2.1.size,1,none⟩) (by show w2.1.size<_;simp);simp[go_sem]at k4;have D:m.cell? ⟨wr.1.size,0,none⟩=some (.string B)/\m.cell? ⟨wr.1.size,1,none⟩=some (.int .i64 I)/\m.cell? ⟨wr.1.size,2,none⟩=m.cell? ⟨wr.1.size,2,none⟩/\m.cell? ⟨w2.1.size,0,none⟩=some (.int .i64 c2)/\m.cell? ⟨w2.1.size,1,none⟩=m.cell? ⟨w2.1.size,1,none⟩:=by
      have q:=λ(i:Nat)=>C.cell (p:=⟨wr.1.size,i,none⟩) (by show wr.1.size<_;simp;omega);have u:=λ(i:Nat)=>C.cell (p:=⟨w2.1.size,i,none⟩) (by show w2.1.size<_;simp);exact⟨(q 0).trans (f0 _),(q 1).trans (f1 _),rfl,(u 0).trans Sj,rfl⟩
     refine wp_region_held_drew (S:=λw'=>w'.cell? ⟨wr.1.size,0,none⟩=some (.string B)/\w'.cell? ⟨wr.1.size,1,none⟩=some (.int .i64 I)/\w'.cell? ⟨wr.1.size,2,none⟩=m.cell? ⟨wr.1.size,2,none⟩/\w'.cell? ⟨w2.1.size,0,none⟩=some (.int .i64 c2)/\w'.cell? ⟨w2.1.size,1,none⟩=m.cell? ⟨w2.1.size,1,none⟩) RO D (λhHeld=>?_);refine wpAnyH_take (i:=0) (v:=?_) rfl RO RO RO (λ_ _ _ h=>h) (Or.inl ⟨by rfl,?_⟩) D ?_
     rotate_left
     ·rintro w'⟨N,a1,F,O,Q⟩;go_simp
      try with_reducible rfl
     simp only[Act.put,ar,Xc,Xd];refine wpAnyH_take (i:=1) (v:=?_) rfl RO RO RO (λ_ _ _ h=>h) (Or.inl ⟨by rfl,?_⟩) D ?_
     rotate_left
     ·rintro w'⟨N,a1,F,O,Q⟩;go_simp
      try with_reducible rfl
     simp only[Act.put,ar,Xc,Xd];refine wpAnyH_take (i:=2) (v:=?_) rfl RO RO RO (λ_ _ _ h=>h) (Or.inl ⟨by rfl,?_⟩) D ?_
     rotate_left
     ·rintro w'⟨N,a1,F,O,Q⟩;go_simp
      try with_reducible rfl
     simp only[Act.put,ar,Xc,Xd];refine wpAnyH_take (i:=3) (v:=?_) rfl RO RO RO (λ_ _ _ h=>h) (Or.inl ⟨by rfl,?_⟩) D ?_
     rotate_left
     ·rintro w'⟨N,a1,F,O,Q⟩;go_simp
      try with_reducible rfl
     simp only[Act.put,ar,Xc,Xd];refine wpAnyH_take (i:=4) (v:=?_) rfl RO RO RO (λ_ _ _ h=>h) (Or.inl ⟨by rfl,?_⟩) D ?_
     rotate_left
     ·rintro w'⟨N,a1,F,O,Q⟩;go_simp
      try with_reducible rfl
     simp only[Act.put,ar,Xc,Xd];refine wpAnyH_take (i:=6) (v:=?_) rfl RO RO RO (λ_ _ _ h=>h) (Or.inl ⟨by rfl,?_⟩) D ?_
     rotate_left
     ·rintro w'⟨N,a1,F,O,Q⟩;go_simp
      try with_reducible rfl
     simp only[Act.put,ar,Xc,Xd];refine wpAnyH_ready (rs:=[5]) RO R2 ?_;refine AllReadyH.cons rfl (λK z=>?_) AllReadyH.nil;go_simp;have T:Xb w2 m.drew:=a8.drew;have g4:G m.drew:=g2.below T g2.size;have cd:=a7.Z.keeps (cK.below T);have bJ:=bC.Z.keeps (cK.below T);obtain⟨bn,bp,b3,b5⟩:=dG nd.2;obtain⟨bo,bq,b4,b6⟩:=dG (b nd.1 s').1;have hT:=qa m.drew g4 bJ;rw[b3]at hT;refine hT.mono ?_;rintro e E⟨rfl,U⟩;have bg:E.cell? ⟨wr.1.size,0,none⟩=some (.string B)/\E.cell? ⟨wr.1.size,1,none⟩=some (.int .i64 I)/\E.cell? ⟨wr.1.size,2,none⟩=m.cell? ⟨wr.1.size,2,none⟩/\E.cell? ⟨w2.1.size,0,none⟩=some (.int .i64 c2)/\E.cell? ⟨w2.1.size,1,none⟩=m.cell? ⟨w2.1.size,1,none⟩:=by
      have ck:w2.1.size<m.drew.1.size:=by have:=C.size;simp at this ⊢;omega
      have q:=λ(i:Nat)=>U.cell (p:=⟨wr.1.size,i,none⟩) (by show wr.1.size<_;omega);have u:=λ(i:Nat)=>U.cell (p:=⟨w2.1.size,i,none⟩) (by show w2.1.size<_;omega);obtain⟨V,X,Y,Z,s5⟩:=D;exact⟨(q 0).trans V,(q 1).trans X,(q 2).trans Y,(u 0).trans Z,(u 1).trans s5⟩
     refine z.out _ _ bg (λ_=>?_);refine wpAnyH_ready (rs:=[7]) RO R2 ?_;refine AllReadyH.cons rfl (λK z=>?_) AllReadyH.nil;go_simp;have aa:Xb w2 E:=T.trans (U.mono T.size);have bj:=qa E (g2.below aa g2.size) (a7.Z.keeps (cK.below aa));rw[b4]at bj;refine bj.mono ?_;rintro e j⟨rfl,ab⟩;have bD:Xb w2 j:=aa.trans (ab.mono aa.size);have bG:=aC.Z.trans (λL' h'=>cH.below h' bD);obtain⟨r,bO⟩:=D1 HA.Z bG;have ap:j.cell? ⟨wr.1.size,0,none⟩=some (.string B)/\j.cell? ⟨wr.1.size,1,none⟩=some (.int .i64 I)/\j.cell? ⟨wr.1.size,2,none⟩=m.cell? ⟨wr.1.size,2,none⟩/\j.cell? ⟨w2.1.size,0,none⟩=some (.int .i64 c2)/\j.cell? ⟨w2.1.size,1,none⟩=m.cell? ⟨w2.1.size,1,none⟩:=by
      have cl:w2.1.size<E.1.size:=by have:=C.size;have:=U.size;simp at this;simp at *;omega
      have q:=λ(i:Nat)=>ab.cell (p:=⟨wr.1.size,i,none⟩) (by show wr.1.size<_;omega);have u:=λ(i:Nat)=>ab.cell (p:=⟨w2.1.size,i,none⟩) (by show w2.1.size<_;omega);obtain⟨V,X,Y,Z,s5⟩:=bg;exact⟨(q 0).trans V,(q 1).trans X,(q 2).trans Y,(u 0).trans Z,(u 1).trans s5⟩
     have co:w.1.size<wr.1.size:=bB.Z;have bh:∀wf,j.grownBy wf (some w.1.size)->wf.cell? ⟨wr.1.size,0,none⟩=some (.string B)/\wf.cell? ⟨wr.1.size,1,none⟩=some (.int .i64 I)/\wf.cell? ⟨wr.1.size,2,none⟩=m.cell? ⟨wr.1.size,2,none⟩/\wf.cell? ⟨w2.1.size,0,none⟩=some (.int .i64 c2)/\wf.cell? ⟨w2.1.size,1,none⟩=m.cell? ⟨w2.1.size,1,none⟩:=λwf J=>by
      have cm:w2.1.size<j.1.size:=by have:=C.size;have:=U.size;have:=ab.size;simp at *;omega
      have q:=λ(i:Nat)=>UF (w:=j) (w':=wf) (a:=⟨wr.1.size,i,none⟩) (J.block wr.1.size RM (λe=>by have:=aB e;omega));have u:=λ(i:Nat)=>UF (w:=j) (w':=wf) (a:=⟨w2.1.size,i,none⟩) (J.block w2.1.size RM (λe=>by have:=aB e;omega));obtain⟨V,X,Y,Z,s5⟩:=ap;exact⟨(q 0).trans V,(q 1).trans X,(q 2).trans Y,(u 0).trans Z,(u 1).trans s5⟩
     have bI:∀wf,j.grownBy wf (some w.1.size)->R (.returned (.tuple #[.agg #[.string l,.string B,.int .i64 bn,.string bp,.int .i64 bo,.string bq],.bool true])) wf:=λwf J=>by
      have bM:en b l.1.1 kp.cO s=(some ⟨l.1.1,nd.1,nd.2,(b nd.1 s').1⟩,(b nd.1 s').2):=by rw[am,a6.Z,ae hs]
      rw[<-hR,bM];refine⟨bO wf J,ah bf ai,(ad.trans bc).le RM,.inr ⟨_,rfl,?_⟩⟩;have e1:str l.1.1=.string l:=lF rfl;have e2:str nd.1=.string B:=lF bS;simp[dB,b5,b6,e1,e2]
     have bz:=bZ bI;have m0:j.cell? ⟨w.1.size,0,none⟩=some (.string ⟨#[]⟩):=by simp[World.cell?,r,dY]
     have y0:j.frozen? ⟨w.1.size,0,none⟩=false:=by simp[World.frozen?,r,dY]
     have m1:j.cell? ⟨w.1.size,1,none⟩=some (.string ⟨#[]⟩):=by simp[World.cell?,r,dY]
     have y1:j.frozen? ⟨w.1.size,1,none⟩=false:=by simp[World.frozen?,r,dY]
     have m2:j.cell? ⟨w.1.size,2,none⟩=some (.int .i64 0):=by simp[World.cell?,r,dY]
     have y2:j.frozen? ⟨w.1.size,2,none⟩=false:=by simp[World.frozen?,r,dY]
     have m3:j.cell? ⟨w.1.size,3,none⟩=some (.string ⟨#[]⟩):=by simp[World.cell?,r,dY]
     have y3:j.frozen? ⟨w.1.size,3,none⟩=false:=by simp[World.frozen?,r,dY]
     have m4:j.cell? ⟨w.1.size,4,none⟩=some (.int .i64 0):=by simp[World.cell?,r,dY]
     have y4:j.frozen? ⟨w.1.size,4,none⟩=false:=by simp[World.frozen?,r,dY]
     have m5:j.cell? ⟨w.1.size,5,none⟩=some (.string ⟨#[]⟩):=by simp[World.cell?,r,dY]
     have y5:j.frozen? ⟨w.1.size,5,none⟩=false:=by simp[World.frozen?,r,dY]
     refine z.out _ _ ap (λ_=>?_);refine wpAnyH_ready (rs:=[8]) RO R2 ?_;refine AllReadyH.cons rfl (λK z=>?_) AllReadyH.nil;go_simp;refine z.out _ _ ap (λ_=>?_);refine wpAnyH_ready (rs:=[9]) RO R2 ?_;refine AllReadyH.cons rfl (λK z=>?_) AllReadyH.nil;go_simp;refine z.out _ _ (bh _ (da (da (da (da (da (da (UD j (some w.1.size)) _ _) _ _) _ _) _ _) _ _) _ _)) (λ_=>?_);refine wpAnyH_ready (rs:=[10]) RO R2 ?_;refine AllReadyH.cons rfl (λK z=>?_) AllReadyH.nil;go_simp;refine z.out _ _ (bh _ (da (da (da (da (da (da (UD j (some w.1.size)) _ _) _ _) _ _) _ _) _ _) _ _)) (λ_=>?_);refine wpAnyH_done RO ?_ _;show K5 _ _;go_wp2_with fail;exact UA (v:=.tuple #[.agg #[.string l,.string B,.int .i64 bn,.string bp,.int .i64 bo,.string bq],.bool true]) Tu rfl (bz.Z _ (da (da (da (da (da (da (UD j (some w.1.size)) _ _) _ _) _ _) _ _) _ _) _ _))
  have bP:k=kp.cO.length:=RM;subst bP;obtain⟨n,bN⟩:=D1 HA.Z ak;have bH:∀wf,wr.grownBy wf (some w.1.size)->R (.returned (.tuple #[.agg #[.string ⟨#[]⟩,.string ⟨#[]⟩,.int .i64 0,.string ⟨#[]⟩,.int .i64 0,.string ⟨#[]⟩],.bool false])) wf:=λwf J=>by
   rw[List.drop_length]at am;rw[<-hR,am];exact⟨bN wf J,ai,ad.le hlen,.inl ⟨rfl,rfl⟩⟩
  have m0:wr.cell? ⟨w.1.size,0,none⟩=some (.string ⟨#[]⟩):=by simp[World.cell?,n,dY]
  have m1:wr.cell? ⟨w.1.size,1,none⟩=some (.string ⟨#[]⟩):=by simp[World.cell?,n,dY]
  have m2:wr.cell? ⟨w.1.size,2,none⟩=some (.int .i64 0):=by simp[World.cell?,n,dY]
  have m3:wr.cell? ⟨w.1.size,3,none⟩=some (.string ⟨#[]⟩):=by simp[World.cell?,n,dY]
  have m4:wr.cell? ⟨w.1.size,4,none⟩=some (.int .i64 0):=by simp[World.cell?,n,dY]
  have m5:wr.cell? ⟨w.1.size,5,none⟩=some (.string ⟨#[]⟩):=by simp[World.cell?,n,dY]
  have y0:wr.frozen? ⟨w.1.size,0,none⟩=false:=by simp[World.frozen?,n,dY]
  have y1:wr.frozen? ⟨w.1.size,1,none⟩=false:=by simp[World.frozen?,n,dY]
  have y2:wr.frozen? ⟨w.1.size,2,none⟩=false:=by simp[World.frozen?,n,dY]
  have y3:wr.frozen? ⟨w.1.size,3,none⟩=false:=by simp[World.frozen?,n,dY]
  have y4:wr.frozen? ⟨w.1.size,4,none⟩=false:=by simp[World.frozen?,n,dY]
  have y5:wr.frozen? ⟨w.1.size,5,none⟩=false:=by simp[World.frozen?,n,dY]
  have bx:=bZ bH;go_wp2_with fail;exact UA (v:=.tuple #[.agg #[.string ⟨#[]⟩,.string ⟨#[]⟩,.int .i64 0,.string ⟨#[]⟩,.int .i64 0,.string ⟨#[]⟩],.bool false]) Tu rfl (bx.Z _ (da (da (da (da (da (da (UD wr (some w.1.size)) _ _) _ _) _ _) _ _) _ _) _ _))
end
section
open bY
variable{s s':LS}{n c:Nat}{e:a_}{th:cu}{L:Nat->Prop}
structure Pre(n:Nat)(s:LS):Prop where
 kb:KB s.cm
 un:Un s<n
 b_:s.b_.length+n<=200
 mM:s.done.length+1000*Rs s+1000*n<=1000000
 du:s.du.length+Rs s+n<=1000
 K_:fN s<=70368744177664
structure wJ(n:Nat)(s:LS):Prop where
 kb:KB s.cm
 un:Un s<n
 b_:s.b_.length+n<=200
 mM:s.done.length+1000*Rs s+1000*(n+1)<=1000000
 du:s.du.length+Rs s+n+1<=1000
 K_:fN s<=70368744177664
def q8(h1:s'.jr=s.jr)(h2:s'.cm=s.cm)(b:s'.done=s.done):fN s'=fN s:=by
 unfold fN Rs;rw[h1,h2,b]
def wJ.due(h:wJ n s)(b:jg s s' c)(hc:c<=401)(j:fN s'<=fN s):Pre n s' where
 kb:=b.kb h.kb
 un:=by rw[b.un];exact h.un
 b_:=by rw[b.b_];exact h.b_
 mM:=by have:=h.mM;have:=b.mM;omega
 du:=by have:=h.du;have:=b.du;omega
 K_:=ah j h.K_
def wJ.run{j:LS}(h:wJ n s)(m:jg s j 401)(u:fN j<=fN s)(y)(l:jg { j with du:=j.du++[y] } s' c)(hc:c<=400)(r:fN s'<=fN { j with du:=j.du++[y] }):Pre n s':=by
 have p:Rs { j with du:=j.du++[y] }=Rs j:=rfl;have z:fN { j with du:=j.du++[y] }=fN j:=q8 rfl rfl rfl;have hu:Un { j with du:=j.du++[y] }=Un j:=rfl;have a:=l.mM;have b:=l.du;rw[p]at a b;have a:s'.done.length+1000*Rs s'<=j.done.length+1000*Rs j+c:=a;have b:s'.du.length+Rs s'<=(j.du++[y]).length+Rs j:=b;rw[aj]at b;simp only[aM,P6]at b;exact{
  kb:=l.kb (m.kb h.kb)
  un:=by rw[l.un,hu,m.un];exact h.un
  b_:=Tv
  mM:=by have:=h.mM;have:=m.mM;omega
  du:=by have:=h.du;have:=m.du;omega
  K_:=by have:=h.K_;omega }
def Pre.work(h:Pre (n+1) s){t:bY.T}(hl:bY.cr s.cm e=some th)(b:th.dc=some t)(hb:s.b_.contains e=false):wJ n { s with b_:=s.b_++[e] } where
 kb:=h.kb
 un:=by have:=AA s e (h_ hl (by rw[b];rfl)) hb;have:=h.un;omega
 b_:=by have:=h.b_;show(s.b_++[e]).length+n<=200;simp;omega
 mM:=h.mM
 du:=h.du
 K_:=h.K_
def Lb{w:QV}{G:Nat}(C:e.length<=200)(q:Wo×(LS×List (a_×Wo)))(hl:bY.cr q.2.1.cm e=some th)(hA:fD w G (gT e q).2 L):fN (gT e q).2<=fN q.2.1+LM:=by
 obtain⟨r,s,ns⟩:=q;have z:Rs (gT e (r,s,ns)).2=Rs s:=nj (xE e (r,s,ns)).1 (xE e (r,s,ns)).2;have hj:(cW (gT e (r,s,ns)).2.jr).length<=(cW s.jr).length+LM:=by
  cases l:gC r with
  |true =>
   cases m:(cS s.cm e).isSome with
   |true =>
    simp only[gT,l,m,aN];show(cW (s.jr++[[108,111,115,101,32]++e])).length<=_;rw[eN,aj,jB,aj];simp only[aM,P6];unfold LM;omega
   |false =>
    simp only[gT,l,m,aN];exact aJ _ _
  |false =>
   have e1:(gT e (r,s,ns)).2=s.keep e ⟨r,ns⟩:=by simp only[gT,l];rfl
   rw[e1]at hA ⊢;have E:bY.cr (s.keep e ⟨r,ns⟩).cm e=some { th with kept:=some ⟨r,ns⟩ }:=by
    show bY.cr (bY.di s.cm e _) e=_;rw[iN,ag rfl];have:bY.cr s.cm e=some th:=hl;rw[this];rfl
   obtain⟨p,_,F⟩:=hA.IB E;obtain⟨v,J,k,_,_,_,_,D⟩:=F;rcases D with⟨b,_⟩|⟨kp,I,b,_,u⟩
   ·cases b
   cases b;obtain⟨c,i,sl,_,_,B,y,_,hlen⟩:=u;have j:=kk C B y ns.length (af _);have hlen:ns.length<=401:=hlen;rw[Q1]at j;show(cW (s.jr++[dh e ⟨r,ns⟩])).length<=_;rw[eN,aj,jB];have:=Qo 100202 hlen;have j:(dh e ⟨r,ns⟩).length<=100206+ns.length*100202:=j;unfold LM;omega
 unfold fN;rw[z];show _<=(cW s.jr).length+LM*Rs s+LM;omega
def IJ(j:e∈bY.dE s.cm)(hd:bY.cr s.done e=none)(b:List (a_))(r):fN { s with b_:=b,done:=bY.put s.done e r }+LM<=fN s:=by
 have h:Rs { s with b_:=b,done:=bY.put s.done e r }+1<=Rs s:=rY s e r j hd;unfold fN;have h2:=QC LM h;rw[Nat.mul_add]at h2;show(cW s.jr).length+_+_<=_;omega
def D2(b:List (a_))(r):fN { s with b_:=b,done:=bY.put s.done e r }<=fN s:=by
 have h:Rs { s with b_:=b,done:=bY.put s.done e r }<=Rs s:=y_ s e r;unfold fN;have h2:=QC LM h;show(cW s.jr).length+_<=_;omega
end
section
open bY
variable{l:Nat}{s s':LS}{L:Nat->Prop}{cs:Array Xa}{x:Xa}
def Lc{w wr:QV}{t:TypeId}(P:¬Kx t)(h:fD w l s L)(E:cH (w.alloc (.cells cs t)) l L s' wr):wr.1[w.1.size]?=some (.cells cs t (0,0))/\∀wf,wr.grownBy wf (some w.1.size)->cH w l L s' wf/\eH wr wf:=by
 obtain⟨L',h1,h2,B,j⟩:=E;have m:Below _ w (w.alloc (.cells cs t)):=(Uz _ _).alloc (af _) _;have r:∀k,L k->k<w.1.size:=λk b=>(h.ct k b).2.1;have y:¬L w.1.size:=λb=>by have:=r _ b;omega
 have u:=(j.block _ R2 y).trans (heap_alloc_new w _);refine⟨u,λwf n=>?_⟩;have K:¬L' _:=λb=>by
  rcases h2 _ b with h|h
  ·exact y h
  rw[World.size_alloc]at h;omega
 have z:=iG n (λcs' t' fz hb=>by rw[u]at hb;cases hb;exact P);have p:∀k,k<wr.1.size->k≠w.1.size->wf.1[k]?=wr.1[k]? := λk b M=>n.block k b (λe=>M (aB e));have O:w.1.size<=wr.1.size:=ah R2 j.size;refine⟨⟨L',h1.st (λk b=>p k (h1.ct k b).2.1 (λe=>K (e▸b))) z,λk b=>?_,B,⟨⟨(n.os.trans j.os).trans m.os,(n.tape.trans j.tape).trans m.tape,(n.output.trans j.output).trans m.output,ah O n.size,λk b N=>?_⟩,λk b cs t fz hc F=>?_,λhb J hc=>?_⟩⟩,z⟩
 ·rcases h2 k b with h|h
  ·exact .inl h
  simp at h;exact .inr RM
 ·exact(p k RM RM).trans ((j.block k R5 N).trans (m.block k b))
 ·have I:=cj hc;exact(p k RM RM).trans (j.k2 k b cs t fz ((m.block k I).trans hc) F)
 have G:=r _ h.here;obtain⟨C,D⟩:=j.Cr hb R5 ((UF (m.block l G)).trans hc);exact⟨(UF (p l RM (by show l≠_;omega))).trans C,(p hb RM RM).trans (D.trans (m.block hb J))⟩
def Fw:¬Kx 113:=by rintro(h|h|h)<;>cases h
def pF{w wr:QV}{r:Wo}{i:Xa}(h:fD w l s L)(e:cH (w.alloc (.cells #[.int .i64 0,.nilIface] 113)) l L s' wr)(j:g_ wr r (.agg #[x,i])):wr.cell? ⟨w.1.size,0,none⟩=some (.int .i64 0)/\wr.cell? ⟨w.1.size,1,none⟩=some .nilIface/\wr.frozen? ⟨w.1.size,0,none⟩=false/\wr.frozen? ⟨w.1.size,1,none⟩=false /\cH w l L s' ((wr.setCell ⟨w.1.size,0,none⟩ x).setCell ⟨w.1.size,1,none⟩ i)/\g_ ((wr.setCell ⟨w.1.size,0,none⟩ x).setCell ⟨w.1.size,1,none⟩ i) r (.agg #[x,i]) /\((wr.setCell ⟨w.1.size,0,none⟩ x).setCell ⟨w.1.size,1,none⟩ i).cell? ⟨w.1.size,0,none⟩=some x/\((wr.setCell ⟨w.1.size,0,none⟩ x).setCell ⟨w.1.size,1,none⟩ i).cell? ⟨w.1.size,1,none⟩=some i:=by
 obtain⟨b,m⟩:=Lc Fw h e;obtain⟨h1,h2⟩:=m _ (da (da (UD wr (some w.1.size)) 0 x) 1 i);have e1:=kA b 0 x;have e2:=kA e1 1 i;exact⟨by simp[World.cell?,b],by simp[World.cell?,b],by simp[World.frozen?,b],by simp[World.frozen?,b],h1,j.st h2,by simp[World.cell?,e2],by simp[World.cell?,e2]⟩
def q9(y):∃k n c1 b c2 e,dB y=[.string k,.string n,.int .i64 c1,.string b,.int .i64 c2,.string e]:=by
 obtain⟨c1,b,_,h1⟩:=dG y.was;obtain⟨c2,e,_,h2⟩:=dG y.now;exact⟨⟨y.key.toArray⟩,⟨y.need.toArray⟩,c1,b,c2,e,by unfold dB;rw[h1,h2];rfl⟩
def Fx:(Tryz.prog.info? 61).map (λi=>(i.zero,i.size,i.bytes))=some (some (.agg #[.string ⟨#[]⟩,.string ⟨#[]⟩,.int .i64 0,.string ⟨#[]⟩,.int .i64 0,.string ⟨#[]⟩]),6,80):=RO
def CK{w w1:QV}{hb db:Nat}{N P vn O:Xa}(h:LP w l s L hb db N P vn O)(r:G w)(B:Xb w w1)(y)(hlen:s.du.length<=1000)(cs)(hcs:cs=(dB y).toArray):∃g' p w3,(Builtin.append_ #[55,55] 55 #[vn,.slice (some ⟨w1.1.size,0,none⟩) 1 1]).run Tryz.prog (w1.alloc (.cells cs 61))=.ok (.slice (some ⟨g',0,none⟩) (s.du.length+1) p) w3 /\w3.cell? ⟨l,4,none⟩=some vn/\w3.frozen? ⟨l,4,none⟩=false/\cH w l L { s with du:=s.du++[y] } (w3.setCell ⟨l,4,none⟩ (.slice (some ⟨g',0,none⟩) (s.du.length+1) p))/\(∀k,w.1.size<=k->k<w1.1.size->w3.1[k]?=w1.1[k]?):=by
 have n:Below _ w (w1.alloc (.cells cs 61)):=B.alloc B.size _;have h2:=h.st (λk m=>n.block k (h.lt m)) (eH.below n);have D:=r.below n r.size;have I:=heap_alloc_new w1 (.cells cs 61);obtain⟨R,S,c1,T,c2,U,hy⟩:=q9 y;rw[hy]at hcs;subst hcs;obtain⟨g',p,w3,M,J,z,F,hold⟩:=iE 55 55 61 _ 6 80 Tryz.underlying55 Fx rfl RZ _ _ _ h2.du ⟨w1.1.size,0,none⟩ 1 (dB y) (by rw[hy];rfl) (λj u hj=>by
  rw[addr_add,aI];simp only[World.cell?,I];rw[hy]at hj
  match j,hj with
  |0,hj=>simp at hj;rw[<-hj];rfl
  |1,hj=>simp at hj;rw[<-hj];rfl
  |2,hj=>simp at hj;rw[<-hj];rfl
  |3,hj=>simp at hj;rw[<-hj];rfl
  |4,hj=>simp at hj;rw[<-hj];rfl
  |5,hj=>simp at hj;rw[<-hj];rfl) (λu hu=>by
  rw[hy]at hu;simp at hu;rcases hu with rfl|rfl|rfl|rfl|rfl|rfl<;>rfl) RM R6 (ah r.size n.size)
 have C:=(Tn.mk (e0:=61) z (λb hb=>cz h2.du hb)).cells h2.eb RZ;refine⟨g',p,w3,M,by simp[World.cell?,C],by simp[World.frozen?,C],?_,λk Q E=>(z.block k R5 (λe=>by
  have:=h.lt (h.dK k (.inr (.inr (.inl e.symm))));omega)).trans (UE w1 _ k E)⟩
 have K:w3.ownsRow 8 61 6 (.slice (some ⟨g',0,none⟩) (s.du.length+1) p) (s.du.length+1) ((s.du++[y]).flatMap dB):=by
  rw[Qf];simpa using J
 obtain⟨L',k1,k2,k3,k4⟩:=h2.Oz D y z R2 K F hold;refine⟨L',k1,λk m=>?_,k3,(uE.below n).trans k4 (λk m=>.inl m) (λk m=>m)⟩;rcases k2 k m with h|h
 ·exact .inl h
 have:=n.size;exact .inr RM
def Nu(t):∃n,hM t=n+1:=by
 refine⟨hM t-1,?_⟩;have:1<=hM t:=by
  unfold hM;rw[Q6,Qc];show 1<=hT 1604+1604+2;omega
 omega
def AB{w:QV}{t:bY.T}(h:dI w (hM t) t x):∃b,x=ptr b:=by
 obtain⟨n,e⟩:=Nu t;rw[e]at h;obtain⟨b,i,s,qs,fz,h1,_⟩:=h;exact⟨b,h1⟩
end
section
open Tryz
variable{j:Nat}{s:bY.LS}{L:Nat->Prop}{b:ba}
def fD.alloc{w:QV}(h:fD w j s L)(o):fD (w.alloc o) j s L:=by
 have e:Below _ w (w.alloc o):=(Uz _ _).alloc (af _) _;exact h.st (λk l=>e.block k (h.ct k l).2.1) (eH.below e)
def kB.run{w:QV}{p:Nat}(h:kB w j b.1.1 p)(u:b.size<=200):∃hb,w.cell? ⟨j,0,none⟩=some (.map (some hb))/\(Instr.lookup 104 (.map (some hb)) (.string b) true).run prog w=.ok (.tuple #[ptr p,.bool true]) w:=by
 have m:b.1.1.length<=maxLen:=Sd;obtain⟨hb,es,l,r,n⟩:=h;have e:=r.cr underlying104 (k:=b.1.1) m (z:=.pointer none) RO;rw[n,dF]at e;exact⟨hb,l,e⟩
def AD(w j b s L)(h:fD w j s L)(u:b.size<=200)(hl:bY.cr s.cm b.1.1=none):Calls prog 85 #[ptr j,.string b] w λe w'=>∃x,e=.returned x/\g_ w' (.error 7) x/\cH w j L s w':=by
 have m:=h.alloc (.cells #[.int .i64 0,.nilIface] 113);have n:b.1.1.length<=maxLen:=Sd;have l:=bZ (cH.below h ((Uz _ w).alloc (af _) (.cells #[.int .i64 7,.nilIface] 113)));obtain⟨hb,db,y,B,vn,z,h1⟩:=m;have r:(w.alloc (.cells #[.int .i64 0,.nilIface] 113)).cell? ⟨j,0,none⟩=some (.map (some hb)):=by simp[World.cell?,h1.eb]
 have p:=h1.cm.yY hl n;rw[dF]at p;unfold ptr;go_enter func85,ntmps85;go_wp2_with fail;exact UA (v:=.agg #[.int .i64 7,.nilIface]) (by simp[results,results85,go_sem]) rfl ⟨_,rfl,.inr ⟨7,rfl,rfl,by omega,by omega⟩,l.Z⟩
def CL(w j b s L)(h:fD w j s L)(C:b.size<=200)(th)(hl:bY.cr s.cm b.1.1=some th)(E:th.dc=none):Calls prog 85 #[ptr j,.string b] w λe w'=>∃x,e=.returned x/\g_ w' (.ok th.value) x/\cH w j L s w':=by
 have m:∀o,Below _ w _:=λo=>(Uz _ w).alloc (af _) o;obtain⟨p,D,F⟩:=h.IB hl;obtain⟨hb,G,I⟩:=(D.Hw (uE.below (L:=L) (m (.cells #[.int .i64 0,.nilIface] 113)))).run C;obtain⟨K,r0,J,z,_,_,B,_⟩:=F;rcases B with⟨_,rfl,hv,_⟩|⟨t,a,y,_⟩
 ·obtain⟨n,l,rfl⟩:=hv.one;have u:=bZ (And.intro (cH.below h (m (.cells #[.int .i64 0,.iface n l] 113))) (hv.keeps (cK.below (m (.cells #[.int .i64 0,.iface n l] 113)))));have r:=(m (.cells #[.int .i64 0,.nilIface] 113)).block p (cj z);rw[z]at r;have e0:(w.alloc (.cells #[.int .i64 0,.nilIface] 113)).cell? ⟨p,0,none⟩=some (.iface n l):=by simp[World.cell?,r]
  have e1:(w.alloc (.cells #[.int .i64 0,.nilIface] 113)).cell? ⟨p,1,none⟩=some (.pointer none):=by simp[World.cell?,r]
  unfold ptr at *;go_enter func85,ntmps85;go_wp2_with fail;exact UA (v:=.agg #[.int .i64 0,.iface n l]) (by simp[results,results85,go_sem]) rfl ⟨_,rfl,.inl ⟨_,_,rfl,rfl,u.Z.2⟩,u.Z.1⟩
 rw[E]at y;cases y
end
section
open Tryz
namespace Ref
def xU(r:bY.Wo)(w):Calls prog 152 #[dw r] w λe w'=>e=.returned (str (bY.gu r))/\Xb w w':=by
 cases r with
 |ok v =>
  show Calls _ _ #[.agg #[.int .i64 0,.string ⟨(bY.wr 3 v).toArray⟩]] _ λe w'=>e=.returned (.string ⟨(bY.wr 3 v).toArray⟩)/\Xb w w';go_enter func152,ntmps152;go_wp2_with fail;go_ret;exact⟨rfl,(Uz _ w).alloc (af _) _⟩
 |error c =>
  show Calls _ _ #[.agg #[.int .i64 (c:Int),.string ⟨#[]⟩]] _ λe w'=>e=.returned (str (bY.kR c))/\Xb w w';by_cases h:c=7\/c=8\/c=9\/c=10\/c=11
  ·rcases h with rfl|rfl|rfl|rfl|rfl
   all_goals
    go_enter func152,ntmps152;go_wp2_with fail;go_ret;exact⟨rfl,(Uz _ w).alloc (af _) _⟩
  have l:((c:Int)==7)=false:=R7;have m:((c:Int)==8)=false:=R7;have n:((c:Int)==9)=false:=R7;have b:((c:Int)==10)=false:=R7;have j:((c:Int)==11)=false:=R7;have hb:bY.kR c=[]:=by
   unfold bY.kR;rw[ae RM,ae RM,ae RM,ae RM,ae RM]
  rw[hb];clear h hb;go_enter func152,ntmps152;go_wp2_with fail;go_ret;exact⟨rfl,(Uz _ w).alloc (af _) _⟩
end Ref
end
