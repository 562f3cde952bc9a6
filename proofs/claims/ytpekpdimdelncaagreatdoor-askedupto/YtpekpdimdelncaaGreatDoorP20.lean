/- Out of U14. -/
import Derived.Test.YtpekpdimdelncaaGreatDoorP18
import Derived.Test.YtpekpdimdelncaaGreatDoorP17
set_option linter.unusedVariables false
set_option linter.unusedSimpArgs false
set_option maxRecDepth 100000
set_option maxHeartbeats 8000000
set_option linter.defProp false
namespace Go.Proofs.YtpekpdimdelncaaGreatDoor
open Go.RowKit Go.Shelf
section
open bY
open Tryz
def Ag{n:Nat}{b:Bool}{t:bY.T}(h:ib (n+1) b t=true):1<=t.cq/\t.cq<=16/\(t.cq=8\/t.parts.length=jy t.cq)/\t.parts.length<=200/\(t.cq=1->t.op=43\/t.op=45\/t.op=42\/t.op=47\/t.op=60\/t.op=61)/\(t.cq=13->t.op=109\/t.op=120\/t.op=64)/\(t.cq=2->t.is.isSome=true)/\(t.cq=4->b=true) /\(t.cq=15\/t.cq=16->ib n b (t.cG 0)=true/\ib n true (t.cG 1)=true)/\(t.cq≠15->t.cq≠16->∀j,j<t.parts.length->ib n b (t.cG j)=true):=by
 unfold ib at h;simp only[QB,decide_eq_true_eq,Ql,P',aZ,ne_eq]at h;obtain⟨⟨⟨⟨⟨⟨⟨⟨h1,h2⟩,y⟩,z⟩,l⟩,m⟩,p⟩,r⟩,u⟩:=h;refine⟨h1,h2,y,z,λe=>?_,λe=>?_,λe=>?_,λe=>?_,λe=>?_,λe B j hj=>?_⟩
 ·rcases l with l|l
  ·exact absurd e l
  simpa using l
 ·rcases m with m|m
  ·exact absurd e m
  simpa using m
 ·rcases p with p|p
  ·exact absurd e p
  exact p
 ·rcases r with r|r
  ·exact absurd e r
  exact r
 ·rw[ag e]at u;simpa using u
 rw[ae RM]at u;have hu:t.parts[j]?=some (t.cG j):=by
  rw[bY.T.cG,aq hj];rfl
 exact(P_.1 u) _ (aL hu)
def Cp{σ:Type}(N n t it)(s:Nat×σ):ev N (n+1) t it s =(if t.cq=1 then fQ N (λu s=>ev N n u it s) t s
  else if s.1=0 then(.error 11,s)
  else if t.cq=2 then((match t.is with|some v=>.ok v|.none=>.error 11),(s.1-1,s.2))
  else if t.cq=3 then pR N t.name (s.1-1,s.2)
  else if t.cq=4 then((match it with|some v=>.ok v|.none=>.error 11),(s.1-1,s.2))
  else if t.cq=14 then
   (match ev N n (t.cG 0) it (s.1-1,s.2) with
   |(.ok v,s)=>(.ok v,s)
   |(.error e,s)=>if e=7\/e=8\/e=9\/e=10 then ev N n (t.cG 1) it s else(.error e,s))
  else if t.cq=15 then iX (ev N n (t.cG 0) it (s.1-1,s.2)) λv s =>
   (match eK v with
   |.ok l=>mZ (λu s=>ev N n (t.cG 1) (some u) s) l [] s
   |.error e=>(.error e,s))
  else if t.cq=16 then iX (ev N n (t.cG 0) it (s.1-1,s.2)) λv s =>
   (match eK v with
   |.ok l=>jx (λu s=>ev N n (t.cG 1) (some u) s) l [] s
   |.error e=>(.error e,s))
  else if t.cq=8 then mZ (λu s=>ev N n u it s) t.parts [] (s.1-1,s.2)
  else fQ N (λu s=>ev N n u it s) t (s.1-1,s.2)):=rfl
def E7(E n t it x xi F s w)(h2:2<=t.cq)(z:t.cq<=16)(hx:dI w (n+1) t x)(h:St E F (0,s) w):Calls prog 203 #[.pointer (some ⟨E.rb,0,none⟩),x,xi] w (PW (Ψ E F w (ev E.N (n+1) t it (0,s)))):=by
 obtain⟨b,i,o,m,c,rfl,nd⟩:=hx.node;obtain⟨r,_,_,_,_⟩:=nd.cells w (cK.refl w);have u:ev E.N (n+1) t it (0,s)=(.error 11,(0,s)):=by rw[Cp,ae RM,ag rfl]
 rw[u];have l:=bZ (Cm E F s w h);have p:=bZ (show PW (Ψ E F w (.error 11,(0,s))) (gE 11) w from⟨.error 11,⟨rfl,F,h,λk j=>.inl j,Fm.refl _ _⟩,.inr ⟨11,rfl,rfl,by omega,by omega⟩⟩);generalize y:E.rb=rb at l;clear y h hx nd;obtain j|j|j|j|j|j|j|j|j|j|j|j|j|j|j:t.cq=2\/t.cq=3\/t.cq=4\/t.cq=5\/t.cq=6\/t.cq=7\/t.cq=8\/t.cq=9\/t.cq=10\/t.cq=11\/t.cq=12\/t.cq=13\/t.cq=14\/t.cq=15\/t.cq=16:=RM
 all_goals
  rw[j]at r;clear j;go_enter func203,ntmps203;go_wp2_with fail;refine l.Z.mono ?_;rintro e w1⟨rfl,rfl⟩;exact⟨rfl,p.Z⟩
def E8(E)(ok:gh E)(n t x xi F f s w)(hz:f≠0)(fn)(hx:dI w (n+1) t x)(Q:xi=.nilIface\/∃tx I,xi=.iface tx I)(h:St E F (f,s) w)(fin)(B:∀b,x=.pointer (some ⟨b,0,none⟩)->∀w1,St E F (f-1,s) w1->Fm E.base w w1->Calls prog fn (if t.cq=3 then #[.pointer (some ⟨E.rb,0,none⟩),.string ⟨t.name.toArray⟩]else #[.pointer (some ⟨E.rb,0,none⟩),.pointer (some ⟨b,0,none⟩),xi]) w1 (PW (Ψ E F w fin)))(j:((t.cq=5\/t.cq=6\/t.cq=7\/t.cq=9\/t.cq=10\/t.cq=11\/t.cq=12\/t.cq=13)/\fn=251)\/(t.cq=8/\fn=250)\/(t.cq=14/\fn=247)\/(t.cq=15/\fn=248)\/(t.cq=16/\fn=249)\/(t.cq=3/\fn=246)):Calls prog 203 #[.pointer (some ⟨E.rb,0,none⟩),x,xi] w (PW (Ψ E F w fin)):=by
 obtain⟨b,i,o,m,c,rfl,nd⟩:=hx.node;have y:=bZ (λw' K=>(nd.cells w' K));obtain⟨J,_,_,_,_⟩:=nd.cells w (cK.refl w);have r:=bZ (uz E ok F f s w h RM);have p:=bZ (B b rfl);generalize L:E.rb=rb at r p;clear L h hx nd B;rcases j with⟨j|j|j|j|j|j|j|j,rfl⟩|⟨j,rfl⟩|⟨j,rfl⟩|⟨j,rfl⟩|⟨j,rfl⟩|⟨j,rfl⟩
 all_goals
  rw[j]at J;go_enter func203,ntmps203;go_wp2_with fail;refine r.Z.mono ?_;rintro e w1⟨rfl,M,z,_⟩;obtain⟨N,k1,k2,k3,k4⟩:=y.Z w1 z.keeps;have l:=p.Z w1 M z;rw[j]at N l;have l:=bZ l;clear p r y j;go_wp2_with fail;refine l.Z.mono ?_;rintro e w3 C;have u:=C;obtain⟨R,_,⟨S,T,_,rfl,D⟩|⟨P,_,rfl,_⟩⟩:=C
  ·obtain⟨t3,O,rfl⟩:=D.one;have G:=bZ u;clear u D l;go_wp2_with fail;go_ret;exact G.Z
  exact⟨rfl,u⟩
def Ah(E)(ok:gh E)(n t x xi F f s w)(hz:f≠0)(hx:dI w (n+1) t x)(R:xi=.nilIface\/∃tx K,xi=.iface tx K)(h:St E F (f,s) w)(p)(I:(t.cq=2/\t.is=some p)\/(t.cq=4/\cT w 3 p xi)):Calls prog 203 #[.pointer (some ⟨E.rb,0,none⟩),x,xi] w (PW (Ψ E F w (.ok p,(f-1,s)))):=by
 obtain⟨b,i,o,m,c,rfl,nd⟩:=hx.node;have C:=bZ (λw' M=>(nd.cells w' M));obtain⟨L,_,_,_,_⟩:=nd.cells w (cK.refl w);have z:=bZ (uz E ok F f s w h RM);have D:∀j,cT w 3 p j->∀(w1:QV) (u:St E F (f-1,s) w1) (r:Fm E.base w w1),PW (Ψ E F w (.ok p,(f-1,s))) (.returned j) w1:=λj hj w1 u r=>⟨.ok p,⟨rfl,F,u,λk l=>.inl l,r⟩,.inl ⟨p,_,rfl,rfl,hj.keeps r.keeps⟩⟩;have l:(t.cq=2/\cT w 3 p i)\/(t.cq=4/\cT w 3 p xi):=by
  rcases I with⟨l,h'⟩|l
  ·rcases nd.is with⟨N,_⟩|⟨v2,G,hs⟩
   ·rw[N]at h';cases h'
   rw[h']at G;cases G;exact .inl ⟨l,hs⟩
  exact .inr l
 generalize O:E.rb=rb at z;clear O h hx nd I;rcases l with⟨l,y⟩|⟨l,y⟩
 all_goals
  have B:=bZ (D _ y);obtain⟨S,Q,rfl⟩:=y.one;clear y D;rw[l]at L;go_enter func203,ntmps203;go_wp2_with fail;refine z.Z.mono ?_;rintro e w1⟨rfl,u,r,_⟩;obtain⟨P,k1,k2,k3,k4⟩:=C.Z w1 r.keeps;rw[l]at P;have J:=bZ (B.Z w1 u r);clear z C B;go_wp2_with fail;go_ret;exact J.Z
def Nh(E)(ok:gh E)(n)(C:gJ E n)(t it x xi F st w)(j:t.cq=1)(I:ib (n+1) it.isSome t=true)(hx:dI w (n+1) t x)(hi:gI w it xi)(h:St E F st w):Calls prog 203 #[.pointer (some ⟨E.rb,0,none⟩),x,xi] w (PW (Ψ E F w (ev E.N (n+1) t it st))):=by
 obtain⟨_,_,K,O,J,Q,P,hit,R,L⟩:=Ag I;have y:ev E.N (n+1) t it st=fQ E.N (λu s=>ev E.N n u it s) t st:=by
  rw[Cp,j,ag rfl]
 rw[y];have l:=lA E ok n C t it _ xi F st w (.inl j) (by rcases K with h'|h';(· omega);(· rw[h',j];rfl)) (L RM RM) (by have:=J j;omega) hx hi h;obtain⟨b,i,o,m,c,rfl,nd⟩:=hx.node;obtain⟨G,_,_,_,_⟩:=nd.cells w (cK.refl w);rw[j]at G;generalize fQ E.N (λu s=>ev E.N n u it s) t st=fin at l ⊢;generalize E.rb=rb at l ⊢;have r:=bZ l;clear l h hx hi nd y C;go_enter func203,ntmps203;go_wp2_with fail;refine r.Z.mono ?_;rintro e w3 z;have p:=z;obtain⟨S,_,⟨T,U,_,rfl,B⟩|⟨N,_,rfl,_⟩⟩:=z
 ·obtain⟨t3,M,rfl⟩:=B.one;have D:=bZ p;clear p B r;go_wp2_with fail;go_ret;exact D.Z
 exact⟨rfl,p⟩
def Ai(E)(ok:gh E):∀n,gJ E n
 |0=>λt it x xi F st w B _ _ _=>by cases B
 |n+1=>λt it x xi F st w B hx hi h=>by
  have u:=Ai E ok n;obtain⟨h1,G,N,I,O,L,J,hit,C,z⟩:=Ag B;by_cases K:t.cq=1
  ·exact Nh E ok n u t it x xi F st w K B hx hi h
  obtain⟨f,s⟩:=st;by_cases hz:f=0
  ·subst hz;exact E7 E n t it x xi F s w RM G hx h
  have y:∀{k},t.cq=k->k≠8->t.parts.length=jy k:=λe j=>by
   rcases N with h'|h'
   ·exact absurd (e.symm.trans h') j
   rw[h',e]
  have hA:∀{w1:QV} {fin},Fm E.base w w1->∀e w3,PW (Ψ E F w1 fin) e w3->PW (Ψ E F w fin) e w3:=λl e w3 M=>PW.after (λk j=>.inl j) l M;have p:=E8 E ok n t x xi F f s w hz;obtain j|j|j|j|j|j|j|j|j|j|j|j|j|j|j:t.cq=2\/t.cq=3\/t.cq=4\/t.cq=5\/t.cq=6\/t.cq=7\/t.cq=8\/t.cq=9\/t.cq=10\/t.cq=11\/t.cq=12\/t.cq=13\/t.cq=14\/t.cq=15\/t.cq=16:=RM
  all_goals rw[Cp];simp only[j,hz,aN,Qn,Nat.reduceEqDiff]
  ·cases hv:t.is with
   |none=>have:=J j;rw[hv]at this;cases this
   |some D=>exact Ah E ok n t x xi F f s w hz hx hi.form h D (.inl ⟨j,hv⟩)
  ·refine p _ hx hi.form h _ (λb hb w1 m l=>?_) (.inr (.inr (.inr (.inr (.inr ⟨j,rfl⟩)))));rw[ag j];obtain⟨_,_,_,_,_,_,nd⟩:=hx.node;exact(xl E ok F (f-1,s) ⟨t.name.toArray⟩ w1 m (by show t.name.toArray.size<=200;simpa using nd.name) (by have:=h.le;show E.kO s+(f-1)<400;have:E.kO s+f<=400:=this;omega)).mono (hA l)
  ·rcases hi with⟨rfl,_⟩|⟨D,rfl,hs⟩
   ·have:=hit j;cases this
   exact Ah E ok n t x xi F f s w hz hx (.inr hs.one) h D (.inr ⟨j,hs⟩)
  ·refine p _ hx hi.form h _ (λb hb w1 m l=>?_) (.inl ⟨by omega,rfl⟩);rw[ae RM,<-hb];exact(ki E ok n u t it _ xi F (f-1,s) w1 (.inl j) (y j RZ) (z RM RM) (hx.keeps l.keeps) (hi.keeps l.keeps) m).mono (hA l)
  ·refine p _ hx hi.form h _ (λb hb w1 m l=>?_) (.inl ⟨by omega,rfl⟩);rw[ae RM,<-hb];exact(sV E ok n u t it _ xi F (f-1,s) w1 j (y j RZ) (z RM RM) (hx.keeps l.keeps) (hi.keeps l.keeps) m).mono (hA l)
  ·refine p _ hx hi.form h _ (λb hb w1 m l=>?_) (.inl ⟨by omega,rfl⟩);rw[ae RM,<-hb];exact(wD E ok n u t it _ xi F (f-1,s) w1 j (y j RZ) (z RM RM) (hx.keeps l.keeps) (hi.keeps l.keeps) m (by have:E.kO s+f<=400:=h.le;show E.kO s+(f-1)<400;omega)).mono (hA l)
  ·refine p _ hx hi.form h _ (λb hb w1 m l=>?_) (.inr (.inl ⟨j,rfl⟩));rw[ae RM,<-hb];exact(oO E ok n u t it _ xi F (f-1,s) w1 I (z RM RM) (hx.keeps l.keeps) (hi.keeps l.keeps) m).mono (hA l)
  ·refine p _ hx hi.form h _ (λb hb w1 m l=>?_) (.inl ⟨by omega,rfl⟩);rw[ae RM,<-hb];exact(yI E ok n u t it _ xi F (f-1,s) w1 j (y j RZ) (z RM RM) (hx.keeps l.keeps) (hi.keeps l.keeps) m).mono (hA l)
  ·refine p _ hx hi.form h _ (λb hb w1 m l=>?_) (.inl ⟨by omega,rfl⟩);rw[ae RM,<-hb];exact(ki E ok n u t it _ xi F (f-1,s) w1 (.inr (.inl j)) (y j RZ) (z RM RM) (hx.keeps l.keeps) (hi.keeps l.keeps) m).mono (hA l)
  ·refine p _ hx hi.form h _ (λb hb w1 m l=>?_) (.inl ⟨by omega,rfl⟩);rw[ae RM,<-hb];exact(ki E ok n u t it _ xi F (f-1,s) w1 (.inr (.inr (.inl j))) (y j RZ) (z RM RM) (hx.keeps l.keeps) (hi.keeps l.keeps) m).mono (hA l)
  ·refine p _ hx hi.form h _ (λb hb w1 m l=>?_) (.inl ⟨by omega,rfl⟩);rw[ae RM,<-hb];exact(ki E ok n u t it _ xi F (f-1,s) w1 (.inr (.inr (.inr j))) (y j RZ) (z RM RM) (hx.keeps l.keeps) (hi.keeps l.keeps) m).mono (hA l)
  ·refine p _ hx hi.form h _ (λb hb w1 m l=>?_) (.inl ⟨by omega,rfl⟩);rw[ae RM,<-hb];exact(lA E ok n u t it _ xi F (f-1,s) w1 (.inr j) (y j RZ) (z RM RM) (by have:=L j;omega) (hx.keeps l.keeps) (hi.keeps l.keeps) m).mono (hA l)
  ·refine p _ hx hi.form h _ (λb hb w1 m l=>?_) (.inr (.inr (.inl ⟨j,rfl⟩)));rw[ae RM,<-hb];have:=KP E ok n u t it _ xi F (f-1,s) w1 (y j RZ) (z RM RM) (hx.keeps l.keeps) (hi.keeps l.keeps) m;unfold Ng at this
   try dsimp only at this
   generalize ev E.N n (t.cG 0) it (f-1,s)=q at this ⊢;obtain⟨r,s'⟩:=q;cases r<;>exact this.mono (hA l)
  ·refine p _ hx hi.form h _ (λb hb w1 m l=>?_) (.inr (.inr (.inr (.inl ⟨j,rfl⟩))));rw[ae RM,<-hb];exact(Hr E ok n u t it _ xi F (f-1,s) w1 (y j RZ) (C (.inl j)).1 (C (.inl j)).2 (hx.keeps l.keeps) (hi.keeps l.keeps) m).mono (hA l)
  refine p _ hx hi.form h _ (λb hb w1 m l=>?_) (.inr (.inr (.inr (.inr (.inl ⟨j,rfl⟩)))));rw[ae RM,<-hb];exact(Ht E ok n u t it _ xi F (f-1,s) w1 (y j RZ) (C (.inr j)).1 (C (.inr j)).2 (hx.keeps l.keeps) (hi.keeps l.keeps) m).mono (hA l)
end
def Cq(E)(ok:gh E)(n t u b F st w)(P:bY.ib n false t=true)(Q:E.dc=.pointer (some ⟨b,0,none⟩))(hx:dI w n t (.pointer (some ⟨b,0,none⟩)))(h:St E F st w)(d0:w.1[u]?=some (.cells #[.pointer (some ⟨E.rb,0,none⟩)] 242 (0,0))):Calls Tryz.prog 202 #[.pointer (some ⟨u,0,none⟩)] w (PW (Ψ E F w (bY.ev E.N n t none st))):=by
 have D:Xb w w.drew:=(Uz _ w).drew;have C:Fm E.base w w.drew:=Fm.below D (ah ok.gj (aE h.lt));have m:=(Ai E ok n t none _ .nilIface F st w.drew P (hx.keeps C.keeps) (.inl ⟨rfl,rfl⟩) (h.below ok D)).mono (λe w3 l=>PW.after (λk O=>.inl O) C l);have cells:∀w3 r L,Fm E.base w w3->St E r L w3->w3.cell? ⟨u,0,none⟩=some (.pointer (some ⟨E.rb,0,none⟩))/\w3.cell? ⟨E.rb,0,none⟩=some (.pointer (some ⟨b,0,none⟩)):=λw3 r L hf hs=>by
  have f0:=hf.rQ _ _ _ _ d0 (.inr (.inr rfl));obtain⟨tc,ti,I⟩:=hs.run;rw[dO,Q]at I;exact⟨by simp[World.cell?,f0],by simp[World.cell?,I]⟩
 have m:=m.mono (R':=λe w3=>PW (Ψ E F w (bY.ev E.N n t none st)) e w3/\_) (λe w3 l=>⟨l,by
  obtain⟨_,⟨_,r,hs,_,hf⟩,_⟩:=l;exact cells w3 r _ hf hs⟩)
 obtain⟨d0,d1⟩:=cells w F st (Fm.refl _ _) h;clear cells;generalize bY.ev E.N n t none st=q at m ⊢;generalize E.rb=rb at m d0 d1;have M:=bZ m;clear hx h C m;go_enter Tryz.func202,Tryz.ntmps202;go_wp2_with fail;refine wp_region_held_drew (S:=λw'=>w'.cell? ⟨u,0,none⟩=some (.pointer (some ⟨rb,0,none⟩))/\w'.cell? ⟨rb,0,none⟩=some (.pointer (some ⟨b,0,none⟩))) RO ⟨d0,d1⟩ (λhHeld=>?_);refine wpAnyH_take (i:=0) (v:=?_) rfl RO RO RO (λ_ _ _ h=>h) (Or.inl ⟨by rfl,?_⟩) R9 ?_
 rotate_left
 ·intro w' j;obtain⟨y,z⟩:=j;go_simp
  try with_reducible rfl
 simp only[Act.put,ar,Xc,Xd];refine wpAnyH_take (i:=1) (v:=?_) rfl RO RO RO (λ_ _ _ h=>h) (Or.inl ⟨by rfl,?_⟩) R9 ?_
 rotate_left
 ·intro w' j;obtain⟨y,z⟩:=j;go_simp
  try with_reducible rfl
 simp only[Act.put,ar,Xc,Xd];refine wpAnyH_take (i:=2) (v:=?_) rfl RO RO RO (λ_ _ _ h=>h) (Or.inl ⟨by rfl,?_⟩) R9 ?_
 rotate_left
 ·intro w' j;obtain⟨y,z⟩:=j;go_simp
  try with_reducible rfl
 simp only[Act.put,ar,Xc,Xd];refine wpAnyH_take (i:=3) (v:=?_) rfl RO RO RO (λ_ _ _ h=>h) (Or.inl ⟨by rfl,?_⟩) R9 ?_
 rotate_left
 ·intro w' j;obtain⟨y,z⟩:=j;go_simp
  try with_reducible rfl
 simp only[Act.put,ar,Xc,Xd];refine wpAnyH_take (i:=4) (v:=?_) rfl RO RO RO (λ_ _ _ h=>h) (Or.inl ⟨by rfl,?_⟩) R9 ?_
 rotate_left
 ·intro w' j;obtain⟨y,z⟩:=j;go_simp
  try with_reducible rfl
 simp only[Act.put,ar,Xc,Xd];refine wpAnyH_ready (rs:=[5]) RO R2 ?_;refine AllReadyH.cons rfl (λK p=>?_) AllReadyH.nil;go_simp;refine M.Z.mono ?_;rintro e w3⟨l,G⟩;have B:=l;obtain⟨U,_,⟨V,X,_,rfl,J⟩|⟨T,_,rfl,_⟩⟩:=l
 ·obtain⟨t3,R,rfl⟩:=J.one;have N:=bZ B;clear B J;refine p.out _ _ G (λ_=>?_);clear p hHeld;refine wpAnyH_ready (rs:=[6]) RO R2 ?_;refine AllReadyH.cons rfl (λK p=>?_) AllReadyH.nil;go_simp;refine p.out _ _ G (λ_=>?_);clear p;refine wpAnyH_done RO ?_ _;go_wp2_with fail;go_ret;exact N.Z
 exact⟨rfl,B⟩
section
open bY
open Tryz
variable{F:Nat->Prop}
def uD{P:Program}{w:QV}(a m f x y):(store a (.func f x y) m).run P w=stored P w a (.func f x y) m:=run_store P w a _ m rfl
def qO{P:Program}{w:QV}(a m):(store a .nilFunc m).run P w=stored P w a .nilFunc m:=run_store P w a _ m rfl
attribute [local go_sem] uD qO
def yJ(E)(ok:gh E)(n t y b F st W)(O:ib n false t=true)(R:E.dc=.pointer (some ⟨b,0,none⟩))(hx:dI W n t (.pointer (some ⟨b,0,none⟩)))(h:St E F st W)(d0:W.1[y]?=some (.cells #[.pointer (some ⟨E.rb,0,none⟩)] 242 (0,0))):Calls prog 201 #[.func (.func 202) #[] #[.pointer (some ⟨y,0,none⟩)]] W λe w'=>∃x l,e=.returned x/\g_ w' (ev E.N n t none st).1 x/\St E l (ev E.N n t none st).2 w'/\(∀k,l k->F k\/W.1.size<=k)/\Fm E.base W w':=by
 have D:=ah ok.gj (aE h.lt);obtain⟨j,u⟩:∃j,W.alloc (.cells #[.int .i64 0,.nilIface] 113)=j:=⟨_,rfl⟩;have p:Xb W j:=by rw[<-u];exact(Uz _ _).alloc (af _) _
 have T:j.1.size=W.1.size+1:=by rw[<-u];simp
 have m:=cK.below p;have e0:=(p.block _ (cj d0)).trans d0;have B:j.1[W.1.size]?=some (.cells #[.int .i64 0,.nilIface] 113 (0,0)):=by rw[<-u];exact heap_alloc_new W _
 have h1:=Cq E ok n t y b F st j O R (hx.keeps m) (h.below ok p) e0;have K:Calls prog 202 #[.pointer (some ⟨y,0,none⟩)] (W.alloc (.cells #[.int .i64 0,.nilIface] 113)) λe w'=>w'.1[W.1.size]?=some (.cells #[.int .i64 0,.nilIface] 113 (0,0))/\PW (Ψ E F j (ev E.N n t none st)) e w':=by
  rw[u];refine h1.mono λe w3 I=>⟨?_,I⟩;obtain⟨_,⟨_,_,_,_,hf⟩,_⟩:=I;exact hf.rQ _ _ _ _ B (.inr (.inl rfl))
 refine(uy 202 (.inl rfl) _ W _ K).mono ?_;rintro e w'⟨r,x,w2,rfl,⟨rfl,l,P,C,G⟩,z,L⟩;have J:=(Fm.below p D).trans G;have M:∀k,l k->F k\/W.1.size<=k:=λk m=>by
  rcases C k m with h'|h'
  ·exact .inl h'
  exact .inr RM
 have N:¬l W.1.size:=λm=>by
  rcases C _ m with h'|h'
  ·have:=(ok.Gt _ _ _ _ h.inv h').1;omega
  omega
 have S:=h.lt;have Q:=(kz z (λcs ty fz hb hi=>by
  rw[G.rQ _ _ _ _ B (.inr (.inl rfl))]at hb;cases hb;rcases hi with h|h|h<;>cases h)).stay
 exact⟨x,l,rfl,L,P.grown ok z RM N (by have:=h.g.size;omega) Q,M,J.own z RM D⟩
def run_set{E:Env}(ok:gh E){s:E.σ}{w:QV}{p y tc ti wc wi:Xa}{f:Nat}(m:dO w E.rb p y tc ti f wc wi)(l:E.J F s w)(g:G w)(o v):E.J F s (w.setCell ⟨E.rb,o,none⟩ v)/\G (w.setCell ⟨E.rb,o,none⟩ v)/\Fm E.base w (w.setCell ⟨E.rb,o,none⟩ v):=by
 have b:=da (UD w (some E.rb)) o v;have r:=cj m;have n := Fm.grown b ok.gj (aE (Rz ok.gj r)) (λcs t fz h => by
       rw[dO]at m;rw[m]at h;cases h;rintro((h|h|h)|h|h)<;>cases h)
 refine⟨?_,?_,?_⟩
 ·exact ok.Ad _ _ _ _ l b.size (λk j=>b.block k (ok.Gt _ _ _ _ l j).1 (λe=>(ok.Gt _ _ _ _ l j).2 Sv)) n.keeps.stay
 ·exact g.below (B:=8) ((Uz 8 w).grown b g.size (λk j=>by cases j;exact ah ok.Ae ok.gj)) (af _)
 exact n
def lh(E:Env)(F:Nat->Prop)(w:QV)(q:Except Nat V×(Nat×E.σ))(e:Ending)(w':QV):Prop :=e=.returned (.tuple #[])/\∃F' c i tc ti,g_ w' q.1 (.agg #[c,i])/\dO w' E.rb E.dc .nilFunc tc ti q.2.1 c i/\E.J F' q.2.2 w'/\E.kO q.2.2+q.2.1<=400/\(∀k,F' k->F k\/w.1.size<=k)/\Fm E.base w w'/\G w'
def E9(E)(ok:gh E)(n t b F f s Y tc ti w)(a0:ib n false t=true)(a4:E.dc=.pointer (some ⟨b,0,none⟩))(hx:dI w n t (.pointer (some ⟨b,0,none⟩)))(hr:dO w E.rb E.dc Y tc ti f E.wc E.wi)(hJ:E.J F s w)(g:G w)(hf:E.kO s+f<=400):Calls prog 161 #[.pointer (some ⟨E.rb,0,none⟩),E.Y] w (lh E F w (ev E.N n t none (f,s))):=by
 have P:=cj hr;have av:=ah ok.gj (aE P);obtain⟨m,M⟩:∃m,w.alloc (.cells #[Value.pointer (some ⟨E.rb,0,none⟩)] 242)=m:=⟨_,rfl⟩;have y:Xb w m:=by rw[<-M];exact(Uz _ _).alloc (af _) _
 have a5:m.1.size=w.1.size+1:=by rw[<-M];simp
 have b0:m.1[w.1.size]?=some (.cells #[.pointer (some ⟨E.rb,0,none⟩)] 242 (0,0)):=by rw[<-M];exact heap_alloc_new w _
 have r:dO m E.rb E.dc Y tc ti f E.wc E.wi:=(y.block _ P).trans hr;have ai:=ok.Ad _ _ _ _ hJ y.size (λk T=>y.block k (ok.Gt _ _ _ _ hJ T).1) (cK.below y).stay;have g0:G m:=g.below y g.size;have c1:m.cell? ⟨E.rb,1,none⟩=some Y:=by rw[dO]at r;simp[World.cell?,r]
 have z1:m.frozen? ⟨E.rb,1,none⟩=false:=by rw[dO]at r;simp[World.frozen?,r]
 obtain⟨aa,g1,f1⟩:=run_set ok r ai g0 1 E.Y;obtain⟨W,L⟩:∃W,m.setCell ⟨E.rb,1,none⟩ E.Y=W:=⟨_,rfl⟩;have a3:dO W E.rb E.dc E.Y tc ti f E.wc E.wi:=by
  rw[<-L];rw[dO]at r ⊢;simp[World.setCell,Qj,r]
 have B:W.1[w.1.size]?=some (.cells #[.pointer (some ⟨E.rb,0,none⟩)] 242 (0,0)):=by
  rw[L]at f1;exact f1.rQ _ _ _ _ b0 (.inr (.inr rfl))
 rw[L]at aa g1 f1;have f0:Fm E.base w W:=(Fm.below y av).trans f1;have ad:St E F (f,s) W:=⟨⟨tc,ti,a3⟩,aa,g1,hf⟩;have a7:w.1.size<=W.1.size:=f0.size;have C:Xb W W.drew:=(Uz _ W).drew;have ab:Fm E.base W W.drew:=Fm.below C (ah ok.gj (aE ad.lt));have N:=yJ E ok n t w.1.size b F (f,s) W.drew a0 a4 (hx.keeps (f0.trans ab).keeps) (ad.below ok C) ((C.block _ (cj B)).trans B);have aC:∀(w3:QV) (u:Nat->Prop) (c i:Xa),g_ w3 (ev E.N n t none (f,s)).1 (.agg #[c,i])->St E u (ev E.N n t none (f,s)).2 w3->(∀k,u k->F k\/W.drew.1.size<=k)->Fm E.base W.drew w3->lh E F w (ev E.N n t none (f,s)) (.returned (.tuple #[])) (((w3.setCell ⟨E.rb,5,none⟩ c).setCell ⟨E.rb,6,none⟩ i).setCell ⟨E.rb,1,none⟩ .nilFunc):=by
  intro w3 u c i Q hs hF O;obtain⟨D,I,j⟩:=hs.run;obtain⟨ak,g4,f4⟩:=run_set ok j hs.inv hs.g 5 c;have U:dO (w3.setCell ⟨E.rb,5,none⟩ c) E.rb E.dc E.Y D I (ev E.N n t none (f,s)).2.1 c E.wi:=by
   rw[dO]at j ⊢;simp[World.setCell,Qj,j]
  obtain⟨am,g5,f5⟩:=run_set ok U ak g4 6 i;have V:dO ((w3.setCell ⟨E.rb,5,none⟩ c).setCell ⟨E.rb,6,none⟩ i) E.rb E.dc E.Y D I (ev E.N n t none (f,s)).2.1 c i:=by
   rw[dO]at U ⊢;rw[World.setCell,Qj,U];simp
  obtain⟨ao,g6,f6⟩:=run_set ok V am g5 1 .nilFunc;have a2:dO (((w3.setCell ⟨E.rb,5,none⟩ c).setCell ⟨E.rb,6,none⟩ i).setCell ⟨E.rb,1,none⟩ .nilFunc) E.rb E.dc .nilFunc D I (ev E.N n t none (f,s)).2.1 c i:=by
   rw[dO]at V ⊢;rw[World.setCell,Qj,V];simp
  have ff:=(f4.trans f5).trans f6;refine⟨rfl,u,c,i,D,I,Q.keeps ff.keeps,a2,ao,hs.le,λk T=>?_,((f0.trans ab).trans O).trans ff,g6⟩;rcases hF k T with h|h
  ·exact .inl h
  have:=C.size;exact .inr RM
 have d0:W.cell? ⟨w.1.size,0,none⟩=some (.pointer (some ⟨E.rb,0,none⟩)):=by simp[World.cell?,B]
 have N:=N.mono (R':=λe w3=>(∃(c:Int) (i:Xa) (z:QV),e=.returned (.agg #[.int .i64 c,i])/\(i=.nilIface\/∃t a,i=.iface t a)/\(∃Z c6,w3.cell? ⟨E.rb,5,none⟩=some Z/\w3.cell? ⟨E.rb,6,none⟩=some c6)/\w3.frozen? ⟨E.rb,5,none⟩=false/\w3.frozen? ⟨E.rb,6,none⟩=false/\z=((w3.setCell ⟨E.rb,5,none⟩ (.int .i64 c)).setCell ⟨E.rb,6,none⟩ i)/\z.cell? ⟨E.rb,1,none⟩=some E.Y/\z.frozen? ⟨E.rb,1,none⟩=false/\lh E F w (ev E.N n t none (f,s)) (.returned (.tuple #[])) (z.setCell ⟨E.rb,1,none⟩ .nilFunc))/\w3.cell? ⟨w.1.size,0,none⟩=some (.pointer (some ⟨E.rb,0,none⟩))) (λe w3 hp=>by
  obtain⟨x,u,rfl,Q,hs,hF,O⟩:=hp;obtain⟨c,i,rfl,ax⟩:=Q.form;have hn:=aC w3 u _ _ Q hs hF O;obtain⟨D,I,j⟩:=hs.run;have b3:=O.rQ _ _ _ _ ((C.block _ (cj B)).trans B) (.inr (.inr rfl));rw[dO]at j;refine⟨⟨_,_,_,rfl,ax,⟨E.wc,E.wi,?_,?_⟩,?_,?_,rfl,?_,?_,hn⟩,?_⟩
  ·simp[World.cell?,j]
  ·simp[World.cell?,j]
  ·simp[World.frozen?,j]
  ·simp[World.frozen?,j]
  ·simp[World.cell?,World.setCell,Qj,j]
  ·simp[World.frozen?,World.setCell,Qj,j]
  ·simp[World.cell?,b3])
 subst L M;have ay:((w.alloc (.cells #[Value.pointer (some ⟨E.rb,0,none⟩)] 242)).setCell ⟨E.rb,1,none⟩ E.Y)=((w.setCell ⟨E.rb,1,none⟩ E.Y).alloc (.cells #[Value.pointer (some ⟨E.rb,0,none⟩)] 242)):=by
  simp[go_sem,P]
 rw[ay]at N d0;have HC:=bZ N;generalize lh E F w (ev E.N n t none (f,s))=R at *;unfold Env.Y at *;generalize E.rb=rb at *;generalize E.l=l at *;go_enter func161,ntmps161;go_wp2_with fail;refine wp_region_held_drew (S:=λw'=>w'.cell? ⟨w.1.size,0,none⟩=some (.pointer (some ⟨rb,0,none⟩))) RO d0 (λhHeld=>?_);refine wpAnyH_take (i:=0) (v:=?_) rfl RO RO RO (λ_ _ _ h=>h) (Or.inl ⟨by rfl,?_⟩) R9 ?_
 rotate_left
 ·intro w' s0;go_simp
  try with_reducible rfl
 simp only[Act.put,ar,Xc,Xd];refine wpAnyH_take (i:=1) (v:=?_) rfl RO RO RO (λ_ _ _ h=>h) (Or.inl ⟨by rfl,?_⟩) R9 ?_
 rotate_left
 ·intro w' s0;go_simp
  try with_reducible rfl
 simp only[Act.put,ar,Xc,Xd];refine wpAnyH_ready (rs:=[2]) RO R2 ?_;refine AllReadyH.cons rfl (λK p=>?_) AllReadyH.nil;go_simp;refine HC.Z.mono ?_;rintro e w3⟨⟨c,i,z,rfl,hi,⟨Z,c6,d5,d6⟩,z5,z6,X,d1,a8,hR⟩,J⟩;have HR:=bZ hR;refine p.out _ _ J (λ_=>?_);refine wpAnyH_ready (rs:=[3]) RO R2 ?_;refine AllReadyH.cons rfl (λK p=>?_) AllReadyH.nil;go_simp;refine p.out _ _ J (λ_=>?_);refine wpAnyH_ready (rs:=[4]) RO R2 ?_;refine AllReadyH.cons rfl (λK p=>?_) AllReadyH.nil;go_simp;refine p.out _ _ J (λ_=>?_);refine wpAnyH_ready (rs:=[5]) RO R2 ?_;refine AllReadyH.cons rfl (λK p=>?_) AllReadyH.nil;have ap:z.cell? ⟨w.1.size,0,none⟩=some (.pointer (some ⟨rb,0,none⟩)):=by
  rw[X];simp[go_sem,J,Nat.ne_of_lt P]
 rcases hi with rfl|⟨t6,a6,rfl⟩
 all_goals
  go_simp;rw[<-X];refine p.out _ _ ap (λ_=>?_);clear p X d5 d6 z5 z6;refine wpAnyH_done RO ?_ _;go_wp2_with fail
  go_end0
  exact HR.Z
end
section
open Tryz
def me(a w):Calls prog 160 #[.pointer (some a)] w λe w'=>e=.returned (.pointer (some ⟨w.1.size,0,none⟩))/\dO w' w.1.size (.pointer (some a)) .nilFunc (.int .i64 0) .nilIface 400 (.int .i64 0) .nilIface/\Xb w w'/\w'.1.size=w.1.size+1:=by
 go_enter func160,ntmps160;go_wp2;go_ret;exact⟨rfl,heap_alloc_new w _,(Uz _ w).alloc (af _) _,by simp⟩
def Hv(b f l y tc ti wc wi r x w)(j:dO w b l y tc ti f wc wi)(hx:g_ w r x):Calls prog 162 #[.pointer (some ⟨b,0,none⟩),x] w λe w'=>e=.returned (.tuple #[])/\∃c i,x=.agg #[c,i]/\dO w' b l y c i f wc wi/\w.grownBy w' (some b)/\w'.1.size=w.1.size+1:=by
 obtain⟨c,i,rfl,hi⟩:=hx.form;have n:=cj j;have hA:∀o,dO (w.alloc o) b l y tc ti f wc wi:=λo=>(UE _ _ _ n).trans j;have c2:(w.alloc (.cells #[.int .i64 c,i] 113)).cell? ⟨b,2,none⟩=some tc:=by have h:=hA (.cells #[.int .i64 c,i] 113);rw[dO]at h;simp[World.cell?,h]
 have B:(w.alloc (.cells #[.int .i64 c,i] 113)).frozen? ⟨b,2,none⟩=false:=by have h:=hA (.cells #[.int .i64 c,i] 113);rw[dO]at h;simp[World.frozen?,h]
 have m:dO ((w.setCell ⟨b,2,none⟩ (.int .i64 c)).alloc (.cells #[.int .i64 c,i] 113)) b l y (.int .i64 c) ti f wc wi:=by
  have h:=j;rw[dO]at h ⊢;refine(UE _ _ _ (by simpa[World.setCell]using n)).trans ?_;simp[World.setCell,Qj,h]
 have z:((w.setCell ⟨b,2,none⟩ (.int .i64 c)).alloc (.cells #[.int .i64 c,i] 113)).cell? ⟨b,3,none⟩=some ti:=by rw[dO]at m;simp[World.cell?,m]
 have C:((w.setCell ⟨b,2,none⟩ (.int .i64 c)).alloc (.cells #[.int .i64 c,i] 113)).frozen? ⟨b,3,none⟩=false:=by rw[dO]at m;simp[World.frozen?,m]
 have p:dO (((w.setCell ⟨b,2,none⟩ (.int .i64 c)).setCell ⟨b,3,none⟩ i).alloc (.cells #[.int .i64 c,i] 113)) b l y (.int .i64 c) i f wc wi/\w.grownBy (((w.setCell ⟨b,2,none⟩ (.int .i64 c)).setCell ⟨b,3,none⟩ i).alloc (.cells #[.int .i64 c,i] 113)) (some b)/\(((w.setCell ⟨b,2,none⟩ (.int .i64 c)).setCell ⟨b,3,none⟩ i).alloc (.cells #[.int .i64 c,i] 113)).1.size=w.1.size+1:=by
  refine⟨?_,Fr.alloc (da (da (UD _ _) _ _) _ _) _,by simp[World.setCell,World.size_alloc]⟩;rw[dO]at j ⊢;refine(UE _ _ _ (by simpa[World.setCell]using n)).trans ?_;simp[World.setCell,Qj,j]
 have u:=bZ p;clear p hx j hA m;rcases hi with rfl|⟨t,a,rfl⟩
 all_goals
  go_enter func162,ntmps162;go_wp2_with fail
  go_end0
  exact⟨rfl,_,_,rfl,u.Z⟩
def rR(b f l y tc ti r wc wi w)(j:dO w b l y tc ti f wc wi)(hx:g_ w r (.agg #[wc,wi])):Calls prog 164 #[.pointer (some ⟨b,0,none⟩)] w λe w'=>e=.returned (.agg #[wc,wi])/\Xb w w'/\w'.1.size=w.1.size+1:=by
 have m:=cj j;have hA:dO (w.alloc (.cells #[.int .i64 0,.nilIface] 113)) b l y tc ti f wc wi:=(UE _ _ _ m).trans j;have n:(w.alloc (.cells #[.int .i64 0,.nilIface] 113)).cell? ⟨b,5,none⟩=some wc:=by rw[dO]at hA;simp[World.cell?,hA]
 have p:(w.alloc (.cells #[.int .i64 0,.nilIface] 113)).cell? ⟨b,6,none⟩=some wi:=by rw[dO]at hA;simp[World.cell?,hA]
 obtain⟨c,i,h,hi⟩:=hx.form;cases h;clear j hx hA;rcases hi with rfl|⟨t,a,rfl⟩
 all_goals
  go_enter func164,ntmps164;go_wp2_with fail;exact UA (v:=.agg #[.int .i64 c,_]) (by simp[results,results164,go_sem]) rfl ⟨rfl,(Uz _ w).alloc (af _) _,by simp⟩
end
section
open bY
variable{v x:Xa}{r:Except Nat V}{o:Option V}{s s':LS}{ys xs:List Xa}{a b c:QV}{ns done:List (a_×Wo)}{L L':Nat->Prop}{q hb db lb:Nat}{th:cu}{cm:List (a_×cu)}
def LT(t:TypeId):Prop:=t=108\/t=9\/t=61\/t=5\/t=124\/t=131\/t=133
def LT.rQ{t:TypeId}(h:LT t):¬Hm t:=by
 rcases h with rfl|rfl|rfl|rfl|rfl|rfl|rfl<;>(rintro((h|h|h)|h|h)<;>cases h)
def cT.st{w w':QV}(h:eH w w'){n:Nat}{v:V}(hx:cT w n v x):cT w' n v x:=h.val n v x hx
def g_.st{w w':QV}(h:eH w w')(hx:g_ w r x):g_ w' r x:=by
 rcases hx with⟨v,y,h1,h2,e⟩|hx
 ·exact .inl ⟨v,y,h1,h2,e.st h⟩
 exact .inr hx
def gI.st{w w':QV}(h:eH w w')(hx:gI w o x):gI w' o x:=by
 rcases hx with hx|⟨v,h1,h2⟩
 ·exact .inl hx
 exact .inr ⟨v,h1,h2.st h⟩
def kI.st{w w':QV}(h:eH w w'){s:Xa}(hx:kI w s ys):kI w' s ys:=by
 rcases hx with hx|⟨b,e,cs,fz,h1,h2,j,l,m⟩
 ·exact .inl hx
 exact .inr ⟨b,e,cs,fz,h1,h2,h.node _ _ _ _ j (.inr rfl),l,m⟩
def dI.st{w w':QV}(h:eH w w'):∀{n:Nat} {t:bY.T} {x:Xa},dI w n t x->dI w' n t x
 |0,_,_,hx=>hx
 |_+1,_,_,⟨b,i,s,qs,fz,h1,h2,e,l,m,p⟩ =>
  ⟨b,i,s,qs,fz,h1,h.node _ _ _ _ h2 (.inl rfl),⟨e.1.st h,e.2⟩,l.st h,m,λj u q hu y=>dI.st h (p j u q hu y)⟩
def eH.refl(w):eH w w:=⟨λ_ _ _ h=>h,λ_ _ _ _ h _=>h⟩
def eH.trans(h:eH a b)(h':eH b c):eH a c:=⟨λn v x hx=>h'.val n v x (h.val n v x hx),λk cs t fz j e=>h'.node k cs t fz (h.node k cs t fz j e) e⟩
def eH.below{w w':QV}(h:Xb w w'):eH w w':=(cK.below h).stay
def K2(L:Nat->Prop)(w w':QV):Prop:=∀k,L k->∀(cs:Array Xa) (t:TypeId) (fz:Nat×Nat),w.1[k]?=some (.cells cs t fz)->t=131\/t=133->w'.1[k]?=some (.cells cs t fz)
def cD{w w':QV}{j n size:Nat}{e:TypeId}(h:w.ownsRow j e size v n xs)(hs:∀g,v.ownBlock=some g->∀(cs) (fz),w.1[g]?=some (.cells cs e fz)->w'.1[g]?=some (.cells cs e fz)):w'.ownsRow j e size v n xs:=by
 refine⟨h.1,?_⟩;rcases h.2 with h2|⟨g,l,m,h1,h2,p,u⟩
 ·exact .inl h2
 exact .inr ⟨g,l,m,h1,h2,hs g (by rw[h1];rfl) _ _ p,u⟩
def iD(q:Xa×Xa×Xa):List Xa:=[q.1,q.2.1,q.2.2]
def ee(w:QV)(ns:List (a_×Wo))(sl:Xa):Prop :=∃qs:List (Xa×Xa×Xa),w.ownsRow 8 133 3 sl ns.length (qs.flatMap iD)/\qs.length=ns.length /\∀(i:Nat) n q,ns[i]?=some n->qs[i]?=some q->q.1=str n.1/\n.1.length<=200/\g_ w n.2 (.agg #[q.2.1,q.2.2])
def jf(w:QV)(L:Nat->Prop)(kp:fM)(q:Nat):Prop :=∃c i sl,w.1[q]?=some (.cells #[c,i,sl] 131 (0,0))/\L q/\g_ w kp.dQ (.agg #[c,i])/\ee w kp.cO sl/\(∀g,sl.ownBlock=some g->L g)/\kp.cO.length<=401
def fc(w:QV)(L:Nat->Prop)(th:cu)(q:Nat):Prop :=∃v r k,w.1[q]?=some (.cells #[v,r,str th.came,k] 124 (0,0))/\L q/\th.came.length<=200 /\((th.dc=none/\r=.pointer none/\cT w 3 th.value v/\th.kept=none)\/∃t a,th.dc=some t/\r=.pointer (some a)/\v=.nilIface/\ib (hM t) false t=true/\dI w (hM t) t (.pointer (some a))) /\((th.kept=none/\k=.pointer none)\/∃kp e,th.kept=some kp/\k=.pointer (some ⟨e,0,none⟩)/\jf w L kp e)
def ptr(p:Nat):Xa:=.pointer (some ⟨p,0,none⟩)
def ik(w:QV)(L:Nat->Prop)(hb:Nat)(cm:List (a_×cu)):Prop :=∃e:List (a_×(cu×Nat)),cm=e.map (λx=>(x.1,x.2.1))/\fJ w hb (e.map λx=>(x.1,ptr x.2.2))/\(e.map (·.2.2)).Nodup/\(∀x∈e,fc w L x.2.1 x.2.2)/\(∀x∈e,x.1.length<=8)/\L hb
def ic(w:QV)(L:Nat->Prop)(db:Nat)(done:List (a_×Wo)):Prop :=∃e:List (a_×(Wo×Xa)),done=e.map (λx=>(x.1,x.2.1))/\fJ w db (e.map λx=>(x.1,x.2.2))/\(∀x∈e,g_ w x.2.1 x.2.2)/\L db
def ei:Wo->List Xa
 |.ok v=>[.int .i64 0,str (wr 3 v)]
 |.error c=>[.int .i64 (c:Int),str []]
def dB(y:qc):List Xa:=str y.key :: str y.need :: (ei y.was++ei y.now)
def dm(w:QV)(v:Xa)(l:List (a_)):Prop:=w.ownsRow 8 9 1 v l.length (l.map str)
def cW(e:List (a_)):a_:=e.flatMap bY.line
structure LP(w:QV)(lb:Nat)(s:LS)(L:Nat->Prop)(hb db:Nat)(vb vr vn vj:Xa):Prop where
 eb:w.1[lb]?=some (.cells #[.map (some hb),.map (some db),vb,vr,vn,vj] 108 (0,0))
 here:L lb
 ne:hb≠db
 cm:ik w L hb s.cm
 done:ic w L db s.done
 b_:dm w vb s.b_
 cE:dm w vr s.cE
 du:w.ownsRow 8 61 6 vn s.du.length (s.du.flatMap dB)
 jr:w.ownsRow 8 5 1 vj (cW s.jr).length (Lib.strCells ⟨(cW s.jr).toArray⟩)
 dK:∀g,vb.ownBlock=some g\/vr.ownBlock=some g\/vn.ownBlock=some g\/vj.ownBlock=some g->L g
 apart:∀g,vb.ownBlock=some g->vr.ownBlock≠some g
 oq:s.cE=[]->vr=.slice none 0 0
 ct:∀k,L k->8<=k/\((∃es c,w.1[k]?=some (.map es c))\/∃cs t fz,w.1[k]?=some (.cells cs t fz)/\LT t)
def fD(w:QV)(lb:Nat)(s:LS)(L:Nat->Prop):Prop:=∃hb db e l vn j,LP w lb s L hb db e l vn j
/-! What stays. -/
def ee.st{w w':QV}{sl:Xa}(h:ee w ns sl)(hs:∀g,sl.ownBlock=some g->∀(cs) (fz),w.1[g]?=some (.cells cs 133 fz)->w'.1[g]?=some (.cells cs 133 fz))(m:eH w w'):ee w' ns sl:=by
 obtain⟨qs,h1,h2,e⟩:=h;exact⟨qs,cD h1 hs,h2,λi n q j l=>⟨(e i n q j l).1,(e i n q j l).2.1,(e i n q j l).2.2.st m⟩⟩
def jf.st{w w':QV}{kp:fM}(h:jf w L kp q)(j:K2 L w w')(l:eH w w'):jf w' L kp q:=by
 obtain⟨c,i,sl,h1,h2,m,n,e,p⟩:=h;exact⟨c,i,sl,j q h2 _ _ _ h1 (.inl rfl),h2,m.st l,n.st (λg u cs fz hb=>j g (e g u) _ _ _ hb (.inr rfl)) l,e,p⟩
def jf.mono{w:QV}{kp:fM}(h:jf w L kp q)(e:∀k,L k->L' k):jf w L' kp q:=by
 obtain⟨c,i,sl,h1,h2,j,l,m,n⟩:=h;exact⟨c,i,sl,h1,e _ h2,j,l,λg p=>e g (m g p),n⟩
def fc.st{w w':QV}(h:fc w L th q)(hb:w'.1[q]?=w.1[q]?)(p:K2 L w w')(l:eH w w'):fc w' L th q:=by
 obtain⟨v,r,k,h1,h2,m,n,j⟩:=h;refine⟨v,r,k,hb.trans h1,h2,m,?_,?_⟩
 ·rcases n with⟨a,b,c,d⟩|⟨t,a,b,c,d,e,f⟩
  ·exact .inl ⟨a,b,c.st l,d⟩
  exact .inr ⟨t,a,b,c,d,e,f.st l⟩
 rcases j with j|⟨kp,u,a,b,c⟩
 ·exact .inl j
 exact .inr ⟨kp,u,a,b,c.st p l⟩
def fc.mono{w:QV}(h:fc w L th q)(j:∀k,L k->L' k):fc w L' th q:=by
 obtain⟨v,r,k,h1,h2,l,m,e⟩:=h;refine⟨v,r,k,h1,j _ h2,l,m,?_⟩;rcases e with e|⟨kp,n,a,b,c⟩
 ·exact .inl e
 exact .inr ⟨kp,n,a,b,c.mono j⟩
def fc.block{w:QV}(h:fc w L th q):L q/\∃cs,w.1[q]?=some (.cells cs 124 (0,0)):=by
 obtain⟨v,r,k,h1,h2,_⟩:=h;exact⟨h2,_,h1⟩
def ik.st{w w':QV}(h:ik w L hb cm)(p:w'.1[hb]?=w.1[hb]?)(z:∀k,L k->∀(cs) (fz),w.1[k]?=some (.cells cs 124 fz)->w'.1[k]?=some (.cells cs 124 fz))(n:K2 L w w')(y:eH w w'):ik w' L hb cm:=by
 obtain⟨u,h1,h2,j,e,l,m⟩:=h;refine⟨u,h1,h2.same p,j,λx hx=>?_,l,m⟩;obtain⟨hl,cs,hc⟩:=(e x hx).block;exact(e x hx).st ((z _ hl _ _ hc).trans hc.symm) n y
def ik.mono{w:QV}(h:ik w L hb cm)(e:∀k,L k->L' k):ik w L' hb cm:=by
 obtain⟨p,h1,h2,j,l,m,n⟩:=h;exact⟨p,h1,h2,j,λx hx=>(l x hx).mono e,m,e _ n⟩
def ic.st{w w':QV}(h:ic w L db done)(m:w'.1[db]?=w.1[db]?)(n:eH w w'):ic w' L db done:=by
 obtain⟨e,h1,h2,j,l⟩:=h;exact⟨e,h1,h2.same m,λx hx=>(j x hx).st n,l⟩
def ic.mono{w:QV}(h:ic w L db done)(m:∀k,L k->L' k):ic w L' db done:=by
 obtain⟨e,h1,h2,j,l⟩:=h;exact⟨e,h1,h2,j,m _ l⟩
def LP.st{w w':QV}{m p vn n:Xa}(h:LP w lb s L hb db m p vn n)(hs:∀k,L k->w'.1[k]?=w.1[k]?)(l:eH w w'):LP w' lb s L hb db m p vn n where
 eb:=(hs lb h.here).trans h.eb
 here:=h.here
 ne:=h.ne
 cm:=by
  have hl:L hb:=by obtain⟨_,_,_,_,_,_,y⟩:=h.cm;exact y
  exact h.cm.st (hs hb hl) (λk j cs fz hc=>(hs k j).trans hc) (λk j cs t fz hc _=>(hs k j).trans hc) l
 done:=by
  have hl:L db:=by obtain⟨_,_,_,_,u⟩:=h.done;exact u
  exact h.done.st (hs db hl) l
 b_:=cD h.b_ (λg e cs fz hc=>(hs g (h.dK g (.inl e))).trans hc)
 cE:=cD h.cE (λg e cs fz hc=>(hs g (h.dK g (.inr (.inl e)))).trans hc)
 du:=cD h.du (λg e cs fz hc=>(hs g (h.dK g (.inr (.inr (.inl e))))).trans hc)
 jr:=cD h.jr (λg e cs fz hc=>(hs g (h.dK g (.inr (.inr (.inr e))))).trans hc)
 dK:=h.dK
 apart:=h.apart
 oq:=h.oq
 ct k j:=by rw[hs k j];exact h.ct k j
def fD.st{w w':QV}(h:fD w lb s L)(hs:∀k,L k->w'.1[k]?=w.1[k]?)(e:eH w w'):fD w' lb s L:=by
 obtain⟨hb,db,j,m,vn,l,h⟩:=h;exact⟨hb,db,j,m,vn,l,h.st hs e⟩
def LP.lt{w:QV}{j m vn l:Xa}(h:LP w lb s L hb db j m vn l){k:Nat}(e:L k):k<w.1.size:=by
 rcases(h.ct k e).2 with⟨es,c,h⟩|⟨cs,t,fz,h,_⟩
 ·exact(Qe.1 h).1
 exact cj h
structure ed(L:Nat->Prop)(w w':QV):Prop where
 os:w'.os=w.os
 tape:w'.tape=w.tape
 output:w'.output=w.output
 size:w.1.size<=w'.1.size
 block:∀k,k<w.1.size->¬L k->w'.1[k]?=w.1[k]?
def ed.refl(L w):ed L w w:=⟨rfl,rfl,rfl,af _,λ_ _ _=>rfl⟩
def ed.below{w w':QV}(h:Xb w w'):ed L w w':=⟨h.os,h.tape,h.output,h.size,λk e _=>h.block k e⟩
def ed.grown{w w':QV}{b:Nat}(h:w.grownBy w' (some b))(hb:L b):ed L w w':=⟨h.os,h.tape,h.output,h.size,λk j l=>h.block k j (λe=>by cases e;exact l hb)⟩
def ed.trans(h:ed L a b)(h':ed L' b c)(m:∀k,L' k->L k\/a.1.size<=k):ed L a c :=⟨h'.os.trans h.os,h'.tape.trans h.tape,h'.output.trans h.output,ah h.size h'.size,λk j l=>(h'.block k (aA j h.size) (λe=>by rcases m k e with h|h;exact l h;omega)).trans (h.block k j l)⟩
structure uE(lb:Nat)(L:Nat->Prop)(w w':QV):Prop extends ed L w w' where
 k2:K2 L w w'
 Cr:∀hb,hb<w.1.size->w.cell? ⟨lb,0,none⟩=some (.map (some hb))->w'.cell? ⟨lb,0,none⟩=some (.map (some hb))/\w'.1[hb]?=w.1[hb]?
def uE.refl(lb L w):uE lb L w w:=⟨ed.refl _ _,λ_ _ _ _ _ h _=>h,λ_ _ h=>⟨h,rfl⟩⟩
def uE.below{w w':QV}(h:Xb w w'):uE lb L w w' :=⟨ed.below h,λk _ cs t fz e _=>(h.block k (cj e)).trans e,λhb j hc=>⟨by
  have hl:lb<w.1.size:=by
   refine Rg λl=>?_;have:w.1[lb]?=none:=Rh.2 RM;simp[World.cell?,this]at hc
  rw[<-hc];exact UF (h.block lb hl),h.block hb j⟩⟩
def uE.trans(h:uE lb L a b)(h':uE lb L' b c)(p:∀k,L' k->L k\/a.1.size<=k)(u:∀k,L k->L' k):uE lb L a c :=⟨h.toed.trans h'.toed p,λk e cs t fz hc l=>h'.k2 k (u k e) cs t fz (h.k2 k e cs t fz hc l) l,λhb j hc=>by
  obtain⟨h1,h2⟩:=h.Cr hb j hc;obtain⟨m,n⟩:=h'.Cr hb (aA j h.size) h1;exact⟨m,n.trans h2⟩⟩
def ez(w:QV)(lb:Nat)(L:Nat->Prop)(s:LS)(w':QV):Prop :=∃L',fD w' lb s L'/\(∀k,L' k->L k\/w.1.size<=k)/\(∀k,L k->L' k)/\ed L w w'
def cH(w:QV)(lb:Nat)(L:Nat->Prop)(s:LS)(w':QV):Prop :=∃L',fD w' lb s L'/\(∀k,L' k->L k\/w.1.size<=k)/\(∀k,L k->L' k)/\uE lb L w w'
def cH.O4{w w':QV}(h:cH w lb L s w'):ez w lb L s w':=by
 obtain⟨L',h1,h2,e,j⟩:=h;exact⟨L',h1,h2,e,j.toed⟩
def LP.Hw{w w':QV}{e:Nat}{m z vn p n B y u:Xa}(h:LP w lb s L hb db m z vn p)(h':LP w' lb s' L' hb e n B y u)(hf:ed L w w')(j:K2 L w w')(l:w'.1[hb]?=w.1[hb]?):uE lb L w w' :=⟨hf,j,λC _ hc=>by
  have h1:w.cell? ⟨lb,0,none⟩=some (.map (some hb)):=by simp[World.cell?,h.eb]
  have h2:w'.cell? ⟨lb,0,none⟩=some (.map (some hb)):=by simp[World.cell?,h'.eb]
  rw[h1]at hc;cases hc;exact⟨h2,l⟩⟩
def xn{w w':QV}(h:fD w lb s L)(hf:ed L w w'):cK w w':=by
 obtain⟨hb,db,m,p,vn,n,h⟩:=h;intro k cs t fz e j;by_cases hl:L k
 ·rcases(h.ct k hl).2 with⟨es,c,h1⟩|⟨cs',t',l,h1,h2⟩
  ·rw[e]at h1;cases h1
  rw[e]at h1;cases h1;exact(h2.rQ (.inl j)).elim
 exact(hf.block k (cj e) hl).trans e
def DN{w w':QV}(h:fD w lb s L)(hf:ed L w w')(g:G w):G w':=by
 obtain⟨hb,db,l,n,vn,m,h⟩:=h;have e:Below 8 w w':=⟨hf.os,hf.tape,hf.output,hf.size,λk j=>hf.block k (aA j g.size) (λhl=>by have:=(h.ct k hl).1;omega)⟩;exact g.below e (af _)
def cH.refl{w:QV}(h:fD w lb s L):cH w lb L s w:=⟨L,h,λ_ h=>.inl h,λ_ h=>h,uE.refl _ _ _⟩
def cH.trans(h:cH a lb L s b)(h':∀L',fD b lb s L'->cH b lb L' s' c):cH a lb L s' c:=by
 obtain⟨m,h1,h2,j,l⟩:=h;obtain⟨n,p,u,y,z⟩:=h' m h1;refine⟨n,p,λk e=>?_,λk e=>y k (j k e),l.trans z h2 j⟩;rcases u k e with h|h
 ·exact h2 k h
 have:=l.size;exact .inr RM
def cH.below{w w':QV}(h:fD w lb s L)(e:Xb w w'):cH w lb L s w':=by
 refine⟨L,h.st (λk j=>?_) (eH.below e),λ_ h=>.inl h,λ_ h=>h,uE.below e⟩;obtain⟨hb,db,l,n,vn,m,h⟩:=h;exact e.block k (h.lt j)
end
