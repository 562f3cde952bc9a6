/- Out of Ba. -/
import Derived.Test.YtpekpdimdelncaaGreatDoorP35
import Derived.Test.YtpekpdimdelncaaGreatDoorP36
set_option linter.unusedVariables false
set_option linter.unusedSimpArgs false
set_option maxRecDepth 100000
set_option maxHeartbeats 4000000
set_option linter.defProp false
namespace Go.Proofs.YtpekpdimdelncaaGreatDoor
open Go.RowKit Go.Shelf
section
open bY
namespace Ref
section
variable {w w':QV} {j:Nat} {s:LS} {rn:List (a_)} {L L' M:Nat->Prop} {es:List En} {b:List (a_×Wo)} {l u m z y:Xa}
def fW.grow(h:fW w j s rn L es b l u m z y)(e:∀k,L k->L' k)(p:Typed w L'):fW w j s rn L' es b l u m z y :=h.turn rfl (KN.refl w) (λ_ _ _ _=>rfl) (λ_ _=>rfl) h.eb e h.fresh h.fr h.b_ h.cE h.runs (λg n=>e g (h.dK g (.inr n))) h.apart h.eV p
def Typed.ot(h:Typed w M)(hf:ed L w w')(hl:Typed w' L):Typed w' M:=λk p=>by
 by_cases e:L k
 ·exact hl k e
 obtain⟨n,cs,t,fz,hb,r⟩:=h k p;exact⟨n,cs,t,fz,(hf.block k (cj hb) e).trans hb,r⟩
def vU{wc B D F C:QV}{p E:Nat->Prop}{i:Nat}{e:En}{r:Wo}(P:(∀k,p k->L k\/w.1.size<=k)/\(∀k,L k->p k)/\ed L w wc)(O:ed p wc B)(K:Xb B D)
  (hM:(∀k,M k->(p k\/k=B.1.size)\/D.1.size<=k)/\(∀k,(p k\/k=B.1.size)->M k)/\ed (λk=>p k\/k=B.1.size) D F) (N:Xb F C) (hT:Typed C M)
  (h:fW w' j s rn E es b l u m z y) (G:∀k,E k->M k) (hF:ed E C w') (Q:es[i]?=some e) (R:e.w=r):eX (Me j s rn i r) w L w':=by
 obtain⟨p1,V,X⟩:=P;obtain⟨S,T,U⟩:=hM;have f1:ed L w B:=X.trans O p1;have Y:=f1.size;have f2:ed L w D:=f1.trans (ed.below K) (λk n=>.inl n);have Z:=f2.size;have I:∀k,(p k\/k=B.1.size)->L k\/w.1.size<=k:=λk n=>by
  rcases n with n|n
  ·exact p1 k n
  exact .inr RM
 have f3:ed L w F:=f2.trans U I;have f4:ed L w C:=f3.trans (ed.below N) (λk n=>.inl n);have J:∀k,M k->L k\/w.1.size<=k:=λk n=>by
  rcases S k n with n|n
  ·exact I k n
  exact .inr RM
 refine⟨M,⟨es,b,l,u,m,z,y,h.grow G (hT.ot hF h.ct),e,Q,R⟩,J,λk n=>T k (.inl (V k n)),f4.trans hF (λk n=>J k (G k n))⟩
end
def Mf{n:Nat}{s:LS}{p:Pe V}{ns:List (a_×Wo)}{k:a_}(e:k∈s.b_):cS (p.run (d_ (cC n)) (s,ns)).2.1.cm k=cS s.cm k :=(JH (pd n) p s ns).2 k e trivial
def JI{e:a_}{q:Wo×(LS×List (a_×Wo))}(h1:gC q.1=true)(h2:(cS q.2.1.cm e).isSome=true):gT e q=(q.1,q.2.1.qK e):=by unfold gT;rw[ag h1,ag h2]
def JJ{e:a_}{q:Wo×(LS×List (a_×Wo))}(h1:gC q.1=true)(h2:cS q.2.1.cm e=none):gT e q=(q.1,q.2.1):=by unfold gT;rw[ag h1,ae (by rw[h2];simp)]
def JK{e:a_}{q:Wo×(LS×List (a_×Wo))}(h1:gC q.1=false):gT e q=(q.1,q.2.1.keep e ⟨q.1,q.2.2⟩):=by unfold gT;rw[ae (by rw[h1];simp)]
def Ej{h:List (a_×cu)}{i:Nat}{p:a_×cu}(hd:(h.map (·.1)).Nodup)(e:h[i]?=some p):cS h p.1=p.2.kept:=by
 obtain⟨k,th⟩:=p;unfold cS;rw[kS hd e];rfl
def KeptAt.is{w:QV}{L:Nat->Prop}{o:Option fM}{e:En}(h:KeptAt w L o e):e.kept=o.isSome:=by
 rcases h with⟨rfl,h,_⟩|⟨kp,rfl,h,_⟩<;>exact h
end Ref
end
section
open bY
namespace Ref
section
variable {w:QV} {p:Nat} {s s':LS} {rn:List (a_)} {L:Nat->Prop} {es:List En} {y fl':List (a_×Wo)} {C z D B E vF' vB' vR' vN':Xa}
def fW.Ek(h:fW w p s rn L es y C z D B E){t:TypeId}{m n:Nat}{u:Xa}{xs:List Xa}(j:w.ownsRow 8 t m u n xs)(l:t≠101):∀b,u.ownBlock=some b->b≠p:=λb hb=>by
 obtain⟨cs,fz,e⟩:=cz j hb;exact fT e h.eb l
def kl{t t':TypeId}{m m' n n':Nat}{u u':Xa}{xs xs':List Xa}(r:w.ownsRow 8 t m u n xs)(F:w.ownsRow 8 t' m' u' n' xs')(G:t≠t'):∀b,u.ownBlock=some b->u'.ownBlock≠some b:=λb hb e=>by
 obtain⟨cs,fz,j⟩:=cz r hb;obtain⟨cs',I,l⟩:=cz F e;exact fT j l G rfl
def fW.pushed(h:fW w p s rn L es y C z D B E){j g:Nat}{vO vX:Xa}{w1 w2:QV}{ty:TypeId}(aa:s'.cm=s.cm)(r:Xb w w1)(I:w1.grownBy w2 vO.ownBlock)
  (F:∀b,vO.ownBlock=some b->L b/\b≠p/\C.ownBlock≠some b/\∀e∈es,e.np.ownBlock≠some b) (hX:vX.ownBlock=some g) (R:vO.ownBlock=some g\/g=w1.1.size) (hty:L8 ty) (hold:∀b,vO.ownBlock=some b->∃cs fz,w2.1[b]?=some (.cells cs ty fz)) (ad:∃cs fz,w2.1[g]?=some (.cells cs ty fz))
  (hcs:(#[C,str (cW s.jr),z,D,B,E]:Array Xa).setIfInBounds j vX=#[C,str (cW s'.jr),vF',vB',vR',vN']) (hj:j<6)
  (am:∀W,(∀{t:TypeId} {m n:Nat} {u:Xa} {xs:List Xa},w.ownsRow 8 t m u n xs->t≠101->(∀b,u.ownBlock=some b->vO.ownBlock≠some b)->W.ownsRow 8 t m u n xs)->(∀{t:TypeId} {m n:Nat} {u:Xa} {xs:List Xa},w2.ownsRow 8 t m u n xs->u.ownBlock=some g->W.ownsRow 8 t m u n xs)->W.ownsRow 8 204 3 vF' fl'.length (fl'.flatMap eA)/\dm W vB' s'.b_/\dm W vR' s'.cE/\W.ownsRow 8 199 6 vN' s'.du.length (s'.du.flatMap dB))
  (fr:qi s' fl') (dK:∀k,vF'.ownBlock=some k\/vB'.ownBlock=some k\/vR'.ownBlock=some k\/vN'.ownBlock=some k->L k\/k=g) (apart:∀k,vB'.ownBlock=some k->vR'.ownBlock≠some k) (eV:∀e∈es,∀k,e.np.ownBlock=some k->vF'.ownBlock≠some k) :
  fW (w2.setCell ⟨p,j,none⟩ vX) p s' rn (λk=>L k\/k=g) es fl' C vF' vB' vR' vN'/\(∀k,(L k\/k=g)->L k\/w.1.size<=k)/\ed L w (w2.setCell ⟨p,j,none⟩ vX)/\(∃v,w2.cell? ⟨p,j,none⟩=some v)/\w2.frozen? ⟨p,j,none⟩=false/\p<w2.1.size:=by
 have X:=cj h.eb;have K:∀k,k<w.1.size->vO.ownBlock≠some k->w2.1[k]?=w.1[k]? := λk l G=>(I.block k (aA l r.size) (λe=>G e.symm)).trans (r.block k l);have P:=(K _ X (λe=>(F p e).2.1 rfl)).trans h.eb;have Y:=ah r.size I.size;have N:∀k,k≠p->(w2.setCell ⟨p,j,none⟩ vX).1[k]?=w2.1[k]? := λk l=>UI w2 ⟨p,j,none⟩ k _ l;have Z:g≠p:=λe=>by
  rcases R with h|h
  ·exact(F g h).2.1 e
  have:=r.size;omega
 have J:∀k,k<w.1.size->vO.ownBlock≠some k->k≠p->(w2.setCell ⟨p,j,none⟩ vX).1[k]?=w.1[k]? := λk l G S=>(N k S).trans (K k l G);have ai:∀{t:TypeId} {m n:Nat} {u:Xa} {xs:List Xa},w.ownsRow 8 t m u n xs->t≠101->(∀b,u.ownBlock=some b->vO.ownBlock≠some b)->(w2.setCell ⟨p,j,none⟩ vX).ownsRow 8 t m u n xs:=λM O G=>cD M (λk l cs fz hb=>(J k (cj hb) (G k l) (h.Ek M O k l)).trans hb);have ak:∀{t:TypeId} {m n:Nat} {u:Xa} {xs:List Xa},w2.ownsRow 8 t m u n xs->u.ownBlock=some g->(w2.setCell ⟨p,j,none⟩ vX).ownsRow 8 t m u n xs:=λM hu=>cD M (λk l cs fz hb=>by
  obtain rfl:g=k:=aB (hu.symm.trans l);exact(N g Z).trans hb)
 have ab:KN w _:=λk cs t fz l O=>by
  refine(J k (cj l) (λe=>?_) (fT l h.eb (λe=>by rcases O with rfl|rfl<;>cases e))).trans l;obtain⟨_,cs',t',ao,hb,S⟩:=h.ct k (F k e).1;rw[l]at hb;cases hb;exact S.no O
 obtain⟨r1,r2,r3,r4⟩:=am _ ai ak;have Q:=heap_setCell_same w2 p j _ _ vX P;rw[hcs]at Q;refine⟨h.turn (L':=λk=>L k\/k=g) aa ab (λe T k l=>?_) (λk l=>?_) Q (λk l=>.inl l) r1 fr r2 r3 r4 dK apart eV (λk l=>?_),λk l=>?_,⟨I.os.trans r.os,I.tape.trans r.tape,I.output.trans r.output,by simp;exact Y,λk l G=>?_⟩,?_,by simp[World.frozen?,P],aA X Y⟩
 ·obtain⟨cs,fz,hb⟩:=h.Bf e T k l;exact J k (cj hb) (λe'=>(F k e').2.2.2 e T l) (fT hb h.eb RZ)
 ·obtain⟨cs,fz,hb⟩:=cz h.all l;exact J k (cj hb) (λe'=>(F k e').2.2.1 l) (fT hb h.eb RZ)
 ·by_cases V:k=p
  ·subst V;exact⟨(h.ct k h.here).1,_,_,_,Q,.inl rfl⟩
  rw[N k V];by_cases U:k=g
  ·subst U;obtain⟨cs,fz,hb⟩:=ad;refine⟨?_,cs,_,fz,hb,hty⟩;rcases R with h1|h1
   ·exact(h.ct k (F k h1).1).1
   have h8:=(h.ct _ h.here).1;have:=r.size;omega
  rcases l with l|l
  ·by_cases hv:vO.ownBlock=some k
   ·obtain⟨cs,fz,hb⟩:=hold k hv;exact⟨(h.ct k l).1,cs,_,fz,hb,hty⟩
   rw[K k (h.ct.lt l) hv];exact h.ct k l
  exact(U l).elim
 ·rcases l with l|rfl
  ·exact .inl l
  rcases R with h1|h1
  ·exact .inl (F k h1).1
  rw[h1];exact .inr r.size
 ·exact(N k (λe=>G (e▸h.here))).trans (K k l (λe=>G (F k e).1))
 have:j<(#[C,str (cW s.jr),z,D,B,E]:Array Xa).size:=hj;exact⟨(#[C,str _,z,D,B,E]:Array Xa)[j],by simp[World.cell?,P]⟩
def fW.Mg(h:fW w p s rn L es y C z D B E)(m:a_){w1 w2:QV}{g l:Nat}(n:Xb w w1)(u:w2.ownsRow 8 9 1 (.slice (some ⟨g,0,none⟩) (s.b_.length+1) l) (s.b_.length+1) (s.b_.map str++[str m]))(I:w1.grownBy w2 D.ownBlock)(r:D.ownBlock=some g\/g=w1.1.size)
  (hold:∀b,D.ownBlock=some b->∃cs fz,w2.1[b]?=some (.cells cs 9 fz)) :
  fW (w2.setCell ⟨p,3,none⟩ (.slice (some ⟨g,0,none⟩) (s.b_.length+1) l)) p { s with b_:=s.b_++[m] } rn (λk=>L k\/k=g) es y C z (.slice (some ⟨g,0,none⟩) (s.b_.length+1) l) B E/\(∀k,(L k\/k=g)->L k\/w.1.size<=k)/\ed L w (w2.setCell ⟨p,3,none⟩ (.slice (some ⟨g,0,none⟩) (s.b_.length+1) l))/\(∃v,w2.cell? ⟨p,3,none⟩=some v)/\w2.frozen? ⟨p,3,none⟩=false/\p<w2.1.size:=by
 refine h.pushed (s':={ s with b_:=s.b_++[m] }) (vO:=D) (g:=g) rfl n I (λb hb=>⟨h.dK b (.inr (.inr (.inl hb))),h.Ek h.b_ RZ b hb,kl h.b_ h.all RZ b hb,λe G=>λK=>?_⟩) rfl r (.inr (.inr (.inr (.inr (.inl rfl))))) hold (cz u rfl) rfl RZ (λW k1 k2=>⟨k1 h.fresh RZ (kl h.fresh h.b_ RZ),?_,k1 h.cE RZ (λb hb F=>h.apart b F hb),k1 h.runs RZ (kl h.runs h.b_ RZ)⟩) ⟨h.fr.dE,h.fr.len,h.fr.base⟩ (λk j=>?_) (λk j=>?_) h.eV
 ·obtain⟨cs,fz,j⟩:=cz h.b_ hb;obtain⟨cs',N,J⟩:=h.Bf e G b K;exact fT j J RZ rfl
 ·show W.ownsRow 8 _ 1 _ (s.b_++[m]).length _;rw[aj,aV];exact k2 u rfl
 ·rcases j with j|j|j|j
  ·exact .inl (h.dK k (.inr (.inl j)))
  ·cases j;exact .inr rfl
  ·exact .inl (h.dK k (.inr (.inr (.inr (.inl j)))))
  exact .inl (h.dK k (.inr (.inr (.inr (.inr j)))))
 cases j;rcases r with h1|h1
 ·exact h.apart g h1
 intro M;have:=h.ct.lt (h.dK g (.inr (.inr (.inr (.inl M)))));have:=n.size;omega
def fW.CI(h:fW w p s rn L es y C z D B E)(l:List (a_)){w1 w2:QV}{n g cP:Nat}(r:n=l.length)(u:Xb w w1)(G:w2.ownsRow 8 9 1 (.slice (some ⟨g,0,none⟩) n cP) n (l.map str))(J:w1.grownBy w2 B.ownBlock)(F:B.ownBlock=some g\/g=w1.1.size)
  (hold:∀b,B.ownBlock=some b->∃cs fz,w2.1[b]?=some (.cells cs 9 fz)) :
  fW (w2.setCell ⟨p,4,none⟩ (.slice (some ⟨g,0,none⟩) n cP)) p { s with cE:=l } rn (λk=>L k\/k=g) es y C z D (.slice (some ⟨g,0,none⟩) n cP) E/\(∀k,(L k\/k=g)->L k\/w.1.size<=k)/\ed L w (w2.setCell ⟨p,4,none⟩ (.slice (some ⟨g,0,none⟩) n cP))/\(∃v,w2.cell? ⟨p,4,none⟩=some v)/\w2.frozen? ⟨p,4,none⟩=false/\p<w2.1.size:=by
 subst r;refine h.pushed (s':={ s with cE:=l }) (vO:=B) (g:=g) rfl u J (λb hb=>⟨h.dK b (.inr (.inr (.inr (.inl hb)))),h.Ek h.cE RZ b hb,kl h.cE h.all RZ b hb,λe I=>λr=>?_⟩) rfl F (.inr (.inr (.inr (.inr (.inl rfl))))) hold (cz G rfl) rfl RZ (λW k1 k2=>⟨k1 h.fresh RZ (kl h.fresh h.cE RZ),k1 h.b_ RZ h.apart,k2 G rfl,k1 h.runs RZ (kl h.runs h.cE RZ)⟩) ⟨h.fr.dE,h.fr.len,h.fr.base⟩ (λk j=>?_) (λk j m=>?_) h.eV
 ·obtain⟨cs,fz,j⟩:=cz h.cE hb;obtain⟨cs',K,m⟩:=h.Bf e I b r;exact fT j m RZ rfl
 ·rcases j with j|j|j|j
  ·exact .inl (h.dK k (.inr (.inl j)))
  ·exact .inl (h.dK k (.inr (.inr (.inl j))))
  ·cases j;exact .inr rfl
  exact .inl (h.dK k (.inr (.inr (.inr (.inr j)))))
 cases m;rcases F with h1|h1
 ·exact h.apart g j h1
 have:=h.ct.lt (h.dK g (.inr (.inr (.inl j))));have:=u.size;omega
def NT{α:Type}(l:List (a_×α))(k:a_)(a:α):l.length<=(bY.put l k a).length:=by
 unfold bY.put;split
 ·simp
 simp
def JM{α:Type}(l:List (a_×α))(k:a_)(a:α)(h:bY.cr l k=none):(bY.put l k a).length=l.length+1:=by
 unfold bY.put;rw[ae SX];simp
def qi.push(h:qi s y){b:a_}{r:Wo}(n:b∈bY.dE s.cm)(l:bY.cr s.done b=none):qi { s with done:=bY.put s.done b r } (y++[(b,r)]) where
 dE k j:=by
  show bY.cr _ k=bY.cr _ k;rw[ep,sE,h.dE k j,dV,bY.look_nil];by_cases e:b=k
  ·subst e;rw[l];simp
  simp[e]
 len:=by
  show(y++[(b,r)]).length<=(bY.put s.done b r).length;rw[JM _ _ _ l,aj];have:=h.len;simpa using this
 base k w j m:=by
  have j:=j;rw[ep,ae (λe:b=k=>m (by rw[<-e];exact n))]at j;exact h.base k w j m
def qi.not(h:qi s y){j:a_}{r:Wo}(m:j∉bY.dE s.cm)(hv:r=match bY.cr s.cm j with|none=>.error 7|some th=>.ok th.value):qi { s with done:=bY.put s.done j r } y where
 dE k b:=by
  show bY.cr y k=bY.cr _ k;rw[ep,ae (λe=>m (by rw[e];exact b))];exact h.dE k b
 len:=ah h.len (NT _ _ _)
 base k w b l:=by
  have b:=b;rw[ep]at b;by_cases e:j=k
  ·rw[ag e]at b;cases b;subst e;exact hv
  rw[ae e]at b;exact h.base k w b l
def fW.Mh(h:fW w p s rn L es y C z D B E){b:a_}{r:Wo}(j:b∉bY.dE s.cm)(hv:r=match bY.cr s.cm b with|none=>.error 7|some th=>.ok th.value):fW w p { s with done:=bY.put s.done b r } rn L es y C z D B E :=h.turn (s':={ s with done:=bY.put s.done b r }) rfl (KN.refl w) (λ_ _ _ _=>rfl) (λ_ _=>rfl) h.eb (λ_ h=>h) h.fresh (h.fr.not j hv) h.b_ h.cE h.runs (λg e=>h.dK g (.inr e)) h.apart h.eV h.ct
def fW.F7(h:fW w p s rn L es y C z D B E){kY:a_}{r:Wo}(K:kY∈bY.dE s.cm)(hd:bY.cr s.done kY=none){w1 w2:QV}{g cP:Nat}(m:Xb w w1)(u:w2.ownsRow 8 204 3 (.slice (some ⟨g,0,none⟩) (y.length+1) cP) (y.length+1) (y.flatMap eA++eA (kY,r)))(F:w1.grownBy w2 z.ownBlock)(n:z.ownBlock=some g\/g=w1.1.size)
  (hold:∀b,z.ownBlock=some b->∃cs fz,w2.1[b]?=some (.cells cs 204 fz)) :
  fW (w2.setCell ⟨p,2,none⟩ (.slice (some ⟨g,0,none⟩) (y.length+1) cP)) p { s with done:=bY.put s.done kY r } rn (λk=>L k\/k=g) es (y++[(kY,r)]) C (.slice (some ⟨g,0,none⟩) (y.length+1) cP) D B E/\(∀k,(L k\/k=g)->L k\/w.1.size<=k)/\ed L w (w2.setCell ⟨p,2,none⟩ (.slice (some ⟨g,0,none⟩) (y.length+1) cP))/\(∃v,w2.cell? ⟨p,2,none⟩=some v)/\w2.frozen? ⟨p,2,none⟩=false/\p<w2.1.size:=by
 have J:∀e∈es,∀k,e.np.ownBlock=some k->k<w.1.size:=λe l k j=>by
  obtain⟨cs,fz,hb⟩:=h.Bf e l k j;exact cj hb
 refine h.pushed (s':={ s with done:=bY.put s.done kY r }) (fl':=y++[(kY,r)]) (vO:=z) (g:=g) rfl m F (λb hb=>⟨h.dK b (.inr (.inl hb)),h.Ek h.fresh RZ b hb,kl h.fresh h.all RZ b hb,λe l I=>h.eV e l b I hb⟩) rfl n (.inr (.inr (.inl rfl))) hold (cz u rfl) rfl RZ (λW k1 k2=>⟨?_,k1 h.b_ RZ (kl h.b_ h.fresh RZ),k1 h.cE RZ (kl h.cE h.fresh RZ),k1 h.runs RZ (kl h.runs h.fresh RZ)⟩) (h.fr.push K hd) (λk j=>?_) h.apart (λe l k j G=>?_)
 ·rw[aj,Qf];have:[(kY,r)].flatMap eA=eA (kY,r):=R2;rw[this];exact k2 u rfl
 ·rcases j with j|j|j|j
  ·cases j;exact .inr rfl
  ·exact .inl (h.dK k (.inr (.inr (.inl j))))
  ·exact .inl (h.dK k (.inr (.inr (.inr (.inl j)))))
  exact .inl (h.dK k (.inr (.inr (.inr (.inr j)))))
 cases G;rcases n with h1|h1
 ·exact h.eV e l g j h1
 have:=J e l g j;have:=m.size;omega
def fW.NU(h:fW w p s rn L es y C z D B E){b0:List (a_)}{M:a_}(hb:s.b_=b0++[M]):∃l b,D=.slice (some ⟨l,0,none⟩) (b0.length+1) b/\b0.length+1<=b/\fW (w.setCell ⟨p,3,none⟩ (.slice (some ⟨l,0,none⟩) b0.length b)) p { s with b_:=b0 } rn L es y C z (.slice (some ⟨l,0,none⟩) b0.length b) B E/\ed L w (w.setCell ⟨p,3,none⟩ (.slice (some ⟨l,0,none⟩) b0.length b)):=by
 have r:=h.b_;unfold dm at r;rw[hb]at r;rcases r.2 with⟨_,F⟩|⟨l,b,u,e1,h2,G,m,I,J,n⟩
 ·simp at F
 rw[aj]at e1 m n;simp only[aM,P6,aI]at e1 m n;subst e1;have K:dm w (.slice (some ⟨l,0,none⟩) b0.length b) b0:=by
  refine⟨by simp,.inr ⟨l,b,u,rfl,h2,G,by omega,I,J,?_⟩⟩;have:=congrArg (List.take b0.length) n;rw[Ru,aV]at this;rw[Qd];rw[Qd,RH RM]at this;rw[this];have e:b0.length=(b0.map str).length:=R2;rw[e,QT]
 obtain⟨N,O⟩:=h.cellOf (s':={ s with b_:=b0 }) 3 _ (fl':=y) (vF':=z) (vR':=B) (vN':=E) rfl rfl h.fresh ⟨h.fr.dE,h.fr.len,h.fr.base⟩ K h.cE h.runs (λg j=>by
  rcases j with j|j|j
  ·exact h.dK g (.inr (.inl j))
  ·exact h.dK g (.inr (.inr (.inl (by cases j;rfl))))
  ·exact h.dK g (.inr (.inr (.inr j)))) (λg j=>h.apart g j) h.eV
 exact⟨l,b,rfl,m,N,O⟩
end
end Ref
end
section
open Tryz
namespace Ref
def Bi{w:QV}(t ty e:TypeId)(z:Xa)(size bytes:Nat)(K:prog.underlying t=some (.slice e))(X:(prog.info? e).map (λi=>(i.zero,i.size,i.bytes))=some (some z,size,bytes))(ab:z.cells.size=size)(aa:0<size)
  (v:Xa) (n:Nat) (xs:List Xa) (D:w.ownsRow 8 e size v n xs) (p:Addr) (m c:Nat) (l:List Xa) (hl:l.length=m*size) (I:∀j u,l[j]?=some u->w.cell? (p.add j)=some u) (h1:∀u∈l,u.oneCell'=true)
  (Z:0<m) (U:(n+m)*bytes<=140737488355328) (M:n+m<=maxLen) (T:8<=w.1.size) :
  ∃g B w',(Builtin.append_ #[t,t] ty #[v,.slice (some p) m c]).run prog w=.ok (.slice (some ⟨g,0,none⟩) (n+m) B) w'/\w'.ownsRow 8 e size (.slice (some ⟨g,0,none⟩) (n+m) B) (n+m) (xs++l)/\w.grownBy w' v.ownBlock/\(v.ownBlock=some g\/g=w.1.size)/\(∀b,v.ownBlock=some b->∃cs fz,w'.1[b]?=some (.cells cs e fz)):=by
 obtain⟨L,G,Q,y,R⟩:=UJ X;obtain⟨g,B,w',J,N,V,Y,am⟩:=run_append_lies (P:=prog) w t ty 8 e L z size bytes K G Q y R ab aa v n xs D p m c l hl I h1 Z M U T _ rfl;refine⟨g,B,w',J,N,V,Y,?_⟩;rcases D.2 with⟨rfl,rfl⟩|⟨C,E,S,rfl,ai,F,ao,ak,hcs,ap⟩
 ·exact λb hb=>by cases hb
 intro b hb;cases hb;by_cases O:n+m<=E
 ·have r:=UN (P:=prog) w t ty e L K G C n E S F p m c l (by rw[y];exact hl) I h1 O (by
   rw[y,hl,hcs];have:=Qo size O;rw[QO]at this;exact this)
  rw[J]at r;injection r with e1 e2
  injection e1 with e1 _ _
  injection e1 with e1
  injection e1 with e1
  subst e1;exact cz N rfl
 have holds:∀j u,xs[j]?=some u->w.cell? ((⟨C,0,none⟩:Addr).add j)=some u:=D.cells (g:=C) rfl;have r:=run_append_grow (P:=prog) w t ty e L z K G Q ⟨C,0,none⟩ n E xs (by rw[y];exact D.1) holds p m c l (by rw[y];exact hl) I RM (by simp only[maxLen]at M;omega) (by rw[R];exact growslice_fits RM RM);rw[J]at r;injection r with e1 e2
 rw[e2];exact⟨_,_,(heap_alloc_old w.drew _ (cj F)).trans F⟩
def si{ops:Array Oper}{o:Oper}{a:Act}{w:QV}{K:Act->QV->Prop}{Q:Exit->Act->QV->Prop}{E:Prop}
  (D:o.guard=none) (s x:Operand) (t:TypeId) (L:o.op=Op.call { callee:=Callee.builtin Builtin.append,args:=#[s,x],argTypes:=#[t,t] })
  (e:TypeId) (z:Xa) (size bytes:Nat) (P:prog.underlying t=some (.slice e)) (F:(prog.info? e).map (λi=>(i.zero,i.size,i.bytes))=some (some z,size,bytes)) (S:z.cells.size=size) (O:0<size)
  (v:Xa) (n:Nat) (xs:List Xa) (hs:a.eval s=v) (M:w.ownsRow 8 e size v n xs)
  (r:Addr) (m c:Nat) (l:List Xa) (hx:a.eval x=.slice (some r) m c) (hl:l.length=m*size) (J:∀j u,l[j]?=some u->w.cell? (r.add j)=some u) (h1:∀u∈l,u.oneCell'=true)
  (G:0<m) (C:(n+m)*bytes<=140737488355328) (I:n+m<=maxLen) (y:8<=w.1.size)
  (B:∀g p w',w'.ownsRow 8 e size (.slice (some ⟨g,0,none⟩) (n+m) p) (n+m) (xs++l)->w.grownBy w' v.ownBlock->(v.ownBlock=some g\/g=w.1.size)->(∀b,v.ownBlock=some b->∃cs fz,w'.1[b]?=some (.cells cs e fz))->K (a.put o.dst (.slice (some ⟨g,0,none⟩) (n+m) p)) w') :
  if Region.wanted o (yielded ops a.tmps)=true then Oper.wp prog o a w K Q else E:=by
 have R:Region.wanted o (yielded ops a.tmps)=true:=by simp[Region.wanted,D]
 rw[ag R];obtain⟨g,p,w',N,T,U,V,X⟩:=Bi t o.type e z size bytes P F S O v n xs M r m c l hl J h1 G C I y;unfold Oper.wp;simp[execOp,L,resolve,invoke,builtin,hs,hx,N,Result.andThen];exact B g p w' T U V X
end Ref
end
section
open bY
open Tryz
namespace Ref
variable{h:List (a_×cu)}{k x:a_}{v:Xa}{l:List (a_)}
def zx(w:QV)(a:Option Addr)(n c n' b:Nat):(binOp .eql 80 (.slice a n c) (.slice none n' b)).run prog w=.ok (.bool a.isNone) w :=Lib.run_eql_slice_nil w _ _ a n c n' b underlying80
def x9{w W:QV}(e:Xb w W)(a b:Xa):Xb w ((W.setCell ⟨w.1.size,0,none⟩ a).setCell ⟨w.1.size,1,none⟩ b) :=⟨e.os,e.tape,e.output,by simp;exact e.size,λk j=>by
  rw[UI _ ⟨w.1.size,1,none⟩ k _ (by show k≠w.1.size;omega),UI _ ⟨w.1.size,0,none⟩ k _ (by show k≠w.1.size;omega)];exact e.block k j⟩
def nL(j:k∈bY.dE h)(b:bY.cr h k=none):False:=by
 obtain⟨p,e,rfl⟩:=aH.1 j;exact jm.1 b p (Q5.1 e).1 rfl
def qo{th:cu}(e:k∈bY.dE h)(hl:bY.cr h k=some th)(hd:(h.map (·.1)).Nodup):∃t,th.dc=some t:=by
 obtain⟨⟨k',j⟩,b,rfl⟩:=aH.1 e;obtain⟨h1,h2⟩:=Q5.1 b;rw[uQ hd h1]at hl;cases hl;exact Q_.1 h2
def nM{w:QV}(h:dm w v l){j:Nat}(hx:l[j]?=some x):∃g b,v=.slice (some ⟨g,0,none⟩) l.length b/\l.length<=b/\g<w.1.size/\w.cell? ⟨g,j,none⟩=some (str x):=by
 have hj:=(az.1 hx).1;rcases h.2 with⟨_,n⟩|⟨g,b,m,e,_,hb,hc,_⟩
 ·omega
 subst e;exact⟨g,b,rfl,hc,cj hb,(dm.cell h).2 j x hx⟩
def sn(s:LS)(k:a_):Wo:=match bY.cr s.cm k with|none=>.error 7|some th=>.ok th.value
def Bj(w:QV)(p:Nat)(s:LS)(rn:List (a_))(L:Nat->Prop)(j:ba)(h:fA p s rn w L)(hl:s.cm.length<=1000)(I:j.1.1∉bY.dE s.cm):Calls prog 109 #[ptr p,.string j] w λe w'=>e=.returned (dw (sn s j.1.1))/\Xb w w':=by
 have h1:=h.below (dZ w);have hF:=mI (dR w) p s rn L j h1 hl;have heq:=zx;obtain⟨es,T,Z,vF,vB,vR,vN,h1⟩:=h1;obtain⟨R,_,_,_,_,_,_⟩:=h1.cells;have Y:=cj h1.eb;obtain⟨b0,b1,b2,u,y⟩:=cM (eP w);have E:=bZ h1;have r:=bZ (λa b=>x9 (dZ w) a b);unfold ptr at hF ⊢;have n:=bZ hF;clear h1 h hF;unfold dR at *;go_enter func109,ntmps109;go_wp2_with fail;generalize w.alloc (.cells #[.int .i64 0,.string ⟨#[]⟩] 166)=Q at *;refine n.Z.mono ?_;rintro e w'⟨M,hx⟩;have N:=M.symm;subst N;rcases hx with⟨G,rfl⟩|⟨i,th,D,C,rfl⟩
 ·clear n;go_wp2_with fail;exact UA (v:=.agg #[.int .i64 7,.string ⟨#[]⟩]) TG rfl ⟨by unfold sn;rw[G];rfl,r.Z _ _⟩
 have J:th.dc=none:=by
  cases K:th.dc with
  |none=>rfl
  |some t=>exact absurd (h_ C (by rw[K];rfl)) I
 obtain⟨e,g,S,U,B,hv,V,hc⟩:=E.Z.entry D;subst hv;have O:=hc 1 _ rfl;have P:=hc 2 _ rfl;have hi:=(az.1 D).1;have X:(i:Int)<(s.cm.length:Int):=RM;rcases B.eY with⟨_,h2,F⟩|⟨t,ns,m,o,c,z,_⟩
 ·rw[F]at P;obtain⟨x,hx⟩:∃x:ba,str (bY.wr 3 th.value)=.string x:=⟨_,rfl⟩;rw[h2,hx]at O;clear n hc B;go_wp2_with fail;exact UA (v:=.agg #[.int .i64 0,.string x]) TG rfl ⟨by unfold sn;rw[C];show _=Ending.returned (.agg #[_,str _]);rw[hx],r.Z _ _⟩
 rw[J]at z;cases z
def zy(w:QV)(I:Nat)(s:LS)(rn:List (a_))(L:Nat->Prop)(j:ba)(h:fA I s rn w L)(hl:s.cm.length<=1000)(aa:s.done.length<=1000000)(G:j.1.1∈bY.dE s.cm){r:Wo}(hr:bY.cr s.done j.1.1=some r):Calls prog 109 #[ptr I,.string j] w λe w'=>e=.returned (dw r)/\Xb w w':=by
 have h1:=h.below (dZ w);have hF:=mI (dR w) I s rn L j h1 hl;have heq:=zx;obtain⟨es,n,vA,vF,vB,vR,vN,h1⟩:=h1;obtain⟨c0,_,c2,_,_,_,_⟩:=h1.cells;have ay:=cj h1.eb;obtain⟨b0,b1,b2,X,Y⟩:=cM (eP w);have N:=h1.fr.dE _ G;rw[hr]at N;have ao:n.length<=1000000:=ah h1.fr.len aa;obtain⟨oF,cF,rfl⟩:=dP h1.fresh;have B:=bZ h1;have S:=bZ (λa b=>x9 (dZ w) a b);unfold ptr at hF ⊢;have J:=bZ hF;clear h1 h hF;unfold dR at *;go_enter func109,ntmps109;go_wp2_with fail;generalize w.alloc (.cells #[.int .i64 0,.string ⟨#[]⟩] 166)=V at *;refine J.Z.mono ?_;rintro e w'⟨ad,hx⟩;have ai:=ad.symm;subst ai;rcases hx with⟨hn,rfl⟩|⟨i,th,Q,ab,rfl⟩
 ·exact(nL G hn).elim
 obtain⟨t,ht⟩:=qo G ab B.Z.nodup;obtain⟨e,g,ak,he,K,hv,hg,hc⟩:=B.Z.entry Q;subst hv;have z2:=hc 2 _ rfl;have hi:=(az.1 Q).1;have av:(i:Int)<(s.cm.length:Int):=RM;rcases K.eY with⟨y,_⟩|⟨t,ns,m,o,c,h4,_,Z,_⟩
 ·have y:th.dc=none:=y;rw[ht]at y;cases y
 rw[Z]at z2;clear J hc K;go_wp2_with fail
 go_loopw [6] (λiv wr=>∃i:Nat,iv=.int .i64 (i:Int)/\i<=n.length/\wr=V/\Hid (bY.cr (n.drop i) j.1.1=some r)) (λiv _=>n.length-(intOf iv).toNat)
 case atStart=>exact⟨0,rfl,au _,rfl,bZ N⟩
 case round =>
  obtain⟨k,rfl,hk,rfl,HL⟩:=hrel;by_cases O:k<n.length
  ·have ax:(k:Int)<(n.length:Int):=RM;have E:=aq O;have D:=aR O;generalize n[k]=q at E D;obtain⟨gF,am,hv,ap,u⟩:=iI xS RZ B.Z.fresh E;cases hv;obtain⟨tc,ts,F⟩:=dG q.2;have R:ei q.2=[.int .i64 tc,.string ts]:=by
    obtain⟨q1,q2⟩:=q;cases q2<;>(cases F;rfl)
   obtain⟨x,hx⟩:∃x:ba,str q.1=.string x:=⟨_,rfl⟩;have z:=fG hx;have P:eA q=[.string x,.int .i64 tc,.string ts]:=by unfold eA;rw[R,hx]
   rw[P]at u;have y0:=u 0 _ rfl;have y1:=u 1 _ rfl;have y2:=u 2 _ rfl;simp only[Qc]at y0;have M:=jb x j;have C:=bZ (And.intro D F);clear D u hx E P R F;by_cases p:x.1.1=j.1.1
   ·rw[aS p]at M;have U:Hid (r=q.2):=bZ (by
     have:=HL.Z;rw[C.Z.1,dV,ag (z.symm.trans p)]at this;exact(aB this).symm)
    clear p z;go_wp2_with fail;exact UA (v:=.agg #[.int .i64 tc,.string ts]) (by simp[results,results109,go_sem,b0,b1,b2,X,Y]) rfl ⟨by rw[U.Z,C.Z.2],S.Z _ _⟩
   rw[aF p]at M;have T:Hid (¬q.1=j.1.1):=bZ (λe=>p (z.trans e));clear p z;go_wp2_with fail;refine⟨⟨k+1,by go_num,by omega,by first|rfl|trivial,bZ (by have:=HL.Z;rw[C.Z.1,dV,ae T.Z]at this;exact this)⟩,?_⟩;simp[intOf];omega
  have:=HL.Z;rw[aQ RM]at this;cases this
end Ref
end
section
open bY
namespace Ref
def wO(h:List (a_×cu))(j:List (a_×Wo)):List (a_×Wo):=j.map λp=>(p.1,if p.1∈bY.dE h then p.2 else match bY.cr h p.1 with|none=>.error 7|some th=>.ok th.value)
def x_(h:List (a_×cu))(j:List (a_×Wo))(k:a_):bY.cr (wO h j) k=(bY.cr j k).map λr=>if k∈bY.dE h then r else match bY.cr h k with|none=>.error 7|some th=>.ok th.value:=by
 unfold wO;exact jz _ (λk r=>if k∈bY.dE h then r else match bY.cr h k with|none=>.error 7|some th=>.ok th.value) (λp=>rfl) j k
def zA(s:LS)(h:List (a_×cu))(j:List (a_×Wo)):qi { s with cm:=h,done:=wO h j } j where
 dE k b:=by
  show _=bY.cr (wO h j) k;rw[x_];have b:k∈bY.dE h:=b;simp only[ag b];cases bY.cr j k<;>rfl
 len:=by
  show j.length<=(wO h j).length;unfold wO;rw[aG];exact af _
 base k w b e:=by
  have b:bY.cr (wO h j) k=some w:=b;have e:k∉bY.dE h:=e;rw[x_]at b;simp only[ae e]at b;cases hl:bY.cr j k with
  |none=>rw[hl]at b;cases b
  |some r =>
   rw[hl]at b;exact(aB b).symm
section
variable {w w':QV} {l:Nat} {s s':LS} {rn:List (a_)} {L:Nat->Prop} {es es':List En} {j:List (a_×Wo)} {y z B D C vX:Xa}
def fW.JN(h:fW w l s rn L es j y z B D C)(hf:ed (λk=>k=l\/y.ownBlock=some k) w w')(P:w'.1[l]?=some (.cells #[vX,str (cW s.jr),z,B,D,C] 101 (0,0)))(hold:∀b,y.ownBlock=some b->∃cs fz,w'.1[b]?=some (.cells cs 168 fz))
  (I:w'.ownsRow 8 168 7 vX es'.length (es'.flatMap En.cells)) (U:∀g,vX.ownBlock=some g->y.ownBlock=some g\/w.1.size<=g) (hlen:es'.length=s'.cm.length) (aa:∀(i:Nat) (p:a_×cu) (e:En),s'.cm[i]?=some p->es'[i]?=some e->o_ w L rn p e)
  (ab:s'.jr=s.jr) (Y:s'.b_=s.b_) (am:s'.cE=s.cE) (ak:s'.du=s.du) (fr:qi s' j) (ai:(s'.cm.map (·.1)).Nodup) (V:∀e∈es',∀g,e.np.ownBlock=some g->z.ownBlock≠some g) :
  fW w' l s' rn (λk=>L k\/vX.ownBlock=some k) es' j vX z B D C/\(∀k,(L k\/vX.ownBlock=some k)->L k\/w.1.size<=k)/\ed L w w':=by
 have T:∀b,y.ownBlock=some b->∃cs fz,w.1[b]?=some (.cells cs 168 fz):=λb hb=>cz h.all hb;have hty:∀(k:Nat) (cs:Array Xa) (t:TypeId) (fz:Nat×Nat),w.1[k]?=some (.cells cs t fz)->t≠101->t≠168->w'.1[k]?=w.1[k]? := λk cs t fz r h1 h2=>hf.block k (cj r) (λe=>by
  rcases e with e|e
  ·exact fT r h.eb h1 e
  ·obtain⟨cs',K,hb⟩:=T k e;exact fT r hb h2 rfl)
 have F:∀{t:TypeId} {m n:Nat} {u:Xa} {xs:List Xa},t≠101->t≠168->w.ownsRow 8 t m u n xs->w'.ownsRow 8 t m u n xs:=λh1 h2 ho=>cD ho (λg E cs fz r=>(hty g _ _ _ r h1 h2).trans r);have ad:KN w w':=λk cs t fz r G=>(hty k cs t fz r (λe=>by rcases G with rfl|rfl<;>cases e) (λe=>by rcases G with rfl|rfl<;>cases e)).trans r;have O:∀b,y.ownBlock=some b->L b:=λb hb=>h.dK b (.inl hb);refine⟨⟨by rw[ab];exact P,.inl h.here,I,hlen,λi p e hp Z=>?_,F RZ RZ h.fresh,fr,by rw[Y];exact F RZ RZ h.b_,by rw[am];exact F RZ RZ h.cE,by rw[ak];exact F RZ RZ h.runs,λg E=>?_,h.apart,V,ai,λk r=>?_⟩,λk r=>?_,⟨hf.os,hf.tape,hf.output,hf.size,λk r R=>hf.block k r (λe=>?_)⟩⟩
 ·have N:=aa i p e hp Z;refine N.st (λg E hl=>?_) ad (λk r=>.inl r);rcases N.kept with⟨_,_,e0⟩|⟨kp,_,_,_,S,_⟩
  ·rw[e0]at E;cases E
  obtain⟨cs,fz,hb⟩:=cz S E;exact hty g _ _ _ hb RZ RZ
 ·rcases E with E|E
  ·exact .inr E
  exact .inl (h.dK g (.inr E))
 ·by_cases Q:k=l
  ·subst Q;exact⟨(h.ct k h.here).1,_,_,_,P,.inl rfl⟩
  by_cases J:vX.ownBlock=some k
  ·obtain⟨cs,fz,hb⟩:=cz I J;exact⟨(UH I k J).1,_,_,_,hb,.inr (.inl rfl)⟩
  rcases r with r|r
  ·obtain⟨M,cs,t,fz,hb,G⟩:=h.ct k r;by_cases hv:y.ownBlock=some k
   ·obtain⟨cs',K,X⟩:=hold k hv;exact⟨M,cs',_,K,X,.inr (.inl rfl)⟩
   exact⟨M,cs,t,fz,(hf.block k (cj hb) (λe=>by rcases e with e|e;exact Q e;exact hv e)).trans hb,G⟩
  exact(J r).elim
 ·rcases r with r|r
  ·exact .inl r
  rcases U k r with h1|h1
  ·exact .inl (O k h1)
  exact .inr h1
 rcases e with e|e
 ·exact R (by rw[e];exact h.here)
 exact R (O k e)
end
def jJ(l:Nat)(s:LS)(w:QV)(L:Nat->Prop):Prop:=∃d,fA l { s with done:=d } [] w L
def jJ.below{w w':QV}{l:Nat}{s:LS}{L:Nat->Prop}(h:jJ l s w L)(b:Xb w w'):jJ l s w' L:=by
 obtain⟨d,h⟩:=h;exact⟨d,h.below b⟩
def fA.PY{w:QV}{l:Nat}{s:LS}{L:Nat->Prop}(h:fA l s [] w L):jJ l s w L:=⟨s.done,h⟩
def jJ.ct{w:QV}{l:Nat}{s:LS}{L:Nat->Prop}(h:jJ l s w L):Typed w L:=by
 obtain⟨d,h⟩:=h;exact h.ct
end Ref
end
section
open bY
open Tryz
namespace Ref
def yg(l:List (a_))(k x:a_):eI (x :: l) k=if x=k then x :: l else eI l k:=by
 unfold eI;rw[QU];by_cases h:x=k<;>simp[h]
def Dj(w:QV)(r:Nat)(s:LS)(rn:List (a_))(L:Nat->Prop)(l:ba)(h:fA r s rn w L)(hl:s.cm.length<=1000)(bf:s.done.length<=1000000)(ak:l.1.1∈bY.dE s.cm)(hr:bY.cr s.done l.1.1=none)(hc:s.b_.contains l.1.1=true)(hlen:s.b_.length<=1000):Calls prog 109 #[ptr r,.string l] w λe w'=>e=.returned (dw (.error 12))/\eX (fA r (s.meet l.1.1) rn) w L w':=by
 have h1:=h.below (dZ w);have hF:=mI (dR w) r s rn L l h1 hl;have heq:=zx;obtain⟨es,p,vA,vF,vB,vR,vN,h1⟩:=h1;obtain⟨c0,_,c2,c3,c4,_,cf⟩:=h1.cells;have bv:=cj h1.eb;obtain⟨b0,b1,b2,b3,b4⟩:=cM (eP w);have a0:=h1.fr.dE _ ak;rw[hr]at a0;have bo:p.length<=1000000:=ah h1.fr.len bf;obtain⟨oF,cF,rfl⟩:=dP h1.fresh;obtain⟨oB,S,rfl⟩:=dP h1.b_;obtain⟨oR,T,rfl⟩:=dP h1.cE;have h8:8<=(dR w).1.size:=ah (h1.ct _ h1.here).1 (aE (h1.ct.lt h1.here));have bz:r<w.1.size:=h.ct.lt SP;have bx:r≠w.1.size:=RM;have aC:∀(s':LS) (O:QV),eX (fA r s' rn) (dR w) L O->O.1[w.1.size]?=some (.cells #[.int .i64 0,.string ⟨#[]⟩] 166 (0,0))->∀a b,eX (fA r s' rn) w L ((O.setCell ⟨w.1.size,0,none⟩ a).setCell ⟨w.1.size,1,none⟩ b):=λs' O hz hb a b =>
  eX.post (eX.pre (dZ w) hz) (kJ (af _) hb _ _) (λL' bd=>bd.bx (kJ (af _) hb _ _))
 have C:=bZ h1;have R:=bZ (eP w);unfold ptr at hF ⊢;have HF:=bZ hF;have am:=bZ aC;have av:∀k,L k->k<w.1.size:=λk z=>h.ct.lt z;have a9:=bZ av;clear h1 h hF aC av;unfold dR at *;go_enter func109,ntmps109;go_wp2_with fail;generalize w.alloc (.cells #[.int .i64 0,.string ⟨#[]⟩] 166)=F at *;refine HF.Z.mono ?_;rintro e w'⟨bh,hx⟩;have bj:=bh.symm;subst bj;rcases hx with⟨hn,rfl⟩|⟨i,th,hp,bg,rfl⟩
 ·exact(nL ak hn).elim
 obtain⟨t,ht⟩:=qo ak bg C.Z.nodup;obtain⟨e,g,U,he,hE,hv,hg,ax⟩:=C.Z.entry hp;subst hv;have z2:=ax 2 _ rfl;have hi:=(az.1 hp).1;have bt:(i:Int)<(s.cm.length:Int):=RM;rcases hE.eY with⟨K,_⟩|⟨t,ns,m,o,c,h4,_,h5,_⟩
 ·have K:th.dc=none:=K;rw[ht]at K;cases K
 rw[h5]at z2;clear HF ax hE;go_wp2_with fail
 go_loopw [6] (λiv wr=>∃i:Nat,iv=.int .i64 (i:Int)/\i<=p.length/\F=wr) (λiv _=>p.length-(intOf iv).toNat)
 case atStart=>exact⟨0,rfl,au _,rfl⟩
 case round =>
  obtain⟨k,rfl,z,rfl⟩:=hrel;by_cases ab:k<p.length
  ·have aa:(k:Int)<(p.length:Int):=RM;have B:=aq ab;have ad:p[k]∈p:=Q4 ab;generalize p[k]=q at B ad;obtain⟨gF,bl,hv,br,ay⟩:=iI xS RZ C.Z.fresh B;cases hv;obtain⟨x,hx⟩:∃x:ba,str q.1=.string x:=⟨_,rfl⟩;have D:=fG hx;have y0:=ay 0 (.string x) (by rw[<-hx];rfl);simp only[Qc]at y0;have M:=jb x l;rw[aF (λe=>jm.1 a0 q ad (D.symm.trans e))]at M;clear ay hx B ad D;go_wp2_with fail;refine⟨⟨k+1,by go_num,by omega,by first|rfl|trivial⟩,?_⟩;simp[intOf];omega
  have aa:¬(k:Int)<(p.length:Int):=RM;go_wp2_with fail
  go_loopw [7] (λiv wr=>∃i:Nat,iv=.int .i64 (i:Int)/\i<=s.b_.length/\F=wr/\Hid (eI s.b_ l.1.1=eI (s.b_.drop i) l.1.1/\(s.b_.drop i).contains l.1.1=true)) (λiv _=>s.b_.length-(intOf iv).toNat)
  case atStart=>exact⟨0,rfl,au _,rfl,bZ ⟨rfl,hc⟩⟩
  case round =>
   clear aa ab z;obtain⟨k2,rfl,bu,rfl,HL⟩:=hrel;by_cases a4:k2<s.b_.length
   ·have aa:(k2:Int)<(s.b_.length:Int):=RM;have B:=aq a4;have G:=aR a4;generalize s.b_[k2]=q at B G;obtain⟨Y,bk,hv,bm,bq,y0⟩:=nM C.Z.b_ B;cases hv;obtain⟨x,hx⟩:∃x:ba,str q=.string x:=⟨_,rfl⟩;have D:=fG hx;rw[hx]at y0;have M:=jb x l;by_cases I:x.1.1=l.1.1
    ·rw[aS I]at M;have HD:Hid (eI s.b_ l.1.1=s.b_.drop k2):=bZ (by rw[HL.Z.1,G,yg,ag (D.symm.trans I)]);by_cases J:s.cE=[]
     ·have ai:s.cE.length=0:=by rw[J];rfl
      rw[ai]at c4;have a6:Hid (∀j u,((s.b_.drop k2).map str)[j]?=some u->F.cell? ((⟨Y,k2,none⟩:Addr).add j)=some u):=bZ (λj u hj=>by
       rw[addr_add];rw[P2,RY]at hj;cases z:s.b_[k2+j]? with
       |none=>rw[z]at hj;cases hj
       |some y =>
        rw[z]at hj;cases hj;exact(dm.cell C.Z.b_).2 _ _ z)
      have bc:Hid (F.ownsRow 8 9 1 (.slice oR 0 T) 0 []):=bZ (by
       have:=C.Z.cE;unfold dm at this;rw[J]at this;exact this)
      have a8:Hid (((s.b_.drop k2).map str).length=(s.b_.length-k2)*1):=bZ (by rw[aG,aO,Qd]);have ap:fW F r s rn L es p (.slice (some ⟨g,0,none⟩) s.cm.length U) (.slice oF p.length cF) (.slice (some ⟨Y,0,none⟩) s.b_.length S) (.slice oR 0 T) vN:=by
       have:=C.Z;rw[ai]at this;exact this
      have ao:=bZ (λ(w1 w2:QV) (g U:Nat)=>ap.CI (s.b_.drop k2) (w1:=w1) (w2:=w2) (n:=s.b_.length-k2) (g:=g) (cP:=U) (by rw[aO]));have bn:¬S=k2:=RM;clear ap I D G B hx
      go_upto_region 16 with fail
      go_region_law (refine si rfl (.tmp 92) (.tmp 98) 40 rfl 9 _ 1 16 underlying40 qf rfl RZ (.slice oR 0 T) 0 [] rfl bc.Z ⟨Y,k2,none⟩ (s.b_.length-k2) (S-k2) ((s.b_.drop k2).map str) rfl a8.Z a6.Z (by intro u hu;obtain⟨y,_,rfl⟩:=aH.1 hu;rfl) RM RM R6 R5 ?_;intro X V w3 ho a2 a3 hold;have a5:0+(s.b_.length-k2)=s.b_.length-k2:=aI _;rw[a5]at ho ⊢;obtain⟨q1,q2,q3,⟨v0,bA⟩,bp,bw⟩:=ao.Z _ w3 X V ((Uz _ F).drew) ho a2 a3 hold;have E:=bZ (And.intro q1 (And.intro q2 q3));clear ao q1 q2 q3 ho a2 a3 hold a5)
      all_goals
       have Z:(w3.setCell ⟨r,4,none⟩ (.slice (some ⟨X,0,none⟩) (s.b_.length-k2) V)).1[w.1.size]?=some (.cells #[.int .i64 0,.string ⟨#[]⟩] 166 (0,0)):=(E.Z.2.2.block _ (cj R.Z) (λhm=>by have:=a9.Z _ hm;omega)).trans R.Z;obtain⟨e0,e1,e2,e3,e4⟩:=cM Z;have P:=bZ (λa b=>am.Z { s with cE:=s.b_.drop k2 } _ ⟨_,⟨_,_,_,_,_,_,_,E.Z.1⟩,E.Z.2.1,λk z=>.inl z,E.Z.2.2⟩ Z a b);have Q:Hid (s.meet l.1.1={ s with cE:=s.b_.drop k2 }):=bZ (by unfold LS.meet;rw[ag J,HD.Z]);clear Z;generalize w3.setCell ⟨r,4,none⟩ (.slice (some ⟨X,0,none⟩) (s.b_.length-k2) V)=w4 at *;go_wp2_with fail;exact UA (v:=.agg #[.int .i64 12,.string ⟨#[]⟩]) TH rfl ⟨rfl,by rw[Q.Z];exact P.Z _ _⟩
     have ai:¬((s.cE.length:Int)=0):=λe=>J (QN RM);have P:=bZ (λa b=>am.Z s F (eX.refl ⟨_,_,_,_,_,_,_,C.Z⟩) R.Z a b);have Q:Hid (s.meet l.1.1=s):=bZ (by unfold LS.meet;rw[ae J]);clear I D G B hx HD;go_wp2_with fail;exact UA (v:=.agg #[.int .i64 12,.string ⟨#[]⟩]) (by simp[results,results109,go_sem,b0,b1,b2,b3,b4]) rfl ⟨rfl,by rw[Q.Z];exact P.Z _ _⟩
    rw[aF I]at M;have E:Hid (¬q=l.1.1):=bZ (λe=>I (D.trans e));have a7:Hid (eI s.b_ l.1.1=eI (s.b_.drop (k2+1)) l.1.1/\(s.b_.drop (k2+1)).contains l.1.1=true):=bZ (by
     obtain⟨l1,N⟩:=HL.Z;rw[G,yg,ae E.Z]at l1;rw[G]at N;refine⟨l1,?_⟩;rw[List.contains_cons]at N;have:(l.1.1==q)=false:=aw.2 (λe=>E.Z e.symm);rw[this,QK]at N;exact N)
    clear I D G B hx;go_wp2_with fail;refine⟨⟨k2+1,by go_num,by omega,by first|rfl|trivial,a7⟩,?_⟩;simp[intOf];omega
   have:=HL.Z.2;rw[aQ RM]at this;cases this
end Ref
end
section
open Tryz
namespace Ref
variable{s:bY.LS}{L:Nat->Prop}{r:bY.Wo}{ts:ba}
def jJ.begin{w:QV}{j:Nat}(h:jJ j s w L):∃v2 v4 C,w.cell? ⟨j,2,none⟩=some v2/\w.cell? ⟨j,4,none⟩=some v4/\w.cell? ⟨j,5,none⟩=some C/\(∀o,w.frozen? ⟨j,o,none⟩=false)/\j<w.1.size/\fA j s.fresh [] (((w.setCell ⟨j,2,none⟩ (.slice none 0 0)).setCell ⟨j,4,none⟩ (.slice none 0 0)).setCell ⟨j,5,none⟩ (.slice none 0 0)) L/\ed L w (((w.setCell ⟨j,2,none⟩ (.slice none 0 0)).setCell ⟨j,4,none⟩ (.slice none 0 0)).setCell ⟨j,5,none⟩ (.slice none 0 0)):=by
 obtain⟨d,es,G,J,K,n,D,p,m⟩:=h;obtain⟨E,c1,c2,F,u,y,cf⟩:=m.cells;obtain⟨h1,f1⟩:=m.cellOf (s':={ s with done:=[] }) 2 (.slice none 0 0) (vF':=.slice none 0 0) (vB':=n) (vR':=D) (vN':=p) (fl':=[]) rfl rfl ⟨rfl,.inl ⟨rfl,rfl⟩⟩ ⟨λ_ _=>rfl,af _,λk w l=>by cases l⟩ m.b_ m.cE m.runs (λg b=>by
  rcases b with b|b
  ·cases b
  ·exact m.dK g (.inr (.inr b))) m.apart (λe I g b hF=>by cases hF)
 obtain⟨h2,f2⟩:=h1.cellOf (s':={ s with done:=[],cE:=[] }) 4 (.slice none 0 0) (vF':=.slice none 0 0) (vB':=n) (vR':=.slice none 0 0) (vN':=p) (fl':=[]) rfl rfl h1.fresh ⟨λ_ _=>rfl,af _,λk w l=>by cases l⟩ h1.b_ ⟨rfl,.inl ⟨rfl,rfl⟩⟩ h1.runs (λg b=>by
  rcases b with b|b|b|b
  ·cases b
  ·exact h1.dK g (.inr (.inr (.inl b)))
  ·cases b
  ·exact h1.dK g (.inr (.inr (.inr (.inr b))))) (λg b B=>by cases B) h1.eV
 obtain⟨z,f3⟩:=h2.cellOf (s':={ s with done:=[],cE:=[],du:=[] }) 5 (.slice none 0 0) (vF':=.slice none 0 0) (vB':=n) (vR':=.slice none 0 0) (vN':=.slice none 0 0) (fl':=[]) rfl rfl h2.fresh ⟨λ_ _=>rfl,af _,λk w l=>by cases l⟩ h2.b_ h2.cE ⟨rfl,.inl ⟨rfl,rfl⟩⟩ (λg b=>by
  rcases b with b|b|b|b
  ·cases b
  ·exact h2.dK g (.inr (.inr (.inl b)))
  ·cases b
  ·cases b) h2.apart h2.eV
 exact⟨_,_,_,c2,u,y,cf,cj m.eb,⟨_,_,_,_,_,_,_,z⟩,(f1.trans f2 (λk l=>.inl l)).trans f3 (λk l=>.inl l)⟩
def N6(h:dw r=.agg #[.int .i64 12,.string ts]):ts=⟨#[]⟩:=by
 cases r with
 |ok v=>cases h
 |error c=>cases h;rfl
def Bw(w:QV)(p:Nat)(b:ba)(m:b.size<=20000000)(n:bY.dL b.1.1=false):Calls prog 71 #[ptr p,.string b] w λe w'=>e=.returned (.tuple #[.string ⟨#[]⟩,.int .i64 1,.slice none 0 0])/\w'=w:=by
 have j:=eg b w m;rw[pK,n]at j;have l:=bZ j;clear j;unfold ptr;go_enter func71,ntmps71;go_wp2_with(go_at_call 108;refine l.Z.mono ?_;rintro e w' ⟨rfl,rfl⟩);exact UA (v:=.tuple #[.string ⟨#[]⟩,.int .i64 1,.slice none 0 0]) Tq rfl ⟨rfl,rfl⟩
def Kc(w:QV)(m:Nat)(s:bY.LS)(L:Nat->Prop)(b:ba)(h:jJ m s w L)(says:vP m 42)(S:vM 42 s.fresh)(j:b.size<=20000000)(hn:bY.dL b.1.1=true):Calls prog 71 #[ptr m,.string b] w λe w'=>∃tc ts u,dw (s.ask b.1.1).1=.agg #[.int .i64 tc,.string ts]/\e=.returned (.tuple #[.string ts,.int .i64 tc,u])/\(tc≠12->u=.slice none 0 0)/\(tc=12->dm w' u (s.ask b.1.1).2.cE)/\eX (fA m (s.ask b.1.1).2 []) w L w':=by
 have E:=eg b w j;rw[pK,hn]at E;obtain⟨v2,v4,v5,c2,X,Y,cf,ad,hA,hF⟩:=h.begin;have hs:=says _ _ _ _ b hA S (λk j=>by cases j);have Q:bY.cC 42 b.1.1 s.fresh=s.ask b.1.1:=rfl;rw[Q]at hs;obtain⟨tc,ts,F⟩:=dG (s.ask b.1.1).1;rw[F]at hs;have G:=bZ E;unfold ptr at hs ⊢;have J:=bZ hs;have y:=bZ hF;have z:=bZ F;clear E h hs hF hA F Q S says;go_enter func71,ntmps71
 go_upto_region 8 with(first|(go_at_call 108;refine G.Z.mono ?_;rintro e w0 ⟨rfl,rfl⟩)|(go_at_call 109;refine J.Z.mono ?_;rintro e w1 ⟨rfl,Z⟩))
 obtain⟨V,M,N,O,P⟩:=Z;have C:=eB w1 tc ts;have R:=M.below C;have I:Hid (eX (fA m (s.ask b.1.1).2 []) w L (gO w1 tc ts)):=bZ ⟨V,R,λk j=>(by
  rcases N k j with h|h
  ·exact .inl h
  ·exact .inr (ah y.Z.size h)),O,(y.Z.trans P (λk j=>.inl j)).trans (ed.below C) (λk j=>.inl j)⟩
 obtain⟨b5,b6,b7,b8,b9⟩:=cM (nK w1 tc ts);obtain⟨es,fl,vA,vF,vB,u,vN,n⟩:=R;obtain⟨_,_,_,_,d4,_,_⟩:=n.cells;have ai:=cj n.eb;obtain⟨T,K,rfl⟩:=dP n.cE;have U:=bZ n.cE;change Code.wp _ _ _ _ (gO w1 tc ts);clear n C M N O P J y G c2 X Y;generalize gO w1 tc ts=l at *;by_cases B:tc=12
 ·subst B;have aa:=N6 z.Z;subst aa;have p:Hid (∀k,eX (fA m (s.ask b.1.1).2 []) w L (l.drewN k)/\dm (l.drewN k) (.slice T (s.ask b.1.1).2.cE.length K) (s.ask b.1.1).2.cE):=bZ (λk=>⟨eX.post I.Z (Bx.below (below_drewN (Uz _ l) k)) (λL' D=>D.below (below_drewN (Uz _ l) k)),U.Z⟩)
  go_upto_region 9 with fail
  go_quiet (fail)
  go_wp2_with fail;exact UA (v:=.tuple #[.string ⟨#[]⟩,.int .i64 12,.slice T (s.ask b.1.1).2.cE.length K]) Tq rfl ⟨12,⟨#[]⟩,_,z.Z,rfl,λe=>absurd rfl e,λ_=>(p.Z _).2,(p.Z _).1⟩
 have ab:(tc==12)=false:=aw.2 B;have p:Hid (∀k,eX (fA m (s.ask b.1.1).2 []) w L (l.drewN k)):=bZ (λk=>eX.post I.Z (Bx.below (below_drewN (Uz _ l) k)) (λL' D=>D.below (below_drewN (Uz _ l) k)))
 go_upto_region 10 with fail
 go_quiet (fail)
 go_wp2_with fail;exact UA (v:=.tuple #[.string ts,.int .i64 tc,.slice none 0 0]) Tq rfl ⟨tc,ts,_,z.Z,rfl,λ_=>rfl,λe=>absurd e B,p.Z _⟩
end Ref
end
