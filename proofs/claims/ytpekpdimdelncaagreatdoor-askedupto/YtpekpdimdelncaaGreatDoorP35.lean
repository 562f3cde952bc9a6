/- Out of B5. -/
import Derived.Test.YtpekpdimdelncaaGreatDoorP34
set_option linter.unusedVariables false
set_option linter.unusedSimpArgs false
set_option maxRecDepth 100000
set_option maxHeartbeats 4000000
set_option linter.defProp false
namespace Go.Proofs.YtpekpdimdelncaaGreatDoor
open Go.RowKit Go.Shelf
section
namespace Ref
def pJ{h:List (a_×bY.cu)}(hd:(h.map (·.1)).Nodup){i j:Nat}{p q:a_×bY.cu}(u:h[i]?=some p)(D:h[j]?=some q)(n:i≠j):q.1≠p.1:=λe=>by
 obtain⟨hi,rfl⟩:=az.1 u;obtain⟨hj,rfl⟩:=az.1 D;have m:=List.pairwise_iff_getElem.1 hd;rcases Nat.lt_or_gt_of_ne n with hl|hl
 ·exact m i j Sc (by simpa using hj) hl (by simpa using e.symm)
 exact m j i (by simpa using hj) Sc hl Sw
section
variable {w w':QV} {r:Nat} {s:bY.LS} {rn rn':List (a_)} {L:Nat->Prop} {es es':List En} {y:List (a_×bY.Wo)} {b l z C B:Xa}
def fW.OO(h:fW w r s rn L es y b l z C B){gA:Nat}(D:b.ownBlock=some gA)(hf:ed (λk=>k=gA) w w')(G:w'.ownsRow 8 168 7 b es'.length (es'.flatMap En.cells))(N:es'.length=es.length)
  (O:∀(i:Nat) (p:a_×bY.cu) (e:En),s.cm[i]?=some p->es'[i]?=some e->o_ w' L rn' p e) (K:∀e∈es',∀g,e.np.ownBlock=some g->l.ownBlock≠some g):fW w' r s rn' L es' y b l z C B/\ed L w w':=by
 obtain⟨R,S,hA⟩:=cz h.all D;have hty:∀(k:Nat) (cs:Array Xa) (t:TypeId) (fz:Nat×Nat),w.1[k]?=some (.cells cs t fz)->t≠168->w'.1[k]?=w.1[k]? := λk cs t fz j F=>hf.block k (cj j) (fT j hA F);have E:∀{t:TypeId} {m n:Nat} {u:Xa} {xs:List Xa},t≠168->w.ownsRow 8 t m u n xs->w'.ownsRow 8 t m u n xs:=λM Q=>cD Q (λg D cs fz j=>(hty g _ _ _ j M).trans j);refine⟨⟨(hty r _ _ _ h.eb RZ).trans h.eb,h.here,G,N.trans h.kE,O,E RZ h.fresh,h.fr,E RZ h.b_,E RZ h.cE,E RZ h.runs,h.dK,h.apart,K,h.nodup,λk j=>?_⟩,⟨hf.os,hf.tape,hf.output,hf.size,λk j P=>hf.block k j (λe=>P (by rw[e];exact h.dK gA (.inl D)))⟩⟩;by_cases I:k=gA
 ·subst I;obtain⟨cs,fz,hb⟩:=cz G D;exact⟨(h.ct k j).1,_,_,_,hb,.inr (.inl rfl)⟩
 obtain⟨J,cs,t,fz,hb,F⟩:=h.ct k j;exact⟨J,cs,t,fz,(hf.block k (cj hb) I).trans hb,F⟩
def fW.JC(h:fW w r s rn L es y b l z C B){gA:Nat}(D:b.ownBlock=some gA)(hf:ed (λk=>k=gA) w w'){i:Nat}{p:a_×bY.cu}{e':En}(G:s.cm[i]?=some p)(O:w'.ownsRow 8 168 7 b es.length ((es.set i e').flatMap En.cells))
  (T:∀k,k≠p.1->(k∈rn'↔k∈rn)) (R:e'.key=p.1) (U:ka w p.2 e') (Q:KeptAt w' L (if p.1∈rn' then none else p.2.kept) e') (P:∀g,e'.np.ownBlock=some g->l.ownBlock≠some g):fW w' r s rn' L (es.set i e') y b l z C B/\ed L w w':=by
 obtain⟨V,X,hA⟩:=cz h.all D;have hty:∀(k:Nat) (cs:Array Xa) (t:TypeId) (fz:Nat×Nat),w.1[k]?=some (.cells cs t fz)->t≠168->w'.1[k]?=w.1[k]? := λk cs t fz m J=>hf.block k (cj m) (fT m hA J);have N:KN w w':=λk cs t fz m J=>(hty k cs t fz m (λe=>by rcases J with rfl|rfl<;>cases e)).trans m;refine h.OO D hf (by rw[aX];exact O) (aX ..) (λj q e I n=>?_) (λe n g K=>?_)
 ·by_cases F:i=j
  ·subst F;obtain rfl:p=q:=aB (G.symm.trans I);have S:i<es.length:=by rw[h.kE];exact(az.1 G).1
   rw[P4 S]at n;obtain rfl:=aB n;exact⟨R,U.st N,Q⟩
  rw[Qt F]at n;have E:=(h.pO j q e I n).st (w':=w') (L':=L) (λg D _=>by
   obtain⟨cs,fz,hb⟩:=h.Bf e (aL n) g D;exact hty g _ _ _ hb RZ) N (λ_ h=>h)
  refine⟨E.key,E.eY,?_⟩;have m:=E.kept;have M:=T q.1 (pJ h.nodup G I F);by_cases u:q.1∈rn
  ·rw[ag u]at m;rw[ag (M.2 u)];exact m
  rw[ae u]at m;rw[ae (λh=>u (M.1 h))];exact m
 rcases Rm n with u|rfl
 ·exact h.eV e u g K
 exact P g K
end
end Ref
end
section
namespace Ref
def iQ{w:QV}{e:TypeId}{m n g B:Nat}{xs:List Xa}(h:w.ownsRow 8 e m (.slice (some ⟨g,0,none⟩) n B) n xs)(i:Nat)(v:Xa):(w.setCell ⟨g,i,none⟩ v).ownsRow 8 e m (.slice (some ⟨g,0,none⟩) n B) n (xs.set i v)/\ed (λk=>k=g) w (w.setCell ⟨g,i,none⟩ v):=by
 refine⟨⟨by rw[aX];exact h.1,?_⟩,⟨rfl,rfl,rfl,by simp,λk K z=>UI w ⟨g,i,none⟩ k _ z⟩⟩;rcases h.2 with⟨h1,_⟩|⟨g',F,b,h1,h2,j,l,r,u,y⟩
 ·cases h1
 cases h1;refine .inr ⟨g,B,b.setIfInBounds i v,rfl,h2,Go.heap_setCell_same w g i b e v j,l,r,by rw[Array.size_setIfInBounds];exact u,?_⟩;rw[Array.toList_setIfInBounds,List.take_set,y]
def vS{α:Type}(F:α->List Xa)(m:Nat)(hF:∀a,(F a).length=m):∀(l:List α) (k:Nat) (a b:α) (j:Nat) (u:Xa),l[k]?=some a->j<m->F b=(F a).set j u->(l.set k b).flatMap F=(l.flatMap F).set (k*m+j) u
 |[],k,a,b,j,u,h,_,_=>by cases h
 |e :: r,0,a,b,j,u,h,hj,hb=>by
  have h:e=a:=aB h;subst h;rw[Xc,P9,P9,Q6,aI,R3 _ _ (by rw[hF];exact hj),hb]
 |e :: r,k+1,a,b,j,u,h,hj,hb=>by
  have e0:=hF e;have e1:(k+1)*m+j-(F e).length=k*m+j:=by rw[Nat.succ_mul];omega
  rw[Xd,P9,P9,Ro _ _ (by rw[Nat.succ_mul];omega),e1,vS F m hF r k a b j u h hj hb]
def xV:∀(l:List En) (k:Nat) (a b:En) (u v:Xa),l[k]?=some a->b.cells=(a.cells.set 5 u).set 6 v->(l.set k b).flatMap En.cells=((l.flatMap En.cells).set (k*7+5) u).set (k*7+6) v
 |[],k,a,b,u,v,h,_=>by cases h
 |e :: r,0,a,b,u,v,h,hb=>by
  have h:e=a:=aB h;subst h;have e0:=nG e;rw[Xc,P9,P9,Q6,aI,aI,R3 _ _ RM,R3 _ _ (by rw[aX];omega),hb]
 |e :: r,k+1,a,b,u,v,h,hb=>by
  have e0:=nG e;have e1:(k+1)*7+5-e.cells.length=k*7+5:=RM;have e2:(k+1)*7+6-e.cells.length=k*7+6:=RM;rw[Xd,P9,P9,Ro _ _ RM,e1,Ro _ _ RM,e2,xV r k a b u v h hb]
def iR{g:Nat}{a b c:QV}(h:ed (λk=>k=g) a b)(h':ed (λk=>k=g) b c):ed (λk=>k=g) a c:=h.trans h' (λk j=>.inl j)
section
variable {w:QV} {D:Nat} {s:bY.LS} {rn:List (a_)} {L:Nat->Prop} {es:List En} {C:List (a_×bY.Wo)} {G E J I:Xa} {g B:Nat} {i:Nat} {p:a_×bY.cu} {e:En}
def Bg(h:w.ownsRow 8 168 7 (.slice (some ⟨g,0,none⟩) es.length B) es.length (es.flatMap En.cells))(b:es[i]?=some e){e':En}{j k:Nat}{u v:Xa}(hj:j<7)(m:k<7)(hc:e'.cells=(e.cells.set j u).set k v)(r:∃e1:En,e1.cells=e.cells.set j u):((w.setCell ⟨g,i*7+j,none⟩ u).setCell ⟨g,i*7+k,none⟩ v).ownsRow 8 168 7 (.slice (some ⟨g,0,none⟩) es.length B) es.length ((es.set i e').flatMap En.cells)/\ed (λk=>k=g) w ((w.setCell ⟨g,i*7+j,none⟩ u).setCell ⟨g,i*7+k,none⟩ v):=by
 obtain⟨e1,h1⟩:=r;obtain⟨a1,l⟩:=iQ h (i*7+j) u;obtain⟨b1,b2⟩:=iQ a1 (i*7+k) v;have n:=(az.1 b).1;have f1:=vS En.cells 7 nG es i e e1 j u b hj h1;have f2:=vS En.cells 7 nG (es.set i e1) i e1 e' k v (P4 n) m (by rw[h1];exact hc);rw[RI,f1]at f2;rw[f2];exact⟨b1,iR l b2⟩
def fW.NQ(h:fW w D s rn L es C (.slice (some ⟨g,0,none⟩) es.length B) G E J I)(m:s.cm[i]?=some p)(l:es[i]?=some e):fW ((w.setCell ⟨g,i*7+3,none⟩ (.bool false)).setCell ⟨g,i*7+4,none⟩ (.slice none 0 0)) D s (p.1 :: rn) L (es.set i { e with kept:=false,np:=.slice none 0 0 }) C (.slice (some ⟨g,0,none⟩) es.length B) G E J I/\ed L w ((w.setCell ⟨g,i*7+3,none⟩ (.bool false)).setCell ⟨g,i*7+4,none⟩ (.slice none 0 0)):=by
 have b:=h.pO i p e m l;obtain⟨a1,n⟩:=Bg (i:=i) h.all l (e':={ e with kept:=false,np:=.slice none 0 0 }) (j:=3) (k:=4) (u:=.bool false) (v:=.slice none 0 0) RZ RZ rfl ⟨{ e with kept:=false },rfl⟩;refine h.JC (e':={ e with kept:=false,np:=.slice none 0 0 }) rfl n m a1 (λk y=>by simp[y]) b.key ?_ ?_ (λg r=>by cases r)
 ·exact b.eY
 rw[ag R2];exact .inl ⟨rfl,rfl,rfl⟩
def fW.JD(h:fW w D s rn L es C (.slice (some ⟨g,0,none⟩) es.length B) G E J I)(m:s.cm[i]?=some p)(j:es[i]?=some e)(n:p.1∈rn)(r:bY.Wo){tc:Int}{ts:ba}(N:ei r=[.int .i64 tc,.string ts]):fW ((w.setCell ⟨g,i*7+5,none⟩ (.int .i64 tc)).setCell ⟨g,i*7+6,none⟩ (.string ts)) D s rn L (es.set i { e with w:=r }) C (.slice (some ⟨g,0,none⟩) es.length B) G E J I/\ed L w ((w.setCell ⟨g,i*7+5,none⟩ (.int .i64 tc)).setCell ⟨g,i*7+6,none⟩ (.string ts)):=by
 have b:=h.pO i p e m j;have l:=b.kept;rw[ag n]at l;obtain⟨y,z,O⟩:∃y z,ei e.w=[y,z]:=by
  obtain⟨k1,k2,k3,k4,Q,P⟩:=e;cases P<;>exact⟨_,_,rfl⟩
 have K:=h.all;have key:((w.setCell ⟨g,i*7+5,none⟩ (.int .i64 tc)).setCell ⟨g,i*7+6,none⟩ (.string ts)).ownsRow 8 168 7 (.slice (some ⟨g,0,none⟩) es.length B) es.length ((es.set i { e with w:=r }).flatMap En.cells)/\ed (λk=>k=g) w ((w.setCell ⟨g,i*7+5,none⟩ (.int .i64 tc)).setCell ⟨g,i*7+6,none⟩ (.string ts)):=by
  obtain⟨a1,u⟩:=iQ K (i*7+5) (.int .i64 tc);obtain⟨b1,b2⟩:=iQ a1 (i*7+6) (.string ts);refine⟨?_,iR u b2⟩;have hf:=xV es i e { e with w:=r } (.int .i64 tc) (.string ts) j (by simp only[En.cells,N,O];rfl);rw[hf];exact b1
 refine h.JC (e':={ e with w:=r }) rfl key.2 m key.1 (λ_ _=>Iff.rfl) b.key b.eY ?_ (λg' M=>h.eV e (aL j) g' M);rw[ag n];rcases l with F|⟨kp,h1,_⟩
 ·exact .inl F
 cases h1
end
end Ref
end
section
open bY
namespace Ref
def Bh(h:List (a_×cu))(k:a_)(o:Option fM)(j:Nat):(bY.di h k o)[j]?=(h[j]?).map λp=>if p.1==k then(p.1,{ p.2 with kept:=o })else p:=by
 unfold bY.di;rw[P2]
def FX(h:List (a_×cu))(k:a_)(o:Option fM):(bY.di h k o).map (·.1)=h.map (·.1):=by
 unfold bY.di;rw[P8];apply Qu;intro p _;simp only[Function.comp];split<;>rfl
def vT(h:List (a_×cu))(k:a_)(o:Option fM):bY.dE (bY.di h k o)=bY.dE h:=by
 rw[<-eE,gy,eE]
def qi.kept{s:LS}{b:List (a_×Wo)}(h:qi s b)(k:a_)(o:Option fM):qi { s with cm:=bY.di s.cm k o } b where
 dE q e:=h.dE q (by rw[<-vT s.cm k o];exact e)
 len:=h.len
 base q w n e:=by
  have m:=h.base q w n (by rw[<-vT s.cm k o];exact e);show w=match bY.cr (bY.di s.cm k o) q with|none=>.error 7|some th=>.ok th.value
  rw[m,iN];by_cases j:k=q
  ·rw[ag j];cases bY.cr s.cm q<;>rfl
  rw[ae j];cases bY.cr s.cm q<;>rfl
section
variable {w w':QV} {r:Nat} {s:LS} {rn rn':List (a_)} {L L':Nat->Prop} {es:List En} {b:List (a_×Wo)} {l y z C B:Xa}
def fW.Ef(h:fW w r s rn L es b l y z C B){gA:Nat}(F:l.ownBlock=some gA)(hf:ed (λk=>k=gA) w w'){i:Nat}{p:a_×cu}{e':En}(Q:s.cm[i]?=some p)(S:w'.ownsRow 8 168 7 l es.length ((es.set i e').flatMap En.cells))(o:Option fM)
  (O:∀k,L k->L' k) (ab:∀k,L' k->L k\/(8<=k/\∃cs fz,w'.1[k]?=some (.cells cs 204 fz))) (ap:∀k,k≠p.1->(k∈rn'↔k∈rn)) (ao:p.1∉rn') (ak:e'.key=p.1) (av:ka w p.2 e') (ai:KeptAt w' L' o e') (ad:∀g,e'.np.ownBlock=some g->y.ownBlock≠some g) :
  fW w' r { s with cm:=bY.di s.cm p.1 o } rn' L' (es.set i e') b l y z C B/\ed L w w':=by
 obtain⟨ax,ay,hA⟩:=cz h.all F;have hty:∀(k:Nat) (cs:Array Xa) (t:TypeId) (fz:Nat×Nat),w.1[k]?=some (.cells cs t fz)->t≠168->w'.1[k]?=w.1[k]? := λk cs t fz D J=>hf.block k (cj D) (fT D hA J);have X:KN w w':=λk cs t fz D J=>(hty k cs t fz D (λe=>by rcases J with rfl|rfl<;>cases e)).trans D;have K:∀{t:TypeId} {m n:Nat} {u:Xa} {xs:List Xa},t≠168->w.ownsRow 8 t m u n xs->w'.ownsRow 8 t m u n xs:=λE ho=>cD ho (λg F cs fz D=>(hty g _ _ _ D E).trans D);have hlen:es.length=(bY.di s.cm p.1 o).length:=by unfold bY.di;rw[aG];exact h.kE
 refine⟨⟨(hty r _ _ _ h.eb RZ).trans h.eb,O _ h.here,by rw[aX];exact S,(aX ..).trans hlen,λj q e G E=>?_,K RZ h.fresh,h.fr.kept p.1 o,K RZ h.b_,K RZ h.cE,K RZ h.runs,λg F=>O g (h.dK g F),h.apart,λe E g T=>?_,by rw[FX];exact h.nodup,λk D=>?_⟩,⟨hf.os,hf.tape,hf.output,hf.size,λk D hn=>hf.block k D (λe=>hn (by rw[e];exact h.dK gA (.inl F)))⟩⟩
 ·have G:(bY.di s.cm p.1 o)[j]?=some q:=G;rw[Bh]at G;by_cases P:i=j
  ·subst P;rw[Q]at G;have G:(p.1,{ p.2 with kept:=o })=q:=by simpa using G
   subst G;have am:i<es.length:=by rw[h.kE];exact(az.1 Q).1
   rw[P4 am]at E;obtain rfl:=aB E;refine⟨ak,(show ka w { p.2 with kept:=o } _ from av).st X,?_⟩;show KeptAt w' L' (if p.1∈rn' then none else o) _;rw[ae ao];exact ai
  rw[Qt P]at E;obtain⟨R,Z,aa⟩:=RW.1 G;have Y:=pJ h.nodup Q Z P;rw[ae (by simpa using Y)]at aa;subst aa;have M:=(h.pO j R e Z E).st (w':=w') (L':=L') (λg F _=>by
   obtain⟨cs,fz,hb⟩:=h.Bf e (aL E) g F;exact hty g _ _ _ hb RZ) X O
  refine⟨M.key,M.eY,?_⟩;have D:=M.kept;have U:=ap R.1 Y;by_cases I:R.1∈rn
  ·rw[ag I]at D;rw[ag (U.2 I)];exact D
  rw[ae I]at D;rw[ae (λh=>I (U.1 h))];exact D
 ·rcases Rm E with I|rfl
  ·exact h.eV e I g T
  exact ad g T
 rcases ab k D with D|⟨N,cs,fz,hb⟩
 ·by_cases V:k=gA
  ·subst V;obtain⟨cs,fz,hb⟩:=cz S F;exact⟨(h.ct k D).1,_,_,_,hb,.inr (.inl rfl)⟩
  obtain⟨N,cs,t,fz,hb,J⟩:=h.ct k D;exact⟨N,cs,t,fz,(hf.block k (cj hb) V).trans hb,J⟩
 exact⟨N,_,_,_,hb,.inr (.inr (.inl rfl))⟩
end
end Ref
end
section
namespace Ref
section
variable {w:QV} {j:Nat} {s:bY.LS} {rn:List (a_)} {L:Nat->Prop} {es:List En} {p:List (a_×bY.Wo)} {r B z C l:Xa}
def fW.Mb(h:fW w j s rn L es p r B z C l)(y:bY.qc){w1 w2:QV}{g cP:Nat}(E:Xb w w1)(G:w2.ownsRow 8 199 6 (.slice (some ⟨g,0,none⟩) (s.du.length+1) cP) (s.du.length+1) (s.du.flatMap dB++dB y))(F:w1.grownBy w2 l.ownBlock)(Q:l.ownBlock=some g\/g=w1.1.size)
  (hold:∀b,l.ownBlock=some b->∃cs fz,w2.1[b]?=some (.cells cs 199 fz)) :
  fW (w2.setCell ⟨j,5,none⟩ (.slice (some ⟨g,0,none⟩) (s.du.length+1) cP)) j { s with du:=s.du++[y] } rn (λk=>L k\/k=g) es p r B z C (.slice (some ⟨g,0,none⟩) (s.du.length+1) cP)/\(∀k,(L k\/k=g)->L k\/w.1.size<=k)/\ed L w (w2.setCell ⟨j,5,none⟩ (.slice (some ⟨g,0,none⟩) (s.du.length+1) cP))/\(∃v,w2.cell? ⟨j,5,none⟩=some v)/\w2.frozen? ⟨j,5,none⟩=false/\j<w2.1.size:=by
 have R:=cj h.eb;have S:l.ownBlock≠some j:=λe=>by
  obtain⟨cs,fz,hb⟩:=cz h.runs e;rw[h.eb]at hb;cases hb
 have J:∀k,k<w.1.size->l.ownBlock≠some k->w2.1[k]?=w.1[k]? := λk D K=>(F.block k (aA D E.size) (λe=>K e.symm)).trans (E.block k D);have I:w2.1[j]?=_:=(J _ R S).trans h.eb;have T:w.1.size<=w2.1.size:=ah E.size F.size;have M:∀k,k≠j->(w2.setCell ⟨j,5,none⟩ (.slice (some ⟨g,0,none⟩) (s.du.length+1) cP)).1[k]?=w2.1[k]? := λk D=>UI w2 ⟨j,5,none⟩ k _ D;have X:g≠j:=λe=>by
  rcases Q with h|h
  ·exact S (e▸h)
  have:=E.size;omega
 have hty:∀(k:Nat) (cs:Array Xa) (t:TypeId) (fz:Nat×Nat),w.1[k]?=some (.cells cs t fz)->t≠101->t≠199->(w2.setCell ⟨j,5,none⟩ (.slice (some ⟨g,0,none⟩) (s.du.length+1) cP)).1[k]?=w.1[k]? := λk cs t fz D h1 h2=>by
  refine(M k (fT D h.eb h1)).trans (J k (cj D) (λe=>?_));obtain⟨cs',Z,hb⟩:=cz h.runs e;rw[D]at hb;cases hb;exact h2 rfl
 have N:∀{t:TypeId} {m n:Nat} {u:Xa} {xs:List Xa},t≠101->t≠199->w.ownsRow 8 t m u n xs->(w2.setCell ⟨j,5,none⟩ (.slice (some ⟨g,0,none⟩) (s.du.length+1) cP)).ownsRow 8 t m u n xs:=λh1 h2 G=>cD G (λg F cs fz D=>(hty g _ _ _ D h1 h2).trans D);have Y:KN w (w2.setCell ⟨j,5,none⟩ (.slice (some ⟨g,0,none⟩) (s.du.length+1) cP)):=λk cs t fz D U=>(hty k cs t fz D (λe=>by rcases U with rfl|rfl<;>cases e) (λe=>by rcases U with rfl|rfl<;>cases e)).trans D;refine⟨h.turn (s':={ s with du:=s.du++[y] }) (L':=λk=>L k\/k=g) rfl Y (λe V k D=>?_) (λk D=>?_) (heap_setCell_same w2 j 5 _ _ _ I) (λk D=>.inl D) (N RZ RZ h.fresh) ⟨h.fr.dE,h.fr.len,h.fr.base⟩ (N RZ RZ h.b_) (N RZ RZ h.cE) ?_ (λk D=>?_) h.apart h.eV (λk D=>?_),λk D=>?_,⟨F.os.trans E.os,F.tape.trans E.tape,F.output.trans E.output,by simp;exact T,λk D K=>?_⟩,⟨_,by simp[World.cell?,I];rfl⟩,by simp[World.frozen?,I],aA R T⟩
 ·obtain⟨cs,fz,hb⟩:=h.Bf e V k D;exact hty k _ _ _ hb RZ RZ
 ·obtain⟨cs,fz,hb⟩:=cz h.all D;exact hty k _ _ _ hb RZ RZ
 ·show(w2.setCell _ _).ownsRow 8 _ 6 _ (s.du++[y]).length ((s.du++[y]).flatMap dB);rw[aj,Qf];exact cD (by simpa using G) (λk D cs fz hb=>by cases D;exact(M g X).trans hb)
 ·rcases D with D|D|D|D
  ·exact .inl (h.dK k (.inr (.inl D)))
  ·exact .inl (h.dK k (.inr (.inr (.inl D))))
  ·exact .inl (h.dK k (.inr (.inr (.inr (.inl D)))))
  cases D;exact .inr rfl
 ·by_cases P:k=j
  ·subst P;exact⟨(h.ct k h.here).1,_,_,_,heap_setCell_same w2 k 5 _ _ _ I,.inl rfl⟩
  rw[M k P];by_cases O:k=g
  ·subst O;obtain⟨cs,fz,hb⟩:=cz G rfl;exact⟨(UH G k rfl).1,cs,_,fz,hb,.inr (.inr (.inr (.inl rfl)))⟩
  rcases D with D|D
  ·by_cases hv:l.ownBlock=some k
   ·obtain⟨cs,fz,hb⟩:=hold k hv;exact⟨(h.ct k D).1,cs,_,fz,hb,.inr (.inr (.inr (.inl rfl)))⟩
   rw[J k (h.ct.lt D) hv];exact h.ct k D
  exact(O D).elim
 ·rcases D with D|rfl
  ·exact .inl D
  rcases Q with h1|h1
  ·exact .inl (h.dK k (.inr (.inr (.inr (.inr h1)))))
  rw[h1];exact .inr E.size
 exact(M k (λe=>K (e▸h.here))).trans (J k D (λe=>K (h.dK k (.inr (.inr (.inr (.inr e)))))))
end
def JE:(Tryz.prog.info? 199).map (λi=>(i.zero,i.size,i.bytes))=some (some (.agg #[.string ⟨#[]⟩,.string ⟨#[]⟩,.int .i64 0,.string ⟨#[]⟩,.int .i64 0,.string ⟨#[]⟩]),6,80):=RO
def OP:(Value.agg #[.string ⟨#[]⟩,.string ⟨#[]⟩,.int .i64 0,.string ⟨#[]⟩,.int .i64 0,.string ⟨#[]⟩]).cells.size=6:=RO
end Ref
end
section
namespace Ref
variable{c:Cx}{s:bY.LS}{L M:Nat->Prop}{f:Nat}
def FY(w:QV)(b:Xa):QV:=w.alloc (.cells #[b,.slice none 0 0,.int .i64 0,.slice none 0 0] 287)
def nJ(w:QV)(v:Xa):Xb w (FY w v):=(Uz _ w).alloc (af _) _
def JF{w:QV}(h:fA c.rb s c.rn w L)(m:c.qb=w.1.size)(y:wN w 8 c.JA c.ns):ES c s [] 400 (.slice none 0 0) (FY w c.JA) (λk=>L k\/k=w.1.size):=by
 have j:=nJ w c.JA;have l:(FY w c.JA).1[w.1.size]?=some (.cells #[c.JA,.slice none 0 0,.int .i64 0,.slice none 0 0] 287 (0,0)):=heap_alloc_new w _;have n:Typed w L:=by
  obtain⟨es,p,z,C,B,E,D,h⟩:=h;exact h.ct
 have r:8<=w.1.size:=by
  obtain⟨es,p,z,C,B,E,D,h⟩:=h;exact ah (h.ct _ h.here).1 (aE (h.ct.lt h.here))
 refine⟨L,.slice none 0 0,h.below j,λk e=>.inl e,.inr m,λhl=>?_,λg u=>(by cases u),λk e=>?_,by rw[m];exact l,af _,⟨rfl,.inl ⟨rfl,rfl⟩⟩,y.st (KN.below j)⟩
 ·have:=n.lt hl;omega
 rcases e with e|rfl
 ·obtain⟨a,cs,t,fz,b,d⟩:=n k e;exact⟨a,cs,t,fz,(j.block k (cj b)).trans b,d⟩
 exact⟨r,_,_,_,l,.inr (.inr (.inr (.inr (.inr rfl))))⟩
def FZ(w:QV)(M:Nat->Prop)(hf:f<=400):jF w M (.slice none 0 0) none f:=⟨[],⟨rfl,.inl ⟨rfl,rfl⟩⟩,λg b=>SK,by simpa using hf,λu hu=>(by cases hu)⟩
def ES.parts{nd:List (a_×bY.Wo)}{n:Xa}{w:QV}(h:ES c s nd f n w M):∃L b,fA c.rb s c.rn w L/\(∀k,L k->M k)/\w.cell? ⟨c.qb,1,none⟩=some b/\c.qb<w.1.size/\¬L c.qb/\(∀g,b.ownBlock=some g->M g/\¬L g)/\w.ownsRow 8 204 3 b nd.length (nd.flatMap eA):=by
 obtain⟨L,b,h1,h2,r,j,l,u,e,y,m,p⟩:=h;exact⟨L,b,h1,h2,by simp[World.cell?,e],cj e,j,l,m⟩
end Ref
end
section
open bY
namespace Ref
variable{j:a_}{r:Wo}{ns:List (a_×Wo)}{q:a_×Wo}{Q:Exit->Act->QV->Prop}{a:Act}{K:Act->QV->Prop}{ts:ba}
def F4{i:Nat}(b:ns[i]?=some q):dh j ⟨r,ns.take (i+1)⟩=dh j ⟨r,ns.take i⟩++[32]++q.1++[61]++gu q.2:=by
 unfold dh;simp only;rw[Q2,b,Option.toList_some,Qf];simp[gH]
def xW(i:Nat):(dh j ⟨r,ns.take i⟩).length<=(dh j ⟨r,ns⟩).length:=by
 unfold dh;simp only[aj,aM];have:((ns.take i).flatMap gH).length<=(ns.flatMap gH).length:=by
  conv=>rhs;rw[<-Q9 i ns,Qf,aj]
  omega
 omega
def Mc{P:Program}{C:Code}{w:QV}(h:C.wp P (ID (λa w=>Q .normal a w)) a w):C.wp P Q a w:=mE _ (λ_ _ h=>h) h
def F5{w:QV}(h:K a w):ID K .normal a w:=h
def NR{B:Nat}{a w:QV}(h:Below B a.drew w):Below B a w:=⟨h.os,h.tape,h.output,h.size,h.block⟩
def Md{w w1:QV}{u0 u1 u2 u3 u4 u5 u6:Xa}(e:Below (w.alloc (.cells #[u0,u1,u2,u3,u4,u5,u6] 168)).1.size (w.alloc (.cells #[u0,u1,u2,u3,u4,u5,u6] 168)) w1):w1.cell? ⟨w.1.size,0,none⟩=some u0/\w1.cell? ⟨w.1.size,4,none⟩=some u4/\w1.cell? ⟨w.1.size,5,none⟩=some u5/\w1.cell? ⟨w.1.size,6,none⟩=some u6/\w.1.size<w1.1.size/\Xb w w1:=by
 have l:=heap_alloc_new w (.cells #[u0,u1,u2,u3,u4,u5,u6] 168);have h:=(e.block _ (cj l)).trans l;have b:Xb w (w.alloc (.cells #[u0,u1,u2,u3,u4,u5,u6] 168)):=(Uz _ w).alloc (af _) _;exact⟨by simp[World.cell?,h],by simp[World.cell?,h],by simp[World.cell?,h],by simp[World.cell?,h],cj h,b.trans (e.mono b.size)⟩
def F6(w:QV)(j a5:a_)(eY:Xa)(kb:Bool)(np:Xa)(r:Wo)(ns:List (a_×Wo))(bz:eY.oneCell'=true)(hn:w.ownsRow 8 204 3 np ns.length (ns.flatMap eA))(hl:(dh j ⟨r,ns⟩).length<=100000000)(bx:ns.length<=1000){tc:Int}(ay:dw r=.agg #[.int .i64 tc,.string ts]):Calls Tryz.prog 116 #[.agg #[str j,str a5,eY,.bool kb,np,.int .i64 tc,.string ts]] w λe w'=>e=.returned (str (dh j ⟨r,ns⟩))/\Xb w w':=by
 obtain⟨oN,N,rfl⟩:=dP hn;have I:=λw=>xU r w;rw[ay]at I;obtain⟨G,a3⟩:∃x:ba,str (gu r)=.string x:=⟨_,rfl⟩;obtain⟨C,a0⟩:∃x:ba,str j=.string x:=⟨_,rfl⟩;obtain⟨xx,bo⟩:∃x:ba,str a5=.string x:=⟨_,rfl⟩;rw[a3]at I;rw[a0,bo];have Y:=bZ I;have h0:(dh j ⟨r,ns.take 0⟩).length<=100000000:=ah (xW 0) hl;have hb:str (dh j ⟨r,ns.take 0⟩)=.string (⟨#[107,101,101,112,32]⟩++C++⟨#[32]⟩++G):=by
  apply lF;rw[dD,dD,dD,fG a0,fG a3];simp[dh]
 have bm:(⟨#[107,101,101,112,32]⟩++C++⟨#[32]⟩++G:ba).size<=100000000:=by rw[UB,fG hb];exact h0
 have av:(⟨#[107,101,101,112,32]⟩++C++⟨#[32]⟩++G:ba).size=5+C.size+1+G.size:=by rw[P3,P3,P3];rfl
 have ab:(⟨#[107,101,101,112,32]⟩++C:ba).size=5+C.size:=SN;have ax:(⟨#[107,101,101,112,32]⟩++C++⟨#[32]⟩:ba).size=5+C.size+1:=by rw[P3,ab];rfl
 have bk:(⟨#[107,101,101,112,32]⟩:ba).size=5:=rfl;have bl:(⟨#[32]⟩:ba).size=1:=rfl;obtain⟨L,aa⟩:∃L,w.alloc (.cells #[.string C,.string xx,eY,.bool kb,.slice oN ns.length N,.int .i64 tc,.string ts] 168)=L:=⟨_,rfl⟩;have ad:=bZ (λ(w1:QV) (E:Xb L w1)=>Md (w:=w) (u0:=.string C) (u1:=.string xx) (u2:=eY) (u3:=.bool kb) (u4:=.slice oN ns.length N) (u5:=.int .i64 tc) (u6:=.string ts) (w1:=w1) (by rw[aa];exact E));have bg:C.size<=100000000:=RM;have bv:G.size<=100000000:=RM;have a8:=bZ aa;have HN:=bZ hn;have a6:=bZ hb;clear I ay hn hb bm h0 aa;go_enter Tryz.func116,Tryz.ntmps116
 go_upto_region 1 with fail
 go_cut [3]from 5 to 12 (λsv wx=>sv=.string (⟨#[107,101,101,112,32]⟩++C++⟨#[32]⟩++G)/\Hid (Xb L wx))
 case first =>
  go_region_with (first|(go_at_call 152;refine(Y.Z _).mono ?_;rintro e w1 ⟨rfl,bc⟩;have R:Xb L w1:=(by rw[<-a8.Z];exact NR bc);obtain⟨x0,x4,x5,x6,x7,-⟩:=ad.Z w1 R))
  all_goals
   go_wp2_with fail
   go_meet
   case rel=>exact⟨rfl,bZ (by first|exact R|exact R.drew|exact R.drew.drew)⟩
 case rest =>
  obtain⟨rfl,J⟩:=hcut;have ak:Hid (str (dh j ⟨r,ns.take 0⟩)=.string (⟨#[107,101,101,112,32]⟩++C++⟨#[32]⟩++G)):=a6;generalize (⟨#[107,101,101,112,32]⟩++C++⟨#[32]⟩++G:ba)=b0 at ak
  apply_assumption
  go_wp2_with fail
  go_loopw [3,4] (λsv iv wr=>∃(i:Nat) (b:ba),sv=.string b/\iv=.int .i64 (i:Int)/\i<=ns.length/\Hid (str (dh j ⟨r,ns.take i⟩)=.string b)/\Hid (Xb L wr)) (λ_ iv _=>ns.length-(intOf iv).toNat)
  case atStart=>exact⟨0,b0,rfl,rfl,au _,ak,J⟩
  case round =>
   obtain⟨i,b,rfl,rfl,hi,X,J⟩:=hrel;obtain⟨x0,x4,x5,x6,x7,ao⟩:=ad.Z wr J.Z;by_cases bh:i<ns.length
   ·have bf:(i:Int)<(ns.length:Int):=RM;have hq:=aq bh;generalize ns[i]=q at hq;have bd:wr.ownsRow 8 204 3 (.slice oN ns.length N) ns.length (ns.flatMap eA):=cD HN.Z (λg P cs fz hb=>(ao.block g (cj hb)).trans hb);obtain⟨D,bp,hv,P,hc⟩:=iI xS RZ bd hq;cases hv;obtain⟨U,V,aC⟩:=dG q.2;have bn:ei q.2=[.int .i64 U,.string V]:=by
     obtain⟨q1,q2⟩:=q;cases q2<;>(cases aC;rfl)
    obtain⟨B,a2⟩:∃x:ba,str q.1=.string x:=⟨_,rfl⟩;have bj:eA q=[.string B,.int .i64 U,.string V]:=by unfold eA;rw[bn,a2]
    rw[bj]at hc;have z0:=hc 0 _ rfl;have z1:=hc 1 _ rfl;have z2:=hc 2 _ rfl;simp only[Qc]at z0;obtain⟨M,a4⟩:∃x:ba,str (gu q.2)=.string x:=⟨_,rfl⟩;have I:=λw=>xU q.2 w;rw[aC,a4]at I;have Y:=bZ I;have ap:str (dh j ⟨r,ns.take (i+1)⟩)=.string (b++⟨#[32]⟩++B++⟨#[61]⟩++M):=by
     apply lF;rw[F4 hq,dD,dD,dD,dD,fG X.Z,fG a2,fG a4]
    have bw:(b++⟨#[32]⟩++B++⟨#[61]⟩++M:ba).size<=100000000:=by rw[UB,fG ap];exact ah (xW _) hl
    have av:(b++⟨#[32]⟩:ba).size=b.size+1:=SN;have ab:(b++⟨#[32]⟩++B:ba).size=b.size+1+B.size:=by rw[P3,av]
    have ax:(b++⟨#[32]⟩++B++⟨#[61]⟩:ba).size=b.size+1+B.size+1:=by rw[P3,ab];rfl
    have bk:(b++⟨#[32]⟩++B++⟨#[61]⟩++M:ba).size=b.size+1+B.size+1+M.size:=by rw[P3,ax]
    have bl:(⟨#[32]⟩:ba).size=1:=rfl;have bA:(⟨#[61]⟩:ba).size=1:=rfl;have bg:b.size+1+B.size+1+M.size<=100000000:=RM;have a7:=bZ ap;have ai:=bZ (λ(w1:QV) (E:Xb wr w1)=>show w1.cell? ⟨w.1.size,4,none⟩=some (.slice (some ⟨D,0,none⟩) ns.length N)/\w1.cell? ⟨D,i*3,none⟩=some (.string B)/\w1.cell? ⟨D,i*3+1,none⟩=some (.int .i64 U)/\w1.cell? ⟨D,i*3+2,none⟩=some (.string V)/\D<w1.1.size/\w.1.size<w1.1.size from⟨(E.cell (p:=⟨w.1.size,4,none⟩) x7).trans x4,(E.cell (p:=⟨D,i*3,none⟩) P).trans z0,(E.cell (p:=⟨D,i*3+1,none⟩) P).trans z1,(E.cell (p:=⟨D,i*3+2,none⟩) P).trans z2,aA P E.size,aA x7 E.size⟩)
    go_upto_region 5 with fail
    have bq:¬9223372036854775807<b.size+1:=RM;have br:¬9223372036854775807<b.size+1+B.size:=RM;have bt:¬9223372036854775807<b.size+1+B.size+1:=RM;have bu:¬9223372036854775807<b.size+1+B.size+1+M.size:=RM;obtain⟨y1,y2,y3,y4,y5,y6⟩:=ai.Z wr (Uz _ _);have m:=And.intro y1 (And.intro y2 (And.intro y3 y4));clear y1 y2 y3 y4 y5 y6;refine Mc ?_;refine wp_region_held_drew (S:=λw'=>w'.cell? ⟨w.1.size,4,none⟩=some (.slice (some ⟨D,0,none⟩) ns.length N)/\w'.cell? ⟨D,i*3,none⟩=some (.string B)/\w'.cell? ⟨D,i*3+1,none⟩=some (.int .i64 U)/\w'.cell? ⟨D,i*3+2,none⟩=some (.string V)) RO m (λhHeld=>?_);refine wpAnyH_take (i:=0) (v:=?_) rfl RO RO RO (λ_ _ _ h=>h) (Or.inl ⟨by kernel_rfl,?_⟩) m ?_
    rotate_left
    ·intro w' l;obtain⟨n,u,y,z⟩:=l;go_simp
     try with_reducible rfl
    simp only[Act.put,ar,Xc,Xd];refine wpAnyH_take (i:=1) (v:=?_) rfl RO RO RO (λ_ _ _ h=>h) (Or.inl ⟨by kernel_rfl,?_⟩) m ?_
    rotate_left
    ·intro w' l;obtain⟨n,u,y,z⟩:=l;go_simp
     try with_reducible rfl
    simp only[Act.put,ar,Xc,Xd];refine wpAnyH_take (i:=2) (v:=?_) rfl RO RO RO (λ_ _ _ h=>h) (Or.inl ⟨by kernel_rfl,?_⟩) m ?_
    rotate_left
    ·intro w' l;obtain⟨n,u,y,z⟩:=l;go_simp
     try with_reducible rfl
    simp only[Act.put,ar,Xc,Xd];refine wpAnyH_take (i:=3) (v:=?_) rfl RO RO RO (λ_ _ _ h=>h) (Or.inl ⟨by kernel_rfl,?_⟩) m ?_
    rotate_left
    ·intro w' l;obtain⟨n,u,y,z⟩:=l;go_simp
     try with_reducible rfl
    simp only[Act.put,ar,Xc,Xd];refine wpAnyH_take (i:=4) (v:=?_) rfl RO RO RO (λ_ _ _ h=>h) (Or.inl ⟨by kernel_rfl,?_⟩) m ?_
    rotate_left
    ·intro w' l;obtain⟨n,u,y,z⟩:=l;go_simp
     try with_reducible rfl
    simp only[Act.put,ar,Xc,Xd];refine wpAnyH_take (i:=5) (v:=?_) rfl RO RO RO (λ_ _ _ h=>h) (Or.inl ⟨by kernel_rfl,?_⟩) m ?_
    rotate_left
    ·intro w' l;obtain⟨n,u,y,z⟩:=l;go_simp
     try with_reducible rfl
    simp only[Act.put,ar,Xc,Xd];refine wpAnyH_take (i:=6) (v:=?_) rfl RO RO RO (λ_ _ _ h=>h) (Or.inl ⟨by kernel_rfl,?_⟩) m ?_
    rotate_left
    ·intro w' l;obtain⟨n,u,y,z⟩:=l;go_simp
     try with_reducible rfl
    simp only[Act.put,ar,Xc,Xd];refine wpAnyH_take (i:=7) (v:=?_) rfl RO RO RO (λ_ _ _ h=>h) (Or.inl ⟨by kernel_rfl,?_⟩) m ?_
    rotate_left
    ·intro w' l;obtain⟨n,u,y,z⟩:=l;go_simp
     try with_reducible rfl
    simp only[Act.put,ar,Xc,Xd];refine wpAnyH_take (i:=8) (v:=?_) rfl RO RO RO (λ_ _ _ h=>h) (Or.inl ⟨by kernel_rfl,?_⟩) m ?_
    rotate_left
    ·intro w' l;obtain⟨n,u,y,z⟩:=l;go_simp
     try with_reducible rfl
    simp only[Act.put,ar,Xc,Xd];refine wpAnyH_take (i:=9) (v:=?_) rfl RO RO RO (λ_ _ _ h=>h) (Or.inl ⟨by kernel_rfl,?_⟩) m ?_
    rotate_left
    ·intro w' l;obtain⟨n,u,y,z⟩:=l;go_simp
     try with_reducible rfl
    simp only[Act.put,ar,Xc,Xd];refine wpAnyH_take (i:=10) (v:=?_) rfl RO RO RO (λ_ _ _ h=>h) (Or.inl ⟨by kernel_rfl,?_⟩) m ?_
    rotate_left
    ·intro w' l;obtain⟨n,u,y,z⟩:=l;go_simp
     try with_reducible rfl
    simp only[Act.put,ar,Xc,Xd];refine wpAnyH_take (i:=11) (v:=?_) rfl RO RO RO (λ_ _ _ h=>h) (Or.inl ⟨by kernel_rfl,?_⟩) m ?_
    rotate_left
    ·intro w' l;obtain⟨n,u,y,z⟩:=l;go_simp
     try with_reducible rfl
    simp only[Act.put,ar,Xc,Xd];refine wpAnyH_take (i:=12) (v:=?_) rfl RO RO RO (λ_ _ _ h=>h) (Or.inl ⟨by kernel_rfl,?_⟩) m ?_
    rotate_left
    ·intro w' l;obtain⟨n,u,y,z⟩:=l;go_simp
     try with_reducible rfl
    simp only[Act.put,ar,Xc,Xd];refine wpAnyH_take (i:=13) (v:=?_) rfl RO RO RO (λ_ _ _ h=>h) (Or.inl ⟨by kernel_rfl,?_⟩) m ?_
    rotate_left
    ·intro w' l;obtain⟨n,u,y,z⟩:=l;go_simp
     try with_reducible rfl
    simp only[Act.put,ar,Xc,Xd];refine wpAnyH_take (i:=14) (v:=?_) rfl RO RO RO (λ_ _ _ h=>h) (Or.inl ⟨by kernel_rfl,?_⟩) m ?_
    rotate_left
    ·intro w' l;obtain⟨n,u,y,z⟩:=l;go_simp
     try with_reducible rfl
    simp only[Act.put,ar,Xc,Xd];refine wpAnyH_take (i:=15) (v:=?_) rfl RO RO RO (λ_ _ _ h=>h) (Or.inl ⟨by kernel_rfl,?_⟩) m ?_
    rotate_left
    ·intro w' l;obtain⟨n,u,y,z⟩:=l;go_simp
     try with_reducible rfl
    simp only[Act.put,ar,Xc,Xd];refine wpAnyH_ready (rs:=[16]) RO R2 ?_;refine AllReadyH.cons rfl (λK F=>?_) AllReadyH.nil;go_simp;refine(Y.Z _).mono ?_;rintro e w4⟨rfl,am⟩;have Z:=((Uz _ wr).drew).trans am;have O:=ai.Z w4 Z;have T:=And.intro O.1 (And.intro O.2.1 (And.intro O.2.2.1 O.2.2.2.1));refine F.out _ _ T (λ_=>?_);clear F;refine wpAnyH_ready (rs:=[17]) RO R2 ?_;refine AllReadyH.cons rfl (λK F=>?_) AllReadyH.nil;go_simp;refine F.out _ _ T (λ_=>?_);clear F;refine wpAnyH_ready (rs:=[18]) RO R2 ?_;refine AllReadyH.cons rfl (λK F=>?_) AllReadyH.nil;go_simp;refine F.out _ _ T (λ_=>?_);clear F;refine wpAnyH_done RO ?_ _;refine F5 ?_;have a9:=bZ (J.Z.trans (Z.mono J.Z.size));clear hHeld O T m am Z
    apply_assumption
    go_wp2_with fail;refine⟨⟨_,_,_,_,_,_,_,_,_,_,_,_,_,_,_,_,_,_,_,_,_,_,_,_,_,_,_,?hshape,rfl⟩,?hless⟩
    case hless=>simp[intOf];omega
    case hshape =>
     exact⟨i+1,_,rfl,by go_num,by omega,a7,a9⟩
   have bf:¬(i:Int)<(ns.length:Int):=RM;have HE:Hid (str (dh j ⟨r,ns⟩)=.string b):=bZ (by rw[<-X.Z,Qb RM]);clear X J;go_wp2_with fail;go_ret;exact⟨by rw[HE.Z];rfl,ao⟩
end Ref
end
section
open bY
namespace Ref
variable{b i:Nat}{s:LS}{rn:List (a_)}{L:Nat->Prop}{j:List (a_×Wo)}{p:a_×cu}
def fW.below{w w':QV}{es:List En}{l n m u r:Xa}(h:fW w b s rn L es j l n m u r)(e:Xb w w'):fW w' b s rn L es j l n m u r :=h.st (λk y=>e.block k (h.ct.lt y)) (KN.below e)
def Me(b:Nat)(s:LS)(rn:List (a_))(i:Nat)(r:Wo)(w:QV)(L:Nat->Prop):Prop :=∃es j l n m y u,fW w b s rn L es j l n m y u/\∃e,es[i]?=some e/\e.w=r
def Me.at{r:Wo}{w:QV}(h:Me b s rn i r w L):fA b s rn w L:=by
 obtain⟨es,j,e,m,l,u,n,h,_⟩:=h;exact⟨es,j,e,m,l,u,n,h⟩
def fA.dQ{w:QV}{kp:fM}(h:fA b s rn w L)(y:s.cm[i]?=some p)(u:p.1∉rn)(r:p.2.kept=some kp):Me b s rn i kp.dQ w L:=by
 obtain⟨es,j,z,C,B,E,D,h⟩:=h;obtain⟨e,g,F,h1,h2,_⟩:=h.entry y;refine⟨es,j,z,C,B,E,D,h,e,h1,?_⟩;have m:=h2.kept;rw[ae u,r]at m;rcases m with⟨l,_⟩|⟨G,l,_,n,_⟩
 ·cases l
 cases l;exact n
def xX(w:QV)(b:Nat)(s:LS)(rn:List (a_))(L:Nat->Prop)(t:ba){es:List En}{D r n y u:Xa}(h:fW w b s rn L es j D r n y u)(S:t.size<=100000000000000000)(hj:(cW s.jr).length<=1000000000000000000):Calls Tryz.prog 105 #[ptr b,.string t] w λe w'=>e=.returned (.tuple #[])/\fW w' b (s.write t.1.1) rn L es j D r n y u/\ed L w w':=by
 obtain⟨K,c1,c2,M,N,O,cf⟩:=h.cells;have R:=cj h.eb;obtain⟨l,B⟩:∃l:ba,str (cW s.jr)=.string l:=⟨_,rfl⟩;have z:=fG B;have Q:l.size<=1000000000000000000:=by rw[UB,z];exact hj
 obtain⟨x,hx⟩:∃x:ba,str (bY.line t.1.1)=.string x:=⟨_,rfl⟩;have C:=fG hx;have T:x.size=t.size+10:=by rw[UB,C];rw[lY,UB]
 have m:=h.cellOf (s':=s.write t.1.1) 1 (str (cW s.jr++bY.line t.1.1)) (vF':=r) (vB':=n) (vR':=y) (vN':=u) (fl':=j) rfl (by rw[show(s.write t.1.1).jr=s.jr++[t.1.1]from rfl,eN];rfl) h.fresh ⟨h.fr.dE,h.fr.len,h.fr.base⟩ h.b_ h.cE h.runs (λg I=>h.dK g (.inr I)) h.apart h.eV;have E:str (cW s.jr++bY.line t.1.1)=.string (l++x):=by
  apply lF;rw[dD,z,C]
 rw[E]at m;rw[B]at c1;have HL:=bZ (λw=>xT t w RM);rw[hx]at HL;have G:=bZ (show fW (w.setCell ⟨b,1,none⟩ (.string (l++x))).drew b (s.write t.1.1) rn L es j D r n y u/\ed L w (w.setCell ⟨b,1,none⟩ (.string (l++x))).drew from⟨m.1.below (Uz _ _).drew,m.2.trans (ed.below (Uz _ _).drew) (λk J=>.inl J)⟩);have P:¬9223372036854775807<l.size+x.size:=RM;clear h m E z B hx C hj;unfold ptr;go_enter Tryz.func105,Tryz.ntmps105;go_wp2_with fail
 go_region_with (first|(go_at_call 148;refine(HL.Z _).mono ?_;rintro e w' ⟨rfl,F⟩;obtain rfl:=F.symm;clear F))
 all_goals
  go_wp2_with fail
  go_end0
  exact⟨rfl,G.Z⟩
end Ref
end
section
namespace Ref
section
variable {w:QV} {n:Nat} {s:bY.LS} {rn:List (a_)} {L:Nat->Prop} {es:List En} {m:List (a_×bY.Wo)} {E z y C B:Xa} {g D:Nat} {i:Nat} {p:a_×bY.cu} {e:En}
def Eh{rn:List (a_)}{a:a_}:∀k,k≠a->(k∈rn↔k∈a :: rn):=λk b=>by simp[b]
def fW.OQ(h:fW w n s (p.1 :: rn) L es m (.slice (some ⟨g,0,none⟩) es.length D) z y C B)(J:s.cm[i]?=some p)(G:es[i]?=some e)(N:p.1∉rn){np:Xa}{ns:List (a_×bY.Wo)}(M:w.ownsRow 8 204 3 np ns.length (ns.flatMap eA))(I:∀k,np.ownBlock=some k->¬L k)(hl:ns.length<=401):fW ((w.setCell ⟨g,i*7+3,none⟩ (.bool true)).setCell ⟨g,i*7+4,none⟩ np) n { s with cm:=bY.di s.cm p.1 (some ⟨e.w,ns⟩) } rn (λk=>L k\/np.ownBlock=some k) (es.set i { e with kept:=true,np:=np }) m (.slice (some ⟨g,0,none⟩) es.length D) z y C B/\ed L w ((w.setCell ⟨g,i*7+3,none⟩ (.bool true)).setCell ⟨g,i*7+4,none⟩ np):=by
 have F:=h.pO i p e J G;obtain⟨a1,r⟩:=Bg (i:=i) h.all G (e':={ e with kept:=true,np:=np }) (j:=3) (k:=4) (u:=.bool true) (v:=np) RZ RZ rfl ⟨{ e with kept:=true },rfl⟩;have K:L g:=h.dK g (.inl rfl);have l:((w.setCell ⟨g,i*7+3,none⟩ (.bool true)).setCell ⟨g,i*7+4,none⟩ np).ownsRow 8 204 3 np ns.length (ns.flatMap eA):=cD M (λk b cs fz hb=>(r.block k (cj hb) (λe=>I k b (by rw[e];exact K))).trans hb);refine h.Ef (e':={ e with kept:=true,np:=np }) rfl r J a1 (some ⟨e.w,ns⟩) (λk b=>.inl b) (λk b=>?_) Eh N F.key F.eY (.inr ⟨⟨e.w,ns⟩,rfl,rfl,rfl,l,λk b=>.inr b,hl⟩) (λk b hF=>I k b (h.dK k (.inr (.inl hF))));rcases b with b|b
 ·exact .inl b
 obtain⟨cs,fz,hb⟩:=cz l b;exact .inr ⟨(UH l k b).1,cs,fz,hb⟩
def kF{α:Type}:∀(l:List α) (i:Nat) (a:α),l[i]?=some a->l.set i a=l
 |[],i,a,h=>by cases h
 |b :: l,0,a,h=>by cases h;rfl
 |b :: l,i+1,a,h=>by rw[Xd,kF l i a h]
def fW.NS(h:fW w n s (p.1 :: rn) L es m E z y C B)(u:s.cm[i]?=some p)(F:p.1∉rn):fW w n { s with cm:=bY.di s.cm p.1 none } rn L es m E z y C B:=by
 obtain⟨e,g,D,l,j,hv,G,_⟩:=h.entry u;have b:=j.kept;rw[ag R2]at b;have r:=(h.Ef (gA:=g) (e':=e) (rn':=rn) (L':=L) (by rw[hv];rfl) (ed.refl _ _) u (by rw[kF es i e l];exact h.all) none (λ_ h=>h) (λk b=>.inl b) Eh F j.key j.eY b (λk b=>h.eV e (aL l) k b)).1;rw[kF es i e l]at r;exact r
def zv{h:List (a_×bY.cu)}{o:Option bY.fM}(hd:(h.map (·.1)).Nodup)(l:h[i]?=some p)(r:p.2.kept=o):bY.di h p.1 o=h:=by
 apply Rf;intro j;rw[Bh];by_cases b:i=j
 ·subst b;rw[l];obtain⟨k,th⟩:=p;subst r;simp
 cases F:h[j]? with
 |none=>rfl
 |some q =>
  have u:=pJ hd l F b;simp[u]
end
def xY{h h':List (a_×bY.cu)}(e:bY.cX h'=bY.cX h){i:Nat}{p:a_×bY.cu}(j:h[i]?=some p):∃p',h'[i]?=some p'/\p'.1=p.1/\p'.2.dc=p.2.dc:=by
 have h1:=congrArg (λl=>l[i]?) e;unfold bY.cX at h1;simp only[P2,j]at h1;cases b:h'[i]? with
 |none=>rw[b]at h1;cases h1
 |some q =>
  rw[b]at h1;have h2:=aB h1;exact⟨q,rfl,congrArg (λr=>r.1) h2,congrArg (λr=>r.2.dc) h2⟩
end Ref
end
section
namespace mK
variable{hs:List (Xa×Nat×Nat)}{H:Nat->Prop}{p:Xa×Nat×Nat}
def N3(p:Xa×Nat×Nat):(qq p).length=2:=rfl
def kc.cells{w:QV}{r:Nat}{m n j:Xa}{N:Nat}(h:kc w r m n j N hs H){i:Nat}(l:hs[i]?=some p):∃g b,j=.slice (some ⟨g,0,none⟩) hs.length b/\g<w.1.size/\w.cell? ⟨g,i*2,none⟩=some p.1/\w.cell? ⟨g,i*2+1,none⟩=some (.int .i64 (p.2.2:Int)):=by
 obtain⟨g,b,h1,h2,e⟩:=Ref.iI N3 RZ h.row l;exact⟨g,b,h1,h2,e 0 _ rfl,e 1 _ rfl⟩
def Mz(w:QV)(m:Nat)(vL vR S:Xa)(N:Nat)(hs:List (Xa×Nat×Nat))(H:Nat->Prop)(h:kc w m vL vR S N hs H)(hN:N<=100000000)(ax:hs.length<=1000000000):Calls Tryz.prog 43 #[.pointer (some ⟨m,2,none⟩)] w λe w'=>e=.returned (.bool true)/\Xb w w':=by
 obtain⟨oN,cN,ao⟩:∃o c,S=.slice o hs.length c:=by
  rcases h.row.2 with⟨e,y⟩|⟨g,L,aa,e,_⟩
  ·exact⟨none,0,by rw[y];exact e⟩
  exact⟨_,_,e⟩
 subst ao;have J:=bZ h;have n:=λ(wr:QV) (l:Xb w wr)=>(h.below l).eb;have V:=bZ (show ∀wr,Xb w wr->wr.cell? ⟨m,3,none⟩=some (.slice oN hs.length cN)/\wr.cell? ⟨m,4,none⟩=some (.slice none 0 0)/\wr.cell? ⟨m,5,none⟩=some (.slice none 0 0)/\m<wr.1.size from λwr l=>⟨by have:=n wr l;simp[World.cell?,this],by have:=n wr l;simp[World.cell?,this],by have:=n wr l;simp[World.cell?,this],cj (n wr l)⟩);clear h n;go_enter Tryz.func43,Tryz.ntmps43;go_wp2_with fail
 go_loopw [3] (λiv wr=>∃i:Nat,iv=.int .i64 (i:Int)/\i<=hs.length/\Hid (Xb w wr)) (λiv _=>hs.length-(intOf iv).toNat)
 case atStart=>exact⟨0,rfl,au _,bZ (Uz _ _)⟩
 case round =>
  obtain⟨i,rfl,hi,j⟩:=hrel;obtain⟨X,Y,Z,c6⟩:=V.Z wr j.Z;by_cases ai:i<hs.length
  ·have ab:(i:Int)<(hs.length:Int):=RM;have z:=aq ai;generalize hs[i]=p at z;have P:=aL z;obtain⟨g,L,hv,hg,T,U⟩:=(J.Z.below j.Z).cells z;cases hv;obtain⟨pv,b,r⟩:=p;obtain⟨e1,e2,e3⟩:=J.Z.each _ P;simp only at T U e1 e2 e3;obtain⟨op,M,am⟩:∃o c,pv=.slice o b c:=by
    rcases e1.2 with⟨e,y⟩|⟨g,L,aa,e,_⟩
    ·rw[gQ]at y;exact⟨none,0,by rw[y];exact e⟩
    rw[gQ]at e;exact⟨_,_,e⟩
   subst am;obtain⟨xm,E⟩:∃x:ba,str (kG r)=.string x:=⟨_,rfl⟩;have D:=λw=>Bs r w RM;rw[E]at D;have K:=bZ D;have I:=bZ (And.intro e1 E);clear D e1 E z P
   go_upto_region 6 with(go_at_call 79;refine(K.Z _).mono ?_;rintro e w1 ⟨rfl,B⟩)
   have O:Xb w w1:=(j.Z.alloc j.Z.size _).trans (B.mono (j.Z.alloc j.Z.size _).size);have C:=(B.block wr.1.size R2).trans (heap_alloc_new wr (.cells #[.slice op b M,.int .i64 (r:Int)] 158));have z0:w1.cell? ⟨wr.1.size,0,none⟩=some (.slice op b M):=by simp[World.cell?,C]
   have z1:=cj C;have G:=bZ O;clear C B O K T U X Y Z c6 hg;go_wp2_with fail
   go_loopw [6] (λF u=>∃k:Nat,F=.int .i64 (k:Int)/\k<=b/\w1=u) (λF _=>b-(intOf F).toNat)
   case atStart=>exact⟨0,rfl,au _,rfl⟩
   case round =>
    obtain⟨k,rfl,hk,rfl⟩:=hrel;by_cases ak:k<b
    ·have ad:(k:Int)<(b:Int):=RM;have Q:(marks b r)[k]?=some (kG r):=by unfold marks;rw[List.getElem?_replicate,ag ak]
     obtain⟨g2,ap,R,_,av,x0⟩:=nM (jj I.Z.1 G.Z) Q;rw[gQ]at R;cases R;rw[I.Z.2]at x0;clear Q;go_wp2_with fail;refine⟨⟨k+1,by go_num,by omega,by first|rfl|trivial⟩,?_⟩;simp[intOf];omega
    have ad:¬(k:Int)<(b:Int):=RM;go_wp2_with fail;refine⟨⟨i+1,by go_num,by omega,G⟩,?_⟩;simp[intOf];omega
  have ab:¬(i:Int)<(hs.length:Int):=RM;go_wp2_with fail
  go_loopw [7] (λiv u=>iv=.int .i64 0/\wr=u) (λ_ _=>0)
  case atStart=>exact⟨rfl,rfl⟩
  case round =>
   obtain⟨rfl,rfl⟩:=hrel;go_wp2_with fail
   go_loopw [11] (λiv u=>iv=.int .i64 0/\wr=u) (λ_ _=>0)
   case atStart=>exact⟨rfl,rfl⟩
   case round =>
    obtain⟨rfl,rfl⟩:=hrel;go_wp2_with fail;go_ret;exact⟨rfl,j.Z⟩
end mK
end
