/- Out of B5. -/
import Derived.Test.YtpekpdimdelncaaGreatDoorP25
set_option linter.unusedVariables false
set_option linter.unusedSimpArgs false
set_option maxRecDepth 100000
set_option maxHeartbeats 4000000
set_option linter.defProp false
namespace Go.Proofs.YtpekpdimdelncaaGreatDoor
open Go.RowKit Go.Shelf
section
namespace Ref
def pZ{h:List (a_×bY.cC)}(hd:(h.map (·.1)).Nodup){i j:Nat}{p q:a_×bY.cC}(F:h[i]?=some p)(G:h[j]?=some q)(E:i≠j):q.1≠p.1:=λe=>by
 obtain⟨hi,rfl⟩:=aA.1 F;obtain⟨n,rfl⟩:=aA.1 G;have u:=List.pairwise_iff_getElem.1 hd;rcases Nat.lt_or_gt_of_ne E with m|m
 ·exact u i j Tt T6 m (by simpa using e.symm)
 exact u j i T6 Tt m T'
section
variable {w w':Xa}{y:Nat}{s:bY.LS}{rn rn':List (a_)}{L:Nat->Prop}{l es':List En}{z:List (a_×bY.Wo)}{b r B D C:Xb}
def gj.P5(h:gj w y s rn L l z b r B D C){gA:Nat}(J:b.ownBlock=some gA)(E:eu (λk=>k=gA) w w')(N:w'.ownsRow 8 168 7 b es'.length (es'.flatMap En.cells))(T:es'.length=l.length)(U:∀(i:Nat) (p:a_×bY.cC) (e),s.ct[i]?=some p->es'[i]?=some e->pB w' L rn' p e)(R:∀e∈es',∀g,e.np.ownBlock=some g->r.ownBlock≠some g):gj w' y s rn' L es' z b r B D C/\eu L w w':=by
 obtain⟨Y,Z,Q⟩:=cE h.all J;have hty:∀(k:Nat) (F:Array Xb) (t:TypeId) (G:Nat×Nat),w.1[k]?=some (.cells F t G)->t≠168->w'.1[k]?=w.1[k]? := λk F t G j M=>E.block k (cj j) (fB j Q M);have K:∀{t:TypeId}{m n:Nat}{u:Xb}{xs:List Xb},t≠168->w.ownsRow 8 t m u n xs->w'.ownsRow 8 t m u n xs:=λS X=>cJ X (λg J F G j=>(hty g _ _ _ j S).trans j);refine⟨⟨(hty y _ _ _ h.eb S4).trans h.eb,h.here,N,T.trans h.jN,U,K S4 h.fresh,h.fr,K S4 h.cm,K S4 h.cY,K S4 h.runs,h.dQ,h.apart,R,h.nodup,λk j=>?_⟩,⟨E.os,E.tape,E.output,E.size,λk j V=>E.block k j (λe=>V (by rw[e];exact h.dQ gA (.inl J)))⟩⟩;by_cases O:k=gA
 ·subst O;obtain⟨F,G,I⟩:=cE N J;exact⟨(h.cz k j).1,_,_,_,I,.inr (.inl rfl)⟩
 obtain⟨P,F,t,G,I,M⟩:=h.cz k j;exact⟨P,F,t,G,(E.block k (cj I) O).trans I,M⟩
def gj.Ku(h:gj w y s rn L l z b r B D C){gA:Nat}(G:b.ownBlock=some gA)(O:eu (λk=>k=gA) w w'){i:Nat}{p:a_×bY.cC}{e':En}(K:s.ct[i]?=some p)(T:w'.ownsRow 8 168 7 b l.length ((l.set i e').flatMap En.cells))
  (aa:∀k,k≠p.1->(k∈rn'↔k∈rn)) (Y:e'.key=p.1) (ab:km w p.2 e') (X:KeptAt w' L (if p.1∈rn' then none else p.2.kept) e') (U:∀g,e'.np.ownBlock=some g->r.ownBlock≠some g):gj w' y s rn' L (l.set i e') z b r B D C/\eu L w w':=by
 obtain⟨ad,ai,S⟩:=cE h.all G;have hty:∀(k:Nat) (E:Array Xb) (t:TypeId) (F:Nat×Nat),w.1[k]?=some (.cells E t F)->t≠168->w'.1[k]?=w.1[k]? := λk E t F m N=>O.block k (cj m) (fB m S N);have R:KN w w':=λk E t F m N=>(hty k E t F m (λe=>by rcases N with rfl|rfl<;>cases e)).trans m;refine h.P5 G O (by rw[aY];exact T) (aY ..) (λj q e M n=>?_) (λe n g P=>?_)
 ·by_cases J:i=j
  ·subst J;obtain rfl:p=q:=aB (K.symm.trans M);have Z:i<l.length:=by rw[h.jN];exact(aA.1 K).1
   rw[Q8 Z]at n;obtain rfl:=aB n;exact⟨Y,ab.st R,X⟩
  rw[RG J]at n;have I:=(h.p6 j q e M n).st (w':=w') (L':=L) (λg G _=>by
   obtain⟨E,F,V⟩:=h.BW e (aJ n) g G;exact hty g _ _ _ V S4) R (λ_ h=>h)
  refine⟨I.key,I.fc,?_⟩;have m:=I.kept;have Q:=aa q.1 (pZ h.nodup K M J);by_cases u:q.1∈rn
  ·rw[ag u]at m;rw[ag (Q.2 u)];exact m
  rw[ae u]at m;rw[ae (λh=>u (Q.1 h))];exact m
 rcases SG n with u|rfl
 ·exact h.fe e u g P
 exact U g P
end
end Ref
namespace Ref
def i_{w:Xa}{e:TypeId}{m n g C:Nat}{xs:List Xb}(h:w.ownsRow 8 e m (.slice (some ⟨g,0,none⟩) n C) n xs)(i v):(w.setCell ⟨g,i,none⟩ v).ownsRow 8 e m (.slice (some ⟨g,0,none⟩) n C) n (xs.set i v)/\eu (λk=>k=g) w (w.setCell ⟨g,i,none⟩ v):=by
 refine⟨⟨by rw[aY];exact h.1,?_⟩,⟨rfl,rfl,rfl,by simp,λk N z=>VU w ⟨g,i,none⟩ k _ z⟩⟩;rcases h.2 with⟨h1,_⟩|⟨M,F,b,h1,h2,j,l,r,u,y⟩
 ·cases h1
 cases h1;refine .inr ⟨g,C,b.setIfInBounds i v,rfl,h2,Go.heap_setCell_same w g i b e v j,l,r,by rw[Array.size_setIfInBounds];exact u,?_⟩;rw[Array.toList_setIfInBounds,List.take_set,y]
def wJ{α:Type}(F m)(hF:∀a,(F a).length=m):∀(l:List α) (k) (a b) (j) (u:Xb),l[k]?=some a->j<m->F b=(F a).set j u->(l.set k b).flatMap F=(l.flatMap F).set (k*m+j) u
 |[],k,a,b,j,u,h,_,_=>by cases h
 |e::r,0,a,b,j,u,h,y,n=>by
  have h:e=a:=aB h;subst h;rw[Xd,Q7,Q7,RY,aG,Tf _ _ (by rw[hF];exact y),n]
 |e::r,k+1,a,b,j,u,h,y,n=>by
  have M:=hF e;have z:(k+1)*m+j-(F e).length=k*m+j:=by rw[Sl];omega
  rw[Xe,Q7,Q7,SH _ _ (by rw[Sl];omega),z,wJ F m hF r k a b j u h y n]
def yw:∀(l:List En) (k) (a b) (u v),l[k]?=some a->b.cells=(a.cells.set 5 u).set 6 v->(l.set k b).flatMap En.cells=((l.flatMap En.cells).set (k*7+5) u).set (k*7+6) v
 |[],k,a,b,u,v,h,_=>by cases h
 |e::r,0,a,b,u,v,h,j=>by
  have h:e=a:=aB h;subst h;have m:=nZ e;rw[Xd,Q7,Q7,RY,aG,aG,Tf _ _ R5,Tf _ _ (by rw[aY];omega),j]
 |e::r,k+1,a,b,u,v,h,j=>by
  have m:=nZ e;have n:(k+1)*7+5-e.cells.length=k*7+5:=R5;have y:(k+1)*7+6-e.cells.length=k*7+6:=R5;rw[Xe,Q7,Q7,SH _ _ R5,n,SH _ _ R5,y,yw r k a b u v h j]
def ja{g:Nat}{a b c:Xa}(h:eu (λk=>k=g) a b)(j:eu (λk=>k=g) b c):eu (λk=>k=g) a c:=h.trans j (λk l=>.inl l)
section
variable {w:Xa}{E:Nat}{s:bY.LS}{rn:List (a_)}{L:Nat->Prop}{B:List En}{D:List (a_×bY.Wo)}{I G K J:Xb}{g C:Nat}{i:Nat}{p:a_×bY.cC}{e:En}
def BX(h:w.ownsRow 8 168 7 (.slice (some ⟨g,0,none⟩) B.length C) B.length (B.flatMap En.cells))(l:B[i]?=some e){e':En}{j k:Nat}{u v:Xb}(y:j<7)(z:k<7)(r:e'.cells=(e.cells.set j u).set k v)(M:∃b:En,b.cells=e.cells.set j u):((w.setCell ⟨g,i*7+j,none⟩ u).setCell ⟨g,i*7+k,none⟩ v).ownsRow 8 168 7 (.slice (some ⟨g,0,none⟩) B.length C) B.length ((B.set i e').flatMap En.cells)/\eu (λk=>k=g) w ((w.setCell ⟨g,i*7+j,none⟩ u).setCell ⟨g,i*7+k,none⟩ v):=by
 obtain⟨b,h1⟩:=M;obtain⟨m,n⟩:=i_ h (i*7+j) u;obtain⟨b1,b2⟩:=i_ m (i*7+k) v;have F:=(aA.1 l).1;have f1:=wJ En.cells 7 nZ B i e b j u l y h1;have f2:=wJ En.cells 7 nZ (B.set i b) i b e' k v (Q8 F) z (by rw[h1];exact r);rw[SY,f1]at f2;rw[f2];exact⟨b1,ja n b2⟩
def gj.Kv(h:gj w E s rn L B D (.slice (some ⟨g,0,none⟩) B.length C) I G K J)(l:s.ct[i]?=some p)(j:B[i]?=some e):gj ((w.setCell ⟨g,i*7+3,none⟩ (.bool false)).setCell ⟨g,i*7+4,none⟩ (.slice none 0 0)) E s (p.1::rn) L (B.set i {e with kept:=false,np:=.slice none 0 0}) D (.slice (some ⟨g,0,none⟩) B.length C) I G K J/\eu L w ((w.setCell ⟨g,i*7+3,none⟩ (.bool false)).setCell ⟨g,i*7+4,none⟩ (.slice none 0 0)):=by
 have b:=h.p6 i p e l j;obtain⟨m,n⟩:=BX (i:=i) h.all j (e':={e with kept:=false,np:=.slice none 0 0}) (j:=3) (k:=4) (u:=.bool false) (v:=.slice none 0 0) S4 S4 rfl ⟨{e with kept:=false},rfl⟩;refine h.Ku (e':={e with kept:=false,np:=.slice none 0 0}) rfl n l m (λk u=>by simp[u]) b.key ?_ ?_ (λg r=>by cases r)
 ·exact b.fc
 rw[ag S5];exact .inl ⟨rfl,rfl,rfl⟩
def gj.Kw(h:gj w E s rn L B D (.slice (some ⟨g,0,none⟩) B.length C) I G K J)(m:s.ct[i]?=some p)(j:B[i]?=some e)(n:p.1∈rn)(r){tc:Int}{ts:ba}(R:dY r=[.int .i64 tc,.string ts]):gj ((w.setCell ⟨g,i*7+5,none⟩ (.int .i64 tc)).setCell ⟨g,i*7+6,none⟩ (.string ts)) E s rn L (B.set i {e with w:=r}) D (.slice (some ⟨g,0,none⟩) B.length C) I G K J/\eu L w ((w.setCell ⟨g,i*7+5,none⟩ (.int .i64 tc)).setCell ⟨g,i*7+6,none⟩ (.string ts)):=by
 have b:=h.p6 i p e m j;have l:=b.kept;rw[ag n]at l;obtain⟨y,z,S⟩:∃y z,dY e.w=[y,z]:=by
  obtain⟨k1,k2,k3,k4,U,T⟩:=e;cases T<;>exact⟨_,_,rfl⟩
 have O:=h.all;have key:((w.setCell ⟨g,i*7+5,none⟩ (.int .i64 tc)).setCell ⟨g,i*7+6,none⟩ (.string ts)).ownsRow 8 168 7 (.slice (some ⟨g,0,none⟩) B.length C) B.length ((B.set i {e with w:=r}).flatMap En.cells)/\eu (λk=>k=g) w ((w.setCell ⟨g,i*7+5,none⟩ (.int .i64 tc)).setCell ⟨g,i*7+6,none⟩ (.string ts)):=by
  obtain⟨u,F⟩:=i_ O (i*7+5) (.int .i64 tc);obtain⟨b1,b2⟩:=i_ u (i*7+6) (.string ts);refine⟨?_,ja F b2⟩;have P:=yw B i e {e with w:=r} (.int .i64 tc) (.string ts) j (by simp only[En.cells,R,S];rfl);rw[P];exact b1
 refine h.Ku (e':={e with w:=r}) rfl key.2 m key.1 (λ_ _=>Iff.rfl) b.key b.fc ?_ (λM Q=>h.fe e (aJ j) M Q);rw[ag n];rcases l with N|⟨V,h1,_⟩
 ·exact .inl N
 cases h1
end
end Ref
end
section
open bY
namespace Ref
def BZ(h:List (a_×cC))(k:a_)(o)(j:Nat):(bY.da h k o)[j]?=(h[j]?).map λp=>if p.1==k then(p.1,{p.2 with kept:=o})else p:=by
 unfold bY.da;rw[Q6]
def GP(h:List (a_×cC))(k:a_)(o):(bY.da h k o).map (·.1)=h.map (·.1):=by
 unfold bY.da;rw[Rb];apply RH;intro p _;simp only[Function.comp];split<;>rfl
def wK(h:List (a_×cC))(k:a_)(o):bY.dK (bY.da h k o)=bY.dK h:=by
 rw[<-eL,gS,eL]
def qE.kept{s:LS}{l:List (a_×Wo)}(h:qE s l)(k:a_)(o):qE {s with ct:=bY.da s.ct k o} l where
 dK q e:=h.dK q (by rw[<-wK s.ct k o];exact e)
 len:=h.len
 base q w n e:=by
  have m:=h.base q w n (by rw[<-wK s.ct k o];exact e);show w=match bY.cv (bY.da s.ct k o) q with|none=>.error 7|some p=>.ok p.value
  rw[m,fM];by_cases j:k=q
  ·rw[ag j];cases bY.cv s.ct q<;>rfl
  rw[ae j];cases bY.cv s.ct q<;>rfl
section
variable {w w':Xa}{y:Nat}{s:LS}{rn rn':List (a_)}{L L':Nat->Prop}{b:List En}{l:List (a_×Wo)}{r z B D C:Xb}
def gj.Fa(h:gj w y s rn L b l r z B D C){gA:Nat}(K:r.ownBlock=some gA)(N:eu (λk=>k=gA) w w'){i:Nat}{p:a_×cC}{e':En}(V:s.ct[i]?=some p)(Y:w'.ownsRow 8 168 7 r b.length ((b.set i e').flatMap En.cells))(o)(T:∀k,L k->L' k)(ao:∀k,L' k->L k\/(8<=k/\∃F G,w'.1[k]?=some (.cells F 204 G)))(a0:∀k,k≠p.1->(k∈rn'↔k∈rn))(aC:p.1∉rn')(ax:e'.key=p.1)(a2:km w p.2 e')(av:KeptAt w' L' o e')(ap:∀g,e'.np.ownBlock=some g->z.ownBlock≠some g):gj w' y {s with ct:=bY.da s.ct p.1 o} rn' L' (b.set i e') l r z B D C/\eu L w w':=by
 obtain⟨a3,a4,hA⟩:=cE h.all K;have hty:∀(k:Nat) (F:Array Xb) (t:TypeId) (G:Nat×Nat),w.1[k]?=some (.cells F t G)->t≠168->w'.1[k]?=w.1[k]? := λk F t G E P=>N.block k (cj E) (fB E hA P);have ad:KN w w':=λk F t G E P=>(hty k F t G E (λe=>by rcases P with rfl|rfl<;>cases e)).trans E;have Q:∀{t:TypeId}{m n:Nat}{u:Xb}{xs:List Xb},t≠168->w.ownsRow 8 t m u n xs->w'.ownsRow 8 t m u n xs:=λI ho=>cJ ho (λg K F G E=>(hty g _ _ _ E I).trans E);have hlen:b.length=(bY.da s.ct p.1 o).length:=by unfold bY.da;rw[aH];exact h.jN
 refine⟨⟨(hty y _ _ _ h.eb S4).trans h.eb,T _ h.here,by rw[aY];exact Y,(aY ..).trans hlen,λj q e M I=>?_,Q S4 h.fresh,h.fr.kept p.1 o,Q S4 h.cm,Q S4 h.cY,Q S4 h.runs,λg K=>T g (h.dQ g K),h.apart,λe I g Z=>?_,by rw[GP];exact h.nodup,λk E=>?_⟩,⟨N.os,N.tape,N.output,N.size,λk E hn=>N.block k E (λe=>hn (by rw[e];exact h.dQ gA (.inl K)))⟩⟩
 ·have M:(bY.da s.ct p.1 o)[j]?=some q:=M;rw[BZ]at M;by_cases U:i=j
  ·subst U;rw[V]at M;have M:(p.1,{p.2 with kept:=o})=q:=by simpa using M
   subst M;have ay:i<b.length:=by rw[h.jN];exact(aA.1 V).1
   rw[Q8 ay]at I;obtain rfl:=aB I;refine⟨ax,(show km w {p.2 with kept:=o} _ from a2).st ad,?_⟩;show KeptAt w' L' (if p.1∈rn' then none else o) _;rw[ae aC];exact av
  rw[RG U]at I;obtain⟨X,ak,am⟩:=SB.1 M;have ai:=pZ h.nodup V ak U;rw[ae (by simpa using ai)]at am;subst am;have R:=(h.p6 j X e ak I).st (w':=w') (L':=L') (λg K _=>by
   obtain⟨F,G,J⟩:=h.BW e (aJ I) g K;exact hty g _ _ _ J S4) ad T
  refine⟨R.key,R.fc,?_⟩;have E:=R.kept;have aa:=a0 X.1 ai;by_cases O:X.1∈rn
  ·rw[ag O]at E;rw[ag (aa.2 O)];exact E
  rw[ae O]at E;rw[ae (λh=>O (aa.1 h))];exact E
 ·rcases SG I with O|rfl
  ·exact h.fe e O g Z
  exact ap g Z
 rcases ao k E with E|⟨S,F,G,J⟩
 ·by_cases ab:k=gA
  ·subst ab;obtain⟨F,G,J⟩:=cE Y K;exact⟨(h.cz k E).1,_,_,_,J,.inr (.inl rfl)⟩
  obtain⟨S,F,t,G,J,P⟩:=h.cz k E;exact⟨S,F,t,G,(N.block k (cj J) ab).trans J,P⟩
 exact⟨S,_,_,_,J,.inr (.inr (.inl rfl))⟩
end
end Ref
end
section
namespace Ref
section
variable {w:Xa}{j:Nat}{s:bY.LS}{rn:List (a_)}{L:Nat->Prop}{p:List En}{r:List (a_×bY.Wo)}{z C B D l:Xb}
def gj.M_(h:gj w j s rn L p r z C B D l)(y){w1 w2:Xa}{g cP:Nat}(J:Xc w w1)(M:w2.ownsRow 8 199 6 (.slice (some ⟨g,0,none⟩) (s.du.length+1) cP) (s.du.length+1) (s.du.flatMap dm++dm y))(K:w1.grownBy w2 l.ownBlock)(U:l.ownBlock=some g\/g=w1.1.size)(hold:∀b,l.ownBlock=some b->∃F G,w2.1[b]?=some (.cells F 199 G)):gj (w2.setCell ⟨j,5,none⟩ (.slice (some ⟨g,0,none⟩) (s.du.length+1) cP)) j {s with du:=s.du++[y]} rn (λk=>L k\/k=g) p r z C B D (.slice (some ⟨g,0,none⟩) (s.du.length+1) cP)/\(∀k,(L k\/k=g)->L k\/w.1.size<=k)/\eu L w (w2.setCell ⟨j,5,none⟩ (.slice (some ⟨g,0,none⟩) (s.du.length+1) cP))/\(∃v,w2.cell? ⟨j,5,none⟩=some v)/\w2.frozen? ⟨j,5,none⟩=false/\j<w2.1.size:=by
 have V:=cj h.eb;have X:l.ownBlock≠some j:=λe=>by
  obtain⟨F,G,I⟩:=cE h.runs e;rw[h.eb]at I;cases I
 have O:∀k,k<w.1.size->l.ownBlock≠some k->w2.1[k]?=w.1[k]? := λk E P=>(K.block k (aw E J.size) (λe=>P e.symm)).trans (J.block k E);have N:w2.1[j]?=_:=(O _ V X).trans h.eb;have Y:w.1.size<=w2.1.size:=ah J.size K.size;have Q:∀k,k≠j->(w2.setCell ⟨j,5,none⟩ (.slice (some ⟨g,0,none⟩) (s.du.length+1) cP)).1[k]?=w2.1[k]? := λk E=>VU w2 ⟨j,5,none⟩ k _ E;have aa:g≠j:=λe=>by
  rcases U with h|h
  ·exact X (e▸h)
  have:=J.size;omega
 have hty:∀(k:Nat) (F:Array Xb) (t:TypeId) (G:Nat×Nat),w.1[k]?=some (.cells F t G)->t≠101->t≠199->(w2.setCell ⟨j,5,none⟩ (.slice (some ⟨g,0,none⟩) (s.du.length+1) cP)).1[k]?=w.1[k]? := λk F t G E h1 h2=>by
  refine(Q k (fB E h.eb h1)).trans (O k (cj E) (λe=>?_));obtain⟨ad,ai,I⟩:=cE h.runs e;rw[E]at I;cases I;exact h2 rfl
 have R:∀{t:TypeId}{m n:Nat}{u:Xb}{xs:List Xb},t≠101->t≠199->w.ownsRow 8 t m u n xs->(w2.setCell ⟨j,5,none⟩ (.slice (some ⟨g,0,none⟩) (s.du.length+1) cP)).ownsRow 8 t m u n xs:=λh1 h2 M=>cJ M (λg K F G E=>(hty g _ _ _ E h1 h2).trans E);have ab:KN w (w2.setCell ⟨j,5,none⟩ (.slice (some ⟨g,0,none⟩) (s.du.length+1) cP)):=λk F t G E Z=>(hty k F t G E (λe=>by rcases Z with rfl|rfl<;>cases e) (λe=>by rcases Z with rfl|rfl<;>cases e)).trans E;refine⟨h.turn (s':={s with du:=s.du++[y]}) (L':=λk=>L k\/k=g) rfl ab (λe he k E=>?_) (λk E=>?_) (heap_setCell_same w2 j 5 _ _ _ N) (λk E=>.inl E) (R S4 S4 h.fresh) ⟨h.fr.dK,h.fr.len,h.fr.base⟩ (R S4 S4 h.cm) (R S4 S4 h.cY) ?_ (λk E=>?_) h.apart h.fe (λk E=>?_),λk E=>?_,⟨K.os.trans J.os,K.tape.trans J.tape,K.output.trans J.output,by simp;exact Y,λk E P=>?_⟩,⟨_,by simp[World.cell?,N];rfl⟩,by simp[World.frozen?,N],aw V Y⟩
 ·obtain⟨F,G,I⟩:=h.BW e he k E;exact hty k _ _ _ I S4 S4
 ·obtain⟨F,G,I⟩:=cE h.all E;exact hty k _ _ _ I S4 S4
 ·show(w2.setCell _ _).ownsRow 8 _ 6 _ (s.du++[y]).length ((s.du++[y]).flatMap dm);rw[aj,Rm];exact cJ (by simpa using M) (λk E F G I=>by cases E;exact(Q g aa).trans I)
 ·rcases E with E|E|E|E
  ·exact .inl (h.dQ k (.inr (.inl E)))
  ·exact .inl (h.dQ k (.inr (.inr (.inl E))))
  ·exact .inl (h.dQ k (.inr (.inr (.inr (.inl E)))))
  cases E;exact .inr rfl
 ·by_cases T:k=j
  ·subst T;exact⟨(h.cz k h.here).1,_,_,_,heap_setCell_same w2 k 5 _ _ _ N,.inl rfl⟩
  rw[Q k T];by_cases S:k=g
  ·subst S;obtain⟨F,G,I⟩:=cE M rfl;exact⟨(VT M k rfl).1,F,_,G,I,.inr (.inr (.inr (.inl rfl)))⟩
  rcases E with E|E
  ·by_cases hv:l.ownBlock=some k
   ·obtain⟨F,G,I⟩:=hold k hv;exact⟨(h.cz k E).1,F,_,G,I,.inr (.inr (.inr (.inl rfl)))⟩
   rw[O k (h.cz.lt E) hv];exact h.cz k E
  exact(S E).elim
 ·rcases E with E|rfl
  ·exact .inl E
  rcases U with h1|h1
  ·exact .inl (h.dQ k (.inr (.inr (.inr (.inr h1)))))
  rw[h1];exact .inr J.size
 exact(Q k (λe=>P (e▸h.here))).trans (O k E (λe=>P (h.dQ k (.inr (.inr (.inr (.inr e)))))))
end
def Kx:(Tryz.prog.info? 199).map (λi=>(i.zero,i.size,i.bytes))=some (some (.agg #[.string ⟨#[]⟩,.string ⟨#[]⟩,.int .i64 0,.string ⟨#[]⟩,.int .i64 0,.string ⟨#[]⟩]),6,80):=S8
def P6:(Value.agg #[.string ⟨#[]⟩,.string ⟨#[]⟩,.int .i64 0,.string ⟨#[]⟩,.int .i64 0,.string ⟨#[]⟩]).cells.size=6:=S8
end Ref
namespace Ref
variable{c:Cx}{s:bY.LS}{L M:Nat->Prop}{f:Nat}
def GQ(w:Xa)(b:Xb):Xa:=w.alloc (.cells #[b,.slice none 0 0,.int .i64 0,.slice none 0 0] 287)
def n_(w v):Xc w (GQ w v):=(VM _ w).alloc (af _) _
def Ky{w:Xa}(h:fJ c.rb s c.rn w L)(m:c.qb=w.1.size)(D:xB w 8 c.Ks c.ns):ES c s [] 400 (.slice none 0 0) (GQ w c.Ks) (λk=>L k\/k=w.1.size):=by
 have j:=n_ w c.Ks;have l:(GQ w c.Ks).1[w.1.size]?=some (.cells #[c.Ks,.slice none 0 0,.int .i64 0,.slice none 0 0] 287 (0,0)):=heap_alloc_new w _;have n:Typed w L:=by
  obtain⟨r,u,E,G,F,J,I,h⟩:=h;exact h.cz
 have z:8<=w.1.size:=by
  obtain⟨r,u,E,G,F,J,I,h⟩:=h;exact ah (h.cz _ h.here).1 (aF (h.cz.lt h.here))
 refine⟨L,.slice none 0 0,h.below j,λk e=>.inl e,.inr m,λC=>?_,λg B=>(by cases B),λk e=>?_,by rw[m];exact l,af _,⟨rfl,.inl ⟨rfl,rfl⟩⟩,D.st (KN.below j)⟩
 ·have:=n.lt C;omega
 rcases e with e|rfl
 ·obtain⟨a,p,t,y,b,d⟩:=n k e;exact⟨a,p,t,y,(j.block k (cj b)).trans b,d⟩
 exact⟨z,_,_,_,l,.inr (.inr (.inr (.inr (.inr rfl))))⟩
def GR(w M)(b:f<=400):jP w M (.slice none 0 0) none f:=⟨[],⟨rfl,.inl ⟨rfl,rfl⟩⟩,λg e=>(by cases e),by simpa using b,λu hu=>(by cases hu)⟩
def ES.parts{nd:List (a_×bY.Wo)}{n:Xb}{w:Xa}(h:ES c s nd f n w M):∃L b,fJ c.rb s c.rn w L/\(∀k,L k->M k)/\w.cell? ⟨c.qb,1,none⟩=some b/\c.qb<w.1.size/\¬L c.qb/\(∀g,b.ownBlock=some g->M g/\¬L g)/\w.ownsRow 8 204 3 b nd.length (nd.flatMap eh):=by
 obtain⟨L,b,h1,h2,r,j,l,u,e,y,m,p⟩:=h;exact⟨L,b,h1,h2,by simp[World.cell?,e],cj e,j,l,m⟩
end Ref
end
section
open bY
namespace Ref
variable{key:a_}{r:Wo}{j:List (a_×Wo)}{q:a_×Wo}{Q:Exit->Act->Xa->Prop}{a:Act}{K:Act->Xa->Prop}{ts:ba}
def GS{i:Nat}(b:j[i]?=some q):dA key ⟨r,j.take (i+1)⟩=dA key ⟨r,j.take i⟩++[32]++q.1++[61]++gO q.2:=by
 unfold dA;simp only;rw[Sf,b,Option.toList_some,Rm];simp[g_]
def yx(i):(dA key ⟨r,j.take i⟩).length<=(dA key ⟨r,j⟩).length:=by
 unfold dA;simp only[aj,aM];have:((j.take i).flatMap g_).length<=(j.flatMap g_).length:=by
  conv=>rhs;rw[<-R8 i j,Rm,aj]
  omega
 omega
def Na{P:Program}{C:Code}{w:Xa}(h:C.wp P (ER (λa w=>Q .normal a w)) a w):C.wp P Q a w:=kO _ (λ_ _ h=>h) h
def GU{w:Xa}(h:K a w):ER K .normal a w:=h
def O1{B:Nat}{a w:Xa}(h:Below B a.drew w):Below B a w:=⟨h.os,h.tape,h.output,h.size,h.block⟩
def Nb{w w1:Xa}{u0 u1 u2 u3 u4 u5 u6:Xb}(e:Below (w.alloc (.cells #[u0,u1,u2,u3,u4,u5,u6] 168)).1.size (w.alloc (.cells #[u0,u1,u2,u3,u4,u5,u6] 168)) w1):w1.cell? ⟨w.1.size,0,none⟩=some u0/\w1.cell? ⟨w.1.size,4,none⟩=some u4/\w1.cell? ⟨w.1.size,5,none⟩=some u5/\w1.cell? ⟨w.1.size,6,none⟩=some u6/\w.1.size<w1.1.size/\Xc w w1:=by
 have l:=heap_alloc_new w (.cells #[u0,u1,u2,u3,u4,u5,u6] 168);have h:=(e.block _ (cj l)).trans l;have b:Xc w (w.alloc (.cells #[u0,u1,u2,u3,u4,u5,u6] 168)):=(VM _ w).alloc (af _) _;exact⟨by simp[World.cell?,h],by simp[World.cell?,h],by simp[World.cell?,h],by simp[World.cell?,h],cj h,b.trans (e.mono b.size)⟩
def GV(w)(key text:a_)(fc kb np r)(j:List (a_×Wo))(bw:fc.oneCell'=true)(Y:w.ownsRow 8 204 3 np j.length (j.flatMap eh))(hl:(dA key ⟨r,j⟩).length<=100000000)(bv:j.length<=1000){tc:Int}(ax:dC r=.agg #[.int .i64 tc,.string ts]):Calls Tryz.prog 116 #[.agg #[str key,str text,fc,.bool kb,np,.int .i64 tc,.string ts]] w λe G=>e=.returned (str (dA key ⟨r,j⟩))/\Xc w G:=by
 obtain⟨oN,J,rfl⟩:=dD Y;have C:=λw=>yv r w;rw[ax]at C;obtain⟨B,a2⟩:∃x:ba,str (gO r)=.string x:=⟨_,rfl⟩;obtain⟨n,aC⟩:∃x:ba,str key=.string x:=⟨_,rfl⟩;obtain⟨xx,bm⟩:∃x:ba,str text=.string x:=⟨_,rfl⟩;rw[a2]at C;rw[aC,bm];have U:=bZ C;have h0:(dA key ⟨r,j.take 0⟩).length<=100000000:=ah (yx 0) hl;have F:str (dA key ⟨r,j.take 0⟩)=.string (⟨#[107,101,101,112,32]⟩++n++⟨#[32]⟩++B):=by
  apply lR;rw[dI,dI,dI,fO aC,fO a2];simp[dA]
 have bk:(⟨#[107,101,101,112,32]⟩++n++⟨#[32]⟩++B:ba).size<=100000000:=by rw[VO,fO F];exact h0
 have ap:(⟨#[107,101,101,112,32]⟩++n++⟨#[32]⟩++B:ba).size=5+n.size+1+B.size:=by rw[Q4,Q4,Q4];rfl
 have aa:(⟨#[107,101,101,112,32]⟩++n:ba).size=5+n.size:=TY;have av:(⟨#[107,101,101,112,32]⟩++n++⟨#[32]⟩:ba).size=5+n.size+1:=by rw[Q4,aa];rfl
 have bh:(⟨#[107,101,101,112,32]⟩:ba).size=5:=rfl;have bj:(⟨#[32]⟩:ba).size=1:=rfl;obtain⟨E,X⟩:∃E,w.alloc (.cells #[.string n,.string xx,fc,.bool kb,.slice oN j.length J,.int .i64 tc,.string ts] 168)=E:=⟨_,rfl⟩;have ab:=bZ (λ(p:Xa) (y:Xc E p)=>Nb (w:=w) (u0:=.string n) (u1:=.string xx) (u2:=fc) (u3:=.bool kb) (u4:=.slice oN j.length J) (u5:=.int .i64 tc) (u6:=.string ts) (w1:=p) (by rw[X];exact y));have bd:n.size<=100000000:=R5;have bt:B.size<=100000000:=R5;have a6:=bZ X;have HN:=bZ Y;have a4:=bZ F;clear C ax Y F bk h0 X;go_enter Tryz.func116,Tryz.ntmps116
 go_upto_region 1 with fail
 go_cut [3]from 5 to 12 (λsv wx=>sv=.string (⟨#[107,101,101,112,32]⟩++n++⟨#[32]⟩++B)/\Hid (Xc E wx))
 case first =>
  go_region_with (first|(go_at_call 152;refine b_ (U.Z _) λp a8=>?_;have N:Xc E p:=(by rw[<-a6.Z];exact O1 a8);obtain⟨x0,x4,x5,x6,x7,-⟩:=ab.Z p N))
  all_goals
   go_wp2
   go_meet
   case rel=>exact⟨rfl,bZ (by first|exact N|exact N.drew|exact N.drew.drew)⟩
 case rest =>
  obtain⟨rfl,D⟩:=hcut;have ai:Hid (str (dA key ⟨r,j.take 0⟩)=.string (⟨#[107,101,101,112,32]⟩++n++⟨#[32]⟩++B)):=a4;generalize (⟨#[107,101,101,112,32]⟩++n++⟨#[32]⟩++B:ba)=b0 at ai
  apply_assumption
  go_wp2
  go_loopw [3,4] (λsv iv wr=>∃(i:Nat) (b:ba),sv=.string b/\iv=.int .i64 (i:Int)/\i<=j.length/\Hid (str (dA key ⟨r,j.take i⟩)=.string b)/\Hid (Xc E wr)) (λ_ iv _=>j.length-(intOf iv).toNat)
  case atStart=>exact⟨0,b0,rfl,rfl,ar _,ai,D⟩
  case round =>
   obtain⟨i,b,rfl,rfl,hi,T,D⟩:=hrel;obtain⟨x0,x4,x5,x6,x7,am⟩:=ab.Z wr D.Z;by_cases bf:i<j.length
   ·have bc:(i:Int)<(j.length:Int):=R5;have Z:=aq bf;generalize j[i]=q at Z;have a9:wr.ownsRow 8 204 3 (.slice oN j.length J) j.length (j.flatMap eh):=cJ HN.Z (λg M cs fz F=>(am.block g (cj F)).trans F);obtain⟨u,bn,hv,M,P⟩:=fK tA S4 a9 Z;cases hv;obtain⟨R,S,ay⟩:=dw q.2;have bl:dY q.2=[.int .i64 R,.string S]:=by
     obtain⟨q1,q2⟩:=q;cases q2<;>(cases ay;rfl)
    obtain⟨m,a0⟩:∃x:ba,str q.1=.string x:=⟨_,rfl⟩;have bg:eh q=[.string m,.int .i64 R,.string S]:=by unfold eh;rw[bl,a0]
    rw[bg]at P;have z0:=P 0 _ rfl;have z1:=P 1 _ rfl;have z2:=P 2 _ rfl;simp only[aR]at z0;obtain⟨I,a3⟩:∃x:ba,str (gO q.2)=.string x:=⟨_,rfl⟩;have C:=λw=>yv q.2 w;rw[ay,a3]at C;have U:=bZ C;have ao:str (dA key ⟨r,j.take (i+1)⟩)=.string (b++⟨#[32]⟩++m++⟨#[61]⟩++I):=by
     apply lR;rw[GS Z,dI,dI,dI,dI,fO T.Z,fO a0,fO a3]
    have bu:(b++⟨#[32]⟩++m++⟨#[61]⟩++I:ba).size<=100000000:=by rw[VO,fO ao];exact ah (yx _) hl
    have ap:(b++⟨#[32]⟩:ba).size=b.size+1:=TY;have aa:(b++⟨#[32]⟩++m:ba).size=b.size+1+m.size:=by rw[Q4,ap]
    have av:(b++⟨#[32]⟩++m++⟨#[61]⟩:ba).size=b.size+1+m.size+1:=by rw[Q4,aa];rfl
    have bh:(b++⟨#[32]⟩++m++⟨#[61]⟩++I:ba).size=b.size+1+m.size+1+I.size:=by rw[Q4,av]
    have bj:(⟨#[32]⟩:ba).size=1:=rfl;have bx:(⟨#[61]⟩:ba).size=1:=rfl;have bd:b.size+1+m.size+1+I.size<=100000000:=R5;have a5:=bZ ao;have ad:=bZ (λ(p:Xa) (y:Xc wr p)=>show p.cell? ⟨w.1.size,4,none⟩=some (.slice (some ⟨u,0,none⟩) j.length J)/\p.cell? ⟨u,i*3,none⟩=some (.string m)/\p.cell? ⟨u,i*3+1,none⟩=some (.int .i64 R)/\p.cell? ⟨u,i*3+2,none⟩=some (.string S)/\u<p.1.size/\w.1.size<p.1.size from⟨(y.cell (p:=⟨w.1.size,4,none⟩) x7).trans x4,(y.cell (p:=⟨u,i*3,none⟩) M).trans z0,(y.cell (p:=⟨u,i*3+1,none⟩) M).trans z1,(y.cell (p:=⟨u,i*3+2,none⟩) M).trans z2,aw M y.size,aw x7 y.size⟩)
    go_upto_region 5 with fail
    have bo:¬9223372036854775807<b.size+1:=R5;have bp:¬9223372036854775807<b.size+1+m.size:=R5;have bq:¬9223372036854775807<b.size+1+m.size+1:=R5;have br:¬9223372036854775807<b.size+1+m.size+1+I.size:=R5;obtain⟨y1,y2,y3,y4,y5,y6⟩:=ad.Z wr (VM _ _);have l:=And.intro y1 (And.intro y2 (And.intro y3 y4));clear y1 y2 y3 y4 y5 y6;refine Na ?_;refine wp_region_held_drew (S:=λG=>G.cell? ⟨w.1.size,4,none⟩=some (.slice (some ⟨u,0,none⟩) j.length J)/\G.cell? ⟨u,i*3,none⟩=some (.string m)/\G.cell? ⟨u,i*3+1,none⟩=some (.int .i64 R)/\G.cell? ⟨u,i*3+2,none⟩=some (.string S)) S8 l (λhHeld=>?_);refine dP 0 rfl l ?_;simp only[Act.put,au,Xd,Xe];refine dP 1 rfl l ?_;simp only[Act.put,au,Xd,Xe];refine dP 2 rfl l ?_;simp only[Act.put,au,Xd,Xe];refine dP 3 rfl l ?_;simp only[Act.put,au,Xd,Xe];refine dP 4 rfl l ?_;simp only[Act.put,au,Xd,Xe];refine dP 5 rfl l ?_;simp only[Act.put,au,Xd,Xe];refine dP 6 rfl l ?_;simp only[Act.put,au,Xd,Xe];refine dP 7 rfl l ?_;simp only[Act.put,au,Xd,Xe];refine dP 8 rfl l ?_;simp only[Act.put,au,Xd,Xe];refine dP 9 rfl l ?_
    simp only[Act.put,au,Xd,Xe];refine dP 10 rfl l ?_;simp only[Act.put,au,Xd,Xe];refine dP 11 rfl l ?_;simp only[Act.put,au,Xd,Xe];refine dP 12 rfl l ?_;simp only[Act.put,au,Xd,Xe];refine dP 13 rfl l ?_;simp only[Act.put,au,Xd,Xe];refine dP 14 rfl l ?_;simp only[Act.put,au,Xd,Xe];refine dP 15 rfl l ?_;simp only[Act.put,au,Xd,Xe];refine wpAnyH_ready (rs:=[16]) S8 S5 ?_;refine AllReadyH.cons rfl (λK z=>?_) AllReadyH.nil;go_simp;refine b_ (U.Z _) λw4 ak=>?_;have V:=((VM _ wr).drew).trans ak;have L:=ad.Z w4 V;have O:=And.intro L.1 (And.intro L.2.1 (And.intro L.2.2.1 L.2.2.2.1));refine z.out _ _ O (λ_=>?_);clear z;refine wpAnyH_ready (rs:=[17]) S8 S5 ?_;refine AllReadyH.cons rfl (λK z=>?_) AllReadyH.nil;go_simp;refine z.out _ _ O (λ_=>?_);clear z;refine wpAnyH_ready (rs:=[18]) S8 S5 ?_;refine AllReadyH.cons rfl (λK z=>?_) AllReadyH.nil;go_simp;refine z.out _ _ O (λ_=>?_);clear z;refine wpAnyH_done S8 ?_ _;refine GU ?_;have a7:=bZ (D.Z.trans (V.mono D.Z.size));clear hHeld L O l ak V
    apply_assumption
    go_wp2;refine⟨⟨_,_,_,_,_,_,_,_,_,_,_,_,_,_,_,_,_,_,_,_,_,_,_,_,_,_,_,?hshape,rfl⟩,?hless⟩
    case hless=>simp[intOf];omega
    case hshape =>
     exact⟨i+1,_,rfl,by go_num,by omega,a5,a7⟩
   have bc:¬(i:Int)<(j.length:Int):=R5;have HE:Hid (str (dA key ⟨r,j⟩)=.string b):=bZ (by rw[<-T.Z,Ri R5]);clear T D;go_wp2;go_ret;exact⟨by rw[HE.Z];rfl,am⟩
end Ref
end
section
namespace Ref
variable{b:Nat}{s:bY.LS}{rn:List (a_)}{L:Nat->Prop}{j:List (a_×bY.Wo)}{p:a_×bY.cC}
def gj.below{w w':Xa}{e:List En}{m r n y u:Xb}(h:gj w b s rn L e j m r n y u)(l:Xc w w'):gj w' b s rn L e j m r n y u :=h.st (λk z=>l.block k (h.cz.lt z)) (KN.below l)
def O2(b:Nat)(s:bY.LS)(rn:List (a_))(i:Nat)(r:bY.Wo)(w:Xa)(L:Nat->Prop):Prop :=∃l j m u n z y,gj w b s rn L l j m u n z y/\∃e,l[i]?=some e/\e.w=r
def fJ.dR{i:Nat}{w:Xa}{kp:bY.gl}(h:fJ b s rn w L)(z:s.ct[i]?=some p)(y:p.1∉rn)(u:p.2.kept=some kp):O2 b s rn i kp.dR w L:=by
 obtain⟨n,j,B,D,C,F,E,h⟩:=h;obtain⟨e,g,G,h1,h2,_⟩:=h.entry z;refine⟨n,j,B,D,C,F,E,h,e,h1,?_⟩;have m:=h2.kept;rw[ae y,u]at m;rcases m with⟨l,_⟩|⟨I,l,_,r,_⟩
 ·cases l
 cases l;exact r
def yz(w b s rn L t){z:List En}{E r n y u:Xb}(h:gj w b s rn L z j E r n y u)(Z:t.size<=100000000000000000)(I:(dc s.jr).length<=1000000000000000000):Calls Tryz.prog 105 #[ptr b,.string t] w λe F=>e=.returned (.tuple #[])/\gj F b (s.write t.1.1) rn L z j E r n y u/\eu L w F:=by
 obtain⟨P,M,Q,R,S,T,U⟩:=h.cells;have Y:=cj h.eb;obtain⟨l,C⟩:∃l:ba,str (dc s.jr)=.string l:=⟨_,rfl⟩;have B:=fO C;have X:l.size<=1000000000000000000:=by rw[VO,B];exact I
 obtain⟨x,hx⟩:∃x:ba,str (bY.line t.1.1)=.string x:=⟨_,rfl⟩;have D:=fO hx;have aa:x.size=t.size+10:=by rw[VO,D];rw[bY.jC,VO]
 have m:=h.cellOf (s':=s.write t.1.1) 1 (str (dc s.jr++bY.line t.1.1)) (vF':=r) (vB':=n) (vR':=y) (vN':=u) (fl':=j) rfl (by rw[show(s.write t.1.1).jr=s.jr++[t.1.1]from rfl,eB];rfl) h.fresh ⟨h.fr.dK,h.fr.len,h.fr.base⟩ h.cm h.cY h.runs (λg N=>h.dQ g (.inr N)) h.apart h.fe;have G:str (dc s.jr++bY.line t.1.1)=.string (l++x):=by
  apply lR;rw[dI,B,D]
 rw[G]at m;rw[C]at M;have HL:=bZ (λw=>yu t w R5);rw[hx]at HL;have K:=bZ (show gj (w.setCell ⟨b,1,none⟩ (.string (l++x))).drew b (s.write t.1.1) rn L z j E r n y u/\eu L w (w.setCell ⟨b,1,none⟩ (.string (l++x))).drew from⟨m.1.below (VM _ _).drew,m.2.trans (eu.below (VM _ _).drew) (λk O=>.inl O)⟩);have V:¬9223372036854775807<l.size+x.size:=R5;clear h m G B C hx D I;unfold ptr;go_enter Tryz.func105,Tryz.ntmps105;go_wp2_with fail
 go_region_with (first|(go_at_call 148;refine b_ (HL.Z _) λF J=>?_;obtain rfl:=J.symm;clear J))
 all_goals
  go_wp2
  go_end0
  exact⟨rfl,K.Z⟩
end Ref
namespace Ref
section
variable {w:Xa}{u:Nat}{s:bY.LS}{rn:List (a_)}{L:Nat->Prop}{m:List En}{n:List (a_×bY.Wo)}{E z y C B:Xb}{g D:Nat}{i:Nat}{p:a_×bY.cC}{e:En}
def Fc{rn:List (a_)}{a:a_}:∀k,k≠a->(k∈rn↔k∈a::rn):=λk b=>by simp[b]
def gj.P7(h:gj w u s (p.1::rn) L m n (.slice (some ⟨g,0,none⟩) m.length D) z y C B)(N:s.ct[i]?=some p)(K:m[i]?=some e)(S:p.1∉rn){np:Xb}{j:List (a_×bY.Wo)}(R:w.ownsRow 8 204 3 np j.length (j.flatMap eh))(M:∀k,np.ownBlock=some k->¬L k)(Q:j.length<=401):gj ((w.setCell ⟨g,i*7+3,none⟩ (.bool true)).setCell ⟨g,i*7+4,none⟩ np) u {s with ct:=bY.da s.ct p.1 (some ⟨e.w,j⟩)} rn (λk=>L k\/np.ownBlock=some k) (m.set i {e with kept:=true,np:=np}) n (.slice (some ⟨g,0,none⟩) m.length D) z y C B/\eu L w ((w.setCell ⟨g,i*7+3,none⟩ (.bool true)).setCell ⟨g,i*7+4,none⟩ np):=by
 have J:=h.p6 i p e N K;obtain⟨O,F⟩:=BX (i:=i) h.all K (e':={e with kept:=true,np:=np}) (j:=3) (k:=4) (u:=.bool true) (v:=np) S4 S4 rfl ⟨{e with kept:=true},rfl⟩;have P:L g:=h.dQ g (.inl rfl);have r:((w.setCell ⟨g,i*7+3,none⟩ (.bool true)).setCell ⟨g,i*7+4,none⟩ np).ownsRow 8 204 3 np j.length (j.flatMap eh):=cJ R (λk b G I l=>(F.block k (cj l) (λe=>M k b (by rw[e];exact P))).trans l);refine h.Fa (e':={e with kept:=true,np:=np}) rfl F N O (some ⟨e.w,j⟩) (λk b=>.inl b) (λk b=>?_) Fc S J.key J.fc (.inr ⟨⟨e.w,j⟩,rfl,rfl,rfl,r,λk b=>.inr b,Q⟩) (λk b hF=>M k b (h.dQ k (.inr (.inl hF))));rcases b with b|b
 ·exact .inl b
 obtain⟨G,I,l⟩:=cE r b;exact .inr ⟨(VT r k b).1,G,I,l⟩
def kR{α:Type}:∀(l:List α) (i) (a),l[i]?=some a->l.set i a=l
 |[],i,a,h=>by cases h
 |b::l,0,a,h=>by cases h;rfl
 |b::l,i+1,a,h=>by rw[Xe,kR l i a h]
def gj.Kz(h:gj w u s (p.1::rn) L m n E z y C B)(F:s.ct[i]?=some p)(G:p.1∉rn):gj w u {s with ct:=bY.da s.ct p.1 none} rn L m n E z y C B:=by
 obtain⟨e,g,D,l,j,I,J,_⟩:=h.entry F;have b:=j.kept;rw[ag S5]at b;have r:=(h.Fa (gA:=g) (e':=e) (rn':=rn) (L':=L) (by rw[I];rfl) (eu.refl _ _) F (by rw[kR m i e l];exact h.all) none (λ_ h=>h) (λk b=>.inl b) Fc G j.key j.fc b (λk b=>h.fe e (aJ l) k b)).1;rw[kR m i e l]at r;exact r
def zZ{h:List (a_×bY.cC)}{o:Option bY.gl}(hd:(h.map (·.1)).Nodup)(l:h[i]?=some p)(r:p.2.kept=o):bY.da h p.1 o=h:=by
 apply Se;intro j;rw[BZ];by_cases b:i=j
 ·subst b;rw[l];obtain⟨k,I⟩:=p;subst r;simp
 cases G:h[j]? with
 |none=>rfl
 |some q =>
  have F:=pZ hd l G b;simp[F]
end
def yA{h b:List (a_×bY.cC)}(e:bY.dd b=bY.dd h){i:Nat}{p:a_×bY.cC}(G:h[i]?=some p):∃j,b[i]?=some j/\j.1=p.1/\j.2.di=p.2.di:=by
 have h1:=congrArg (λl=>l[i]?) e;unfold bY.dd at h1;simp only[Q6,G]at h1;cases F:b[i]? with
 |none=>rw[F]at h1;cases h1
 |some q =>
  rw[F]at h1;have h2:=aB h1;exact⟨q,rfl,congrArg (λr=>r.1) h2,congrArg (λr=>r.2.di) h2⟩
end Ref
end
section
open bY
namespace Ref
section
variable {w w':Xa}{l:Nat}{s:LS}{rn:List (a_)}{L L' M:Nat->Prop}{b:List En}{j:List (a_×Wo)}{m y u B z:Xb}
def gj.grow(h:gj w l s rn L b j m y u B z)(e:∀k,L k->L' k)(p:Typed w L'):gj w l s rn L' b j m y u B z :=h.turn rfl (KN.refl w) (λ_ _ _ _=>rfl) (λ_ _=>rfl) h.eb e h.fresh h.fr h.cm h.cY h.runs (λg n=>e g (h.dQ g (.inr n))) h.apart h.fe p
def Typed.mK(h:Typed w M)(D:eu L w w')(F:Typed w' L):Typed w' M:=λk E=>by
 by_cases n:L k
 ·exact F k n
 obtain⟨C,p,t,r,e,G⟩:=h k E;exact⟨C,p,t,r,(D.block k (cj e) n).trans e,G⟩
def wL{wc p D F C:Xa}{L1 E:Nat->Prop}{i:Nat}{e:En}{r:Wo}(Q:(∀k,L1 k->L k\/w.1.size<=k)/\(∀k,L k->L1 k)/\eu L w wc)(P:eu L1 wc p)(N:Xc p D)
  (hM:(∀k,M k->(L1 k\/k=p.1.size)\/D.1.size<=k)/\(∀k,(L1 k\/k=p.1.size)->M k)/\eu (λk=>L1 k\/k=p.1.size) D F) (O:Xc F C) (hT:Typed C M)
  (h:gj w' l s rn E b j m y u B z) (G:∀k,E k->M k) (hF:eu E C w') (R:b[i]?=some e) (S:e.w=r):fb (O2 l s rn i r) w L w':=by
 obtain⟨K,X,Y⟩:=Q;obtain⟨T,U,V⟩:=hM;have f1:eu L w p:=Y.trans P K;have Z:=f1.size;have f2:eu L w D:=f1.trans (eu.below N) (λk n=>.inl n);have s2:=f2.size;have I:∀k,(L1 k\/k=p.1.size)->L k\/w.1.size<=k:=λk n=>by
  rcases n with n|n
  ·exact K k n
  exact .inr R5
 have f3:eu L w F:=f2.trans V I;have f4:eu L w C:=f3.trans (eu.below O) (λk n=>.inl n);have J:∀k,M k->L k\/w.1.size<=k:=λk n=>by
  rcases T k n with n|n
  ·exact I k n
  exact .inr R5
 refine⟨M,⟨b,j,m,y,u,B,z,h.grow G (hT.mK hF h.cz),e,R,S⟩,J,λk n=>U k (.inl (X k n)),f4.trans hF (λk n=>J k (G k n))⟩
end
def Nc{n:Nat}{s:LS}{p:Pe V}{e:List (a_×Wo)}{k:a_}(r:k∈s.cm):cK (p.run (ep (cG n)) (s,e)).2.1.ct k=cK s.ct k :=(KD (pD n) p s e).2 k r trivial
def KE{key:a_}{q:Wo×(LS×List (a_×Wo))}(h1:gT q.1=true)(h2:(cK q.2.1.ct key).isSome=true):ia key q=(q.1,q.2.1.lX key):=by unfold ia;rw[ag h1,ag h2]
def KG{key:a_}{q:Wo×(LS×List (a_×Wo))}(h1:gT q.1=true)(h2:cK q.2.1.ct key=none):ia key q=(q.1,q.2.1):=by unfold ia;rw[ag h1,ae (by rw[h2];simp)]
def KH{key:a_}{q:Wo×(LS×List (a_×Wo))}(h1:gT q.1=false):ia key q=(q.1,q.2.1.keep key ⟨q.1,q.2.2⟩):=by unfold ia;rw[ae (by rw[h1];simp)]
def Ff{h:List (a_×cC)}{i:Nat}{p:a_×cC}(hd:(h.map (·.1)).Nodup)(e:h[i]?=some p):cK h p.1=p.2.kept:=by
 obtain⟨k,n⟩:=p;unfold cK;rw[lf hd e];rfl
def KeptAt.is{w:Xa}{L:Nat->Prop}{o:Option gl}{e:En}(h:KeptAt w L o e):e.kept=o.isSome:=by
 rcases h with⟨rfl,h,_⟩|⟨n,rfl,h,_⟩<;>exact h
end Ref
namespace Ref
section
variable {w:Xa}{p:Nat}{s s':LS}{rn:List (a_)}{L:Nat->Prop}{E:List En}{y fl':List (a_×Wo)}{C z D B F vF' vB' vR' vN':Xb}
def gj.Fg(h:gj w p s rn L E y C z D B F){t:TypeId}{m n:Nat}{u:Xb}{xs:List Xb}(l:w.ownsRow 8 t m u n xs)(r:t≠101):∀b,u.ownBlock=some b->b≠p:=λb e=>by
 obtain⟨G,I,j⟩:=cE l e;exact fB j h.eb r
def kD{t e:TypeId}{m N n O:Nat}{u j:Xb}{xs P:List Xb}(J:w.ownsRow 8 t m u n xs)(K:w.ownsRow 8 e N j O P)(M:t≠e):∀b,u.ownBlock=some b->j.ownBlock≠some b:=λb l r=>by
 obtain⟨Q,S,G⟩:=cE J l;obtain⟨R,T,I⟩:=cE K r;exact fB G I M rfl
def gj.pushed(h:gj w p s rn L E y C z D B F){j g:Nat}{vO vX:Xb}{w1 w2:Xa}{ty:TypeId}(am:s'.ct=s.ct)(J:Xc w w1)(N:w1.grownBy w2 vO.ownBlock)
  (K:∀b,vO.ownBlock=some b->L b/\b≠p/\C.ownBlock≠some b/\∀e∈E,e.np.ownBlock≠some b) (hX:vX.ownBlock=some g) (X:vO.ownBlock=some g\/g=w1.1.size) (hty:M6 ty) (hold:∀b,vO.ownBlock=some b->∃G I,w2.1[b]?=some (.cells G ty I)) (ap:∃G I,w2.1[g]?=some (.cells G ty I))
  (ai:(#[C,str (dc s.jr),z,D,B,F]:Array Xb).setIfInBounds j vX=#[C,str (dc s'.jr),vF',vB',vR',vN']) (hj:j<6)
  (ay:∀W,(∀{t:TypeId}{m n:Nat}{u:Xb}{xs:List Xb},w.ownsRow 8 t m u n xs->t≠101->(∀b,u.ownBlock=some b->vO.ownBlock≠some b)->W.ownsRow 8 t m u n xs)->(∀{t:TypeId}{m n:Nat}{u:Xb}{xs:List Xb},w2.ownsRow 8 t m u n xs->u.ownBlock=some g->W.ownsRow 8 t m u n xs)->W.ownsRow 8 204 3 vF' fl'.length (fl'.flatMap eh)/\dX W vB' s'.cm/\dX W vR' s'.cY/\W.ownsRow 8 199 6 vN' s'.du.length (s'.du.flatMap dm))
  (fr:qE s' fl') (dQ:∀k,vF'.ownBlock=some k\/vB'.ownBlock=some k\/vR'.ownBlock=some k\/vN'.ownBlock=some k->L k\/k=g) (apart:∀k,vB'.ownBlock=some k->vR'.ownBlock≠some k) (fe:∀e∈E,∀k,e.np.ownBlock=some k->vF'.ownBlock≠some k) :
  gj (w2.setCell ⟨p,j,none⟩ vX) p s' rn (λk=>L k\/k=g) E fl' C vF' vB' vR' vN'/\(∀k,(L k\/k=g)->L k\/w.1.size<=k)/\eu L w (w2.setCell ⟨p,j,none⟩ vX)/\(∃v,w2.cell? ⟨p,j,none⟩=some v)/\w2.frozen? ⟨p,j,none⟩=false/\p<w2.1.size:=by
 have hq:=cj h.eb;have P:∀k,k<w.1.size->vO.ownBlock≠some k->w2.1[k]?=w.1[k]? := λk l M=>(N.block k (aw l J.size) (λe=>M e.symm)).trans (J.block k l);have U:=(P _ hq (λe=>(K p e).2.1 rfl)).trans h.eb;have ad:=ah J.size N.size;have R:∀k,k≠p->(w2.setCell ⟨p,j,none⟩ vX).1[k]?=w2.1[k]? := λk l=>VU w2 ⟨p,j,none⟩ k _ l;have ak:g≠p:=λe=>by
  rcases X with h|h
  ·exact(K g h).2.1 e
  have:=J.size;omega
 have O:∀k,k<w.1.size->vO.ownBlock≠some k->k≠p->(w2.setCell ⟨p,j,none⟩ vX).1[k]?=w.1[k]? := λk l M Y=>(R k Y).trans (P k l M);have av:∀{t:TypeId}{m n:Nat}{u:Xb}{xs:List Xb},w.ownsRow 8 t m u n xs->t≠101->(∀b,u.ownBlock=some b->vO.ownBlock≠some b)->(w2.setCell ⟨p,j,none⟩ vX).ownsRow 8 t m u n xs:=λQ S M=>cJ Q (λk l G I r=>(O k (cj r) (M k l) (h.Fg Q S k l)).trans r);have ax:∀{t:TypeId}{m n:Nat}{u:Xb}{xs:List Xb},w2.ownsRow 8 t m u n xs->u.ownBlock=some g->(w2.setCell ⟨p,j,none⟩ vX).ownsRow 8 t m u n xs:=λQ hu=>cJ Q (λk l G I r=>by
  obtain rfl:g=k:=aB (hu.symm.trans l);exact(R g ak).trans r)
 have ao:KN w _:=λk G t I l S=>by
  refine(O k (cj l) (λe=>?_) (fB l h.eb (λe=>by rcases S with rfl|rfl<;>cases e))).trans l;obtain⟨_,aC,t',a0,r,Y⟩:=h.cz k (K k e).1;rw[l]at r;cases r;exact Y.no S
 obtain⟨r1,r2,r3,r4⟩:=ay _ av ax;have V:=heap_setCell_same w2 p j _ _ vX U;rw[ai]at V;refine⟨h.turn (L':=λk=>L k\/k=g) am ao (λe Z k l=>?_) (λk l=>?_) V (λk l=>.inl l) r1 fr r2 r3 r4 dQ apart fe (λk l=>?_),λk l=>?_,⟨N.os.trans J.os,N.tape.trans J.tape,N.output.trans J.output,by simp;exact ad,λk l M=>?_⟩,?_,by simp[World.frozen?,U],aw hq ad⟩
 ·obtain⟨G,I,r⟩:=h.BW e Z k l;exact O k (cj r) (λT=>(K k T).2.2.2 e Z l) (fB r h.eb S4)
 ·obtain⟨G,I,r⟩:=cE h.all l;exact O k (cj r) (λT=>(K k T).2.2.1 l) (fB r h.eb S4)
 ·by_cases ab:k=p
  ·subst ab;exact⟨(h.cz k h.here).1,_,_,_,V,.inl rfl⟩
  rw[R k ab];by_cases aa:k=g
  ·subst aa;obtain⟨G,I,r⟩:=ap;refine⟨?_,G,_,I,r,hty⟩;rcases X with h1|h1
   ·exact(h.cz k (K k h1).1).1
   have h8:=(h.cz _ h.here).1;have:=J.size;omega
  rcases l with l|l
  ·by_cases hv:vO.ownBlock=some k
   ·obtain⟨G,I,r⟩:=hold k hv;exact⟨(h.cz k l).1,G,_,I,r,hty⟩
   rw[P k (h.cz.lt l) hv];exact h.cz k l
  exact(aa l).elim
 ·rcases l with l|rfl
  ·exact .inl l
  rcases X with h1|h1
  ·exact .inl (K k h1).1
  rw[h1];exact .inr J.size
 ·exact(R k (λe=>M (e▸h.here))).trans (P k l (λe=>M (K k e).1))
 have:j<(#[C,str (dc s.jr),z,D,B,F]:Array Xb).size:=hj;exact⟨(#[C,str _,z,D,B,F]:Array Xb)[j],by simp[World.cell?,U]⟩
def gj.Nf(h:gj w p s rn L E y C z D B F)(key){w1 w2:Xa}{g m:Nat}(u:Xc w w1)(I:w2.ownsRow 8 9 1 (.slice (some ⟨g,0,none⟩) (s.cm.length+1) m) (s.cm.length+1) (s.cm.map str++[str key]))(M:w1.grownBy w2 D.ownBlock)(G:D.ownBlock=some g\/g=w1.1.size)(hold:∀b,D.ownBlock=some b->∃n r,w2.1[b]?=some (.cells n 9 r)):gj (w2.setCell ⟨p,3,none⟩ (.slice (some ⟨g,0,none⟩) (s.cm.length+1) m)) p {s with cm:=s.cm++[key]} rn (λk=>L k\/k=g) E y C z (.slice (some ⟨g,0,none⟩) (s.cm.length+1) m) B F/\(∀k,(L k\/k=g)->L k\/w.1.size<=k)/\eu L w (w2.setCell ⟨p,3,none⟩ (.slice (some ⟨g,0,none⟩) (s.cm.length+1) m))/\(∃v,w2.cell? ⟨p,3,none⟩=some v)/\w2.frozen? ⟨p,3,none⟩=false/\p<w2.1.size:=by
 refine h.pushed (s':={s with cm:=s.cm++[key]}) (vO:=D) (g:=g) rfl u M (λb l=>⟨h.dQ b (.inr (.inr (.inl l))),h.Fg h.cm S4 b l,kD h.cm h.all S4 b l,λe K=>λO=>?_⟩) rfl G (.inr (.inr (.inr (.inr (.inl rfl))))) hold (cE I rfl) rfl S4 (λW k1 k2=>⟨k1 h.fresh S4 (kD h.fresh h.cm S4),?_,k1 h.cY S4 (λb l J=>h.apart b J l),k1 h.runs S4 (kD h.runs h.cm S4)⟩) ⟨h.fr.dK,h.fr.len,h.fr.base⟩ (λk j=>?_) (λk j=>?_) h.fe
 ·obtain⟨n,r,j⟩:=cE h.cm l;obtain⟨Q,R,N⟩:=h.BW e K b O;exact fB j N S4 rfl
 ·show W.ownsRow 8 _ 1 _ (s.cm++[key]).length _;rw[aj,aZ];exact k2 I rfl
 ·rcases j with j|j|j|j
  ·exact .inl (h.dQ k (.inr (.inl j)))
  ·cases j;exact .inr rfl
  ·exact .inl (h.dQ k (.inr (.inr (.inr (.inl j)))))
  exact .inl (h.dQ k (.inr (.inr (.inr (.inr j)))))
 cases j;rcases G with h1|h1
 ·exact h.apart g h1
 intro P;have:=h.cz.lt (h.dQ g (.inr (.inr (.inr (.inl P)))));have:=u.size;omega
def gj.Dk(h:gj w p s rn L E y C z D B F)(l:List (a_)){w1 w2:Xa}{n g cP:Nat}(u:n=l.length)(J:Xc w w1)(M:w2.ownsRow 8 9 1 (.slice (some ⟨g,0,none⟩) n cP) n (l.map str))(O:w1.grownBy w2 B.ownBlock)(K:B.ownBlock=some g\/g=w1.1.size)
  (hold:∀b,B.ownBlock=some b->∃G I,w2.1[b]?=some (.cells G 9 I)) :
  gj (w2.setCell ⟨p,4,none⟩ (.slice (some ⟨g,0,none⟩) n cP)) p {s with cY:=l} rn (λk=>L k\/k=g) E y C z D (.slice (some ⟨g,0,none⟩) n cP) F/\(∀k,(L k\/k=g)->L k\/w.1.size<=k)/\eu L w (w2.setCell ⟨p,4,none⟩ (.slice (some ⟨g,0,none⟩) n cP))/\(∃v,w2.cell? ⟨p,4,none⟩=some v)/\w2.frozen? ⟨p,4,none⟩=false/\p<w2.1.size:=by
 subst u;refine h.pushed (s':={s with cY:=l}) (vO:=B) (g:=g) rfl J O (λb m=>⟨h.dQ b (.inr (.inr (.inr (.inl m)))),h.Fg h.cY S4 b m,kD h.cY h.all S4 b m,λe N=>λu=>?_⟩) rfl K (.inr (.inr (.inr (.inr (.inl rfl))))) hold (cE M rfl) rfl S4 (λW k1 k2=>⟨k1 h.fresh S4 (kD h.fresh h.cY S4),k1 h.cm S4 h.apart,k2 M rfl,k1 h.runs S4 (kD h.runs h.cY S4)⟩) ⟨h.fr.dK,h.fr.len,h.fr.base⟩ (λk j=>?_) (λk j r=>?_) h.fe
 ·obtain⟨G,I,j⟩:=cE h.cY m;obtain⟨P,Q,r⟩:=h.BW e N b u;exact fB j r S4 rfl
 ·rcases j with j|j|j|j
  ·exact .inl (h.dQ k (.inr (.inl j)))
  ·exact .inl (h.dQ k (.inr (.inr (.inl j))))
  ·cases j;exact .inr rfl
  exact .inl (h.dQ k (.inr (.inr (.inr (.inr j)))))
 cases r;rcases K with h1|h1
 ·exact h.apart g j h1
 have:=h.cz.lt (h.dQ g (.inr (.inr (.inl j))));have:=J.size;omega
def O3{α:Type}(l:List (a_×α))(k:a_)(a):l.length<=(bY.put l k a).length:=by
 unfold bY.put;split
 ·simp
 simp
def KI{α:Type}(l:List (a_×α))(k:a_)(a)(h:bY.cv l k=none):(bY.put l k a).length=l.length+1:=by
 unfold bY.put;rw[ae T3];simp
def qE.push(h:qE s y){key:a_}{r:Wo}(m:key∈bY.dK s.ct)(j:bY.cv s.done key=none):qE {s with done:=bY.put s.done key r} (y++[(key,r)]) where
 dK k b:=by
  show bY.cv _ k=bY.cv _ k;rw[eG,ta,h.dK k b,ee,bY.look_nil];by_cases e:key=k
  ·subst e;rw[j];simp
  simp[e]
 len:=by
  show(y++[(key,r)]).length<=(bY.put s.done key r).length;rw[KI _ _ _ j,aj];have:=h.len;simpa using this
 base k w b l:=by
  have b:=b;rw[eG,ae (λe:key=k=>l (by rw[<-e];exact m))]at b;exact h.base k w b l
def qE.not(h:qE s y){key:a_}{r:Wo}(l:key∉bY.dK s.ct)(m:r=match bY.cv s.ct key with|none=>.error 7|some n=>.ok n.value):qE {s with done:=bY.put s.done key r} y where
 dK k b:=by
  show bY.cv y k=bY.cv _ k;rw[eG,ae (λe=>l (by rw[e];exact b))];exact h.dK k b
 len:=ah h.len (O3 _ _ _)
 base k w b j:=by
  have b:=b;rw[eG]at b;by_cases e:key=k
  ·rw[ag e]at b;cases b;subst e;exact m
  rw[ae e]at b;exact h.base k w b j
def gj.Ng(h:gj w p s rn L E y C z D B F){key:a_}{r:Wo}(e:key∉bY.dK s.ct)(j:r=match bY.cv s.ct key with|none=>.error 7|some l=>.ok l.value):gj w p {s with done:=bY.put s.done key r} rn L E y C z D B F :=h.turn (s':={s with done:=bY.put s.done key r}) rfl (KN.refl w) (λ_ _ _ _=>rfl) (λ_ _=>rfl) h.eb (λ_ h=>h) h.fresh (h.fr.not e j) h.cm h.cY h.runs (λg b=>h.dQ g (.inr b)) h.apart h.fe h.cz
def gj.GW(h:gj w p s rn L E y C z D B F){kY:a_}{r:Wo}(P:kY∈bY.dK s.ct)(hd:bY.cv s.done kY=none){w1 w2:Xa}{g cP:Nat}(G:Xc w w1)(J:w2.ownsRow 8 204 3 (.slice (some ⟨g,0,none⟩) (y.length+1) cP) (y.length+1) (y.flatMap eh++eh (kY,r)))(K:w1.grownBy w2 z.ownBlock)(I:z.ownBlock=some g\/g=w1.1.size)
  (hold:∀b,z.ownBlock=some b->∃n u,w2.1[b]?=some (.cells n 204 u)) :
  gj (w2.setCell ⟨p,2,none⟩ (.slice (some ⟨g,0,none⟩) (y.length+1) cP)) p {s with done:=bY.put s.done kY r} rn (λk=>L k\/k=g) E (y++[(kY,r)]) C (.slice (some ⟨g,0,none⟩) (y.length+1) cP) D B F/\(∀k,(L k\/k=g)->L k\/w.1.size<=k)/\eu L w (w2.setCell ⟨p,2,none⟩ (.slice (some ⟨g,0,none⟩) (y.length+1) cP))/\(∃v,w2.cell? ⟨p,2,none⟩=some v)/\w2.frozen? ⟨p,2,none⟩=false/\p<w2.1.size:=by
 have O:∀e∈E,∀k,e.np.ownBlock=some k->k<w.1.size:=λe m k j=>by
  obtain⟨n,u,l⟩:=h.BW e m k j;exact cj l
 refine h.pushed (s':={s with done:=bY.put s.done kY r}) (fl':=y++[(kY,r)]) (vO:=z) (g:=g) rfl G K (λb l=>⟨h.dQ b (.inr (.inl l)),h.Fg h.fresh S4 b l,kD h.fresh h.all S4 b l,λe m N=>h.fe e m b N l⟩) rfl I (.inr (.inr (.inl rfl))) hold (cE J rfl) rfl S4 (λW k1 k2=>⟨?_,k1 h.cm S4 (kD h.cm h.fresh S4),k1 h.cY S4 (kD h.cY h.fresh S4),k1 h.runs S4 (kD h.runs h.fresh S4)⟩) (h.fr.push P hd) (λk j=>?_) h.apart (λe m k j M=>?_)
 ·rw[aj,Rm];have:[(kY,r)].flatMap eh=eh (kY,r):=S5;rw[this];exact k2 J rfl
 ·rcases j with j|j|j|j
  ·cases j;exact .inr rfl
  ·exact .inl (h.dQ k (.inr (.inr (.inl j))))
  ·exact .inl (h.dQ k (.inr (.inr (.inr (.inl j)))))
  exact .inl (h.dQ k (.inr (.inr (.inr (.inr j)))))
 cases M;rcases I with h1|h1
 ·exact h.fe e m g j h1
 have:=O e m g j;have:=G.size;omega
def gj.O4(h:gj w p s rn L E y C z D B F){b:List (a_)}{Q:a_}(O:s.cm=b++[Q]):∃m j,D=.slice (some ⟨m,0,none⟩) (b.length+1) j/\b.length+1<=j/\gj (w.setCell ⟨p,3,none⟩ (.slice (some ⟨m,0,none⟩) b.length j)) p {s with cm:=b} rn L E y C z (.slice (some ⟨m,0,none⟩) b.length j) B F/\eu L w (w.setCell ⟨p,3,none⟩ (.slice (some ⟨m,0,none⟩) b.length j)):=by
 have G:=h.cm;unfold dX at G;rw[O]at G;rcases G.2 with⟨_,J⟩|⟨m,j,I,n,h2,K,r,M,N,u⟩
 ·simp at J
 rw[aj]at n r u;simp only[aM,Ra,aG]at n r u;subst n;have P:dX w (.slice (some ⟨m,0,none⟩) b.length j) b:=by
  refine⟨by simp,.inr ⟨m,j,I,rfl,h2,K,by omega,M,N,?_⟩⟩;have:=congrArg (List.take b.length) u;rw[SK,aZ]at this;rw[Rh];rw[Rh,SX R5]at this;rw[this];have e:b.length=(b.map str).length:=S5;rw[e,Sd]
 obtain⟨R,S⟩:=h.cellOf (s':={s with cm:=b}) 3 _ (fl':=y) (vF':=z) (vR':=B) (vN':=F) rfl rfl h.fresh ⟨h.fr.dK,h.fr.len,h.fr.base⟩ P h.cY h.runs (λg l=>by
  rcases l with l|l|l
  ·exact h.dQ g (.inr (.inl l))
  ·exact h.dQ g (.inr (.inr (.inl (by cases l;rfl))))
  ·exact h.dQ g (.inr (.inr (.inr l)))) (λg l=>h.apart g l) h.fe
 exact⟨m,j,rfl,r,R,S⟩
end
end Ref
end
section
open Tryz
namespace Ref
variable{l:Array Oper}{K:Act->Xa->Prop}{Q:Exit->Act->Xa->Prop}
def B0{w:Xa}(t ty e z size bytes)(R:prog.underlying t=some (.slice e))(ak:(prog.info? e).map (λi=>(i.zero,i.size,i.bytes))=some (some z,size,bytes))(ap:z.cells.size=size)(ao:0<size)(v n xs)(I:w.ownsRow 8 e size v n xs)(B m c r)(G:r.length=m*size)(O:∀j u,r[j]?=some u->w.cell? (B.add j)=some u)(h1:∀u∈r,u.oneCell'=true)(hm:0<m)(ab:(n+m)*bytes<=140737488355328)(U:n+m<=maxLen)(h8:8<=w.1.size):∃g E y,(Builtin.append_ #[t,t] ty #[v,.slice (some B) m c]).run prog w=.ok (.slice (some ⟨g,0,none⟩) (n+m) E) y/\y.ownsRow 8 e size (.slice (some ⟨g,0,none⟩) (n+m) E) (n+m) (xs++r)/\w.grownBy y v.ownBlock/\(v.ownBlock=some g\/g=w.1.size)/\(∀b,v.ownBlock=some b->∃cs fz,y.1[b]?=some (.cells cs e fz)):=by
 obtain⟨S,N,Y,D,Z⟩:=VW ak;obtain⟨g,E,y,P,V,hg,am,ay⟩:=run_append_lies (P:=prog) w t ty 8 e S z size bytes R N Y D Z ap ao v n xs I B m c r G O h1 hm U ab h8 _ rfl;refine⟨g,E,y,P,V,hg,am,?_⟩;rcases I.2 with⟨rfl,rfl⟩|⟨F,J,aa,rfl,av,M,aC,ax,ai,a0⟩
 ·exact λb L=>by cases L
 intro b L;cases L;by_cases X:n+m<=J
 ·have C:=V0 (P:=prog) w t ty e S R N F n J aa M B m c r (by rw[D];exact G) O h1 X (by
   rw[D,G,ai];have:=Rt size X;rw[SU]at this;exact this)
  rw[P]at C;injection C with p T
  injection p with p _ _
  injection p with p
  injection p with p
  subst p;exact cE V rfl
 have holds:∀j u,xs[j]?=some u->w.cell? ((⟨F,0,none⟩:Addr).add j)=some u:=I.cells (g:=F) rfl;have C:=run_append_grow (P:=prog) w t ty e S z R N Y ⟨F,0,none⟩ n J xs (by rw[D];exact I.1) holds B m c r (by rw[D];exact G) O R5 (by simp only[maxLen]at U;omega) (by rw[Z];exact growslice_fits R5 R5);rw[P]at C;injection C with p T
 rw[T];exact⟨_,_,(heap_alloc_old w.drew _ (cj M)).trans M⟩
def sL{o:Oper}{a:Act}{w:Xa}{E:Prop}(J:o.guard=none)(s x t)(R:o.op=Op.call {callee:=Callee.builtin Builtin.append,args:=#[s,x],argTypes:=#[t,t]})(e z size bytes)(X:prog.underlying t=some (.slice e))(L:(prog.info? e).map (λi=>(i.zero,i.size,i.bytes))=some (some z,size,bytes))(Z:z.cells.size=size)(V:0<size)(v n xs)(U:a.eval s=v)(S:w.ownsRow 8 e size v n xs)(B m c r)(hx:a.eval x=.slice (some B) m c)(M:r.length=m*size)(P:∀j u,r[j]?=some u->w.cell? (B.add j)=some u)(h1:∀u∈r,u.oneCell'=true)(N:0<m)(I:(n+m)*bytes<=140737488355328)(O:n+m<=maxLen)(F:8<=w.1.size)(G:∀g y p,p.ownsRow 8 e size (.slice (some ⟨g,0,none⟩) (n+m) y) (n+m) (xs++r)->w.grownBy p v.ownBlock->(v.ownBlock=some g\/g=w.1.size)->(∀b,v.ownBlock=some b->∃C D,p.1[b]?=some (.cells C e D))->K (a.put o.dst (.slice (some ⟨g,0,none⟩) (n+m) y)) p):if Region.wanted o (yielded l a.tmps)=true then Oper.wp prog o a w K Q else E:=by
 have Y:Region.wanted o (yielded l a.tmps)=true:=by simp[Region.wanted,J]
 rw[ag Y];obtain⟨g,y,p,T,r1,r2,r3,r4⟩:=B0 t o.type e z size bytes X L Z V v n xs S B m c r M P h1 N I O F;unfold Oper.wp;simp[execOp,R,resolve,invoke,builtin,U,hx,T,Result.andThen];exact G g y p r1 r2 r3 r4
end Ref
end
