/- Out of Bc. -/
import Derived.Test.YtpekpdimdelncaaGreatDoorP27
import Derived.Test.YtpekpdimdelncaaGreatDoorP28
set_option linter.unusedVariables false
set_option linter.unusedSimpArgs false
set_option maxRecDepth 100000
set_option maxHeartbeats 4000000
set_option linter.defProp false
namespace Go.Proofs.YtpekpdimdelncaaGreatDoor
open Go.RowKit Go.Shelf
section
open bY
open Tryz
namespace Ref
variable{h:List (a_×cC)}{k x:a_}{v:Xb}{l:List (a_)}
def z'(w a n c e b):(binOp .eql 80 (.slice a n c) (.slice none e b)).run prog w=.ok (.bool a.isNone) w :=Lib.run_eql_slice_nil w _ _ a n c e b underlying80
def yD{w W:Xa}(e:Xc w W)(a b):Xc w ((W.setCell ⟨w.1.size,0,none⟩ a).setCell ⟨w.1.size,1,none⟩ b) :=⟨e.os,e.tape,e.output,by simp;exact e.size,λk j=>by
  rw[VU _ ⟨w.1.size,1,none⟩ k _ (by show k≠w.1.size;omega),VU _ ⟨w.1.size,0,none⟩ k _ (by show k≠w.1.size;omega)];exact e.block k j⟩
def oh(j:k∈bY.dK h)(b:bY.cv h k=none):False:=by
 obtain⟨p,e,rfl⟩:=aE.1 j;exact jz.1 b p (Sj.1 e).1 rfl
def qG{th:cC}(j:k∈bY.dK h)(b:bY.cv h k=some th)(hd:(h.map (·.1)).Nodup):∃t,th.di=some t:=by
 obtain⟨⟨k',m⟩,e,rfl⟩:=aE.1 j;obtain⟨h1,h2⟩:=Sj.1 e;rw[vJ hd h1]at b;cases b;exact Su.1 h2
def rL{w:Xa}(h:dX w v l){j:Nat}(hx:l[j]?=some x):∃g b,v=.slice (some ⟨g,0,none⟩) l.length b/\l.length<=b/\g<w.1.size/\w.cell? ⟨g,j,none⟩=some (str x):=by
 have u:=(aA.1 hx).1;rcases h.2 with⟨_,r⟩|⟨g,b,p,e,_,m,n,_⟩
 ·omega
 subst e;exact⟨g,b,rfl,n,cj m,(dX.cell h).2 j x hx⟩
def sN(s:LS)(k:a_):Wo:=match bY.cv s.ct k with|none=>.error 7|some b=>.ok b.value
def B1(w p s rn L)(key:ba)(h:fJ p s rn w L)(K:s.ct.length<=1000)(N:key.1.1∉bY.dK s.ct):Calls prog 109 #[ptr p,.string key] w λe G=>e=.returned (dC (sN s key.1.1))/\Xc w G:=by
 have h1:=h.below (eg w);have hF:=lT (dV w) p s rn L key h1 K;have aa:=z';obtain⟨Z,fl,vA,vF,vB,vR,vN,h1⟩:=h1;obtain⟨X,_,_,_,_,_,_⟩:=h1.cells;have ad:=cj h1.eb;obtain⟨y,b1,b2,z,B⟩:=cX (eP w);have I:=bZ h1;have u:=bZ (λa b=>yD (eg w) a b);unfold ptr at hF ⊢;have j:=bZ hF;clear h1 h hF;unfold dV at *;go_enter func109,ntmps109;go_wp2_with fail;generalize w.alloc (.cells #[.int .i64 0,.string ⟨#[]⟩] 166)=V at *;refine j.Z.mono ?_;rintro e G⟨R,hx⟩;have S:=R.symm;subst S;rcases hx with⟨M,rfl⟩|⟨i,r,F,E,rfl⟩
 ·clear j;go_wp2;exact VN (v:=.agg #[.int .i64 7,.string ⟨#[]⟩]) UN rfl ⟨by unfold sN;rw[M];rfl,u.Z _ _⟩
 have O:r.di=none:=by
  cases P:r.di with
  |none=>rfl
  |some t=>exact absurd (iq E (by rw[P];rfl)) N
 obtain⟨e,g,Y,he,D,Q,hg,n⟩:=I.Z.entry F;subst Q;have T:=n 1 _ rfl;have U:=n 2 _ rfl;have hi:=(aA.1 F).1;have ab:(i:Int)<(s.ct.length:Int):=R5;rcases D.fc with⟨_,h2,J⟩|⟨t,ns,m,o,c,C,_⟩
 ·rw[J]at U;obtain⟨x,hx⟩:∃x:ba,str (bY.wr 3 r.value)=.string x:=⟨_,rfl⟩;rw[h2,hx]at T;clear j n D;go_wp2;exact VN (v:=.agg #[.int .i64 0,.string x]) UN rfl ⟨by unfold sN;rw[E];show _=Ending.returned (.agg #[_,str _]);rw[hx],u.Z _ _⟩
 rw[O]at C;cases C
def z_(w J s rn L)(key:ba)(h:fJ J s rn w L)(hl:s.ct.length<=1000)(aa:s.done.length<=1000000)(G:key.1.1∈bY.dK s.ct){r:Wo}(hr:bY.cv s.done key.1.1=some r):Calls prog 109 #[ptr J,.string key] w λe X=>e=.returned (dC r)/\Xc w X:=by
 have h1:=h.below (eg w);have hF:=lT (dV w) J s rn L key h1 hl;have ao:=z';obtain⟨es,j,vA,vF,vB,vR,vN,h1⟩:=h1;obtain⟨c0,_,c2,_,_,_,_⟩:=h1.cells;have aC:=cj h1.eb;obtain⟨b0,b1,b2,b3,b4⟩:=cX (eP w);have R:=h1.fr.dK _ G;rw[hr]at R;have ap:j.length<=1000000:=ah h1.fr.len aa;obtain⟨oF,cF,rfl⟩:=dD h1.fresh;have z:=bZ h1;have Y:=bZ (λa b=>yD (eg w) a b);unfold ptr at hF ⊢;have N:=bZ hF;clear h1 h hF;unfold dV at *;go_enter func109,ntmps109;go_wp2_with fail;generalize w.alloc (.cells #[.int .i64 0,.string ⟨#[]⟩] 166)=W0 at *;refine N.Z.mono ?_;rintro e X⟨ad,hx⟩;have ai:=ad.symm;subst ai;rcases hx with⟨hn,rfl⟩|⟨i,th,U,ab,rfl⟩
 ·exact(oh G hn).elim
 obtain⟨t,ht⟩:=qG G ab z.Z.nodup;obtain⟨e,g,ak,he,O,F,hg,Q⟩:=z.Z.entry U;subst F;have z2:=Q 2 _ rfl;have hi:=(aA.1 U).1;have ax:(i:Int)<(s.ct.length:Int):=R5;rcases O.fc with⟨u,_⟩|⟨t,ns,m,o,c,h4,_,h5,_⟩
 ·have u:th.di=none:=u;rw[ht]at u;cases u
 rw[h5]at z2;clear N Q O;go_wp2
 go_loopw [6] (λI wr=>∃i:Nat,I=.int .i64 (i:Int)/\i<=j.length/\wr=W0/\Hid (bY.cv (j.drop i) key.1.1=some r)) (λI _=>j.length-(intOf I).toNat)
 case atStart=>exact⟨0,rfl,ar _,rfl,bZ R⟩
 case round =>
  obtain⟨k,rfl,hk,rfl,HL⟩:=hrel;by_cases S:k<j.length
  ·have ay:(k:Int)<(j.length:Int):=R5;have D:=aq S;have C:=aU S;generalize j[k]=q at D C;obtain⟨gF,am,F,av,p⟩:=fK tA S4 z.Z.fresh D;cases F;obtain⟨K,M,E⟩:=dw q.2;have V:dY q.2=[.int .i64 K,.string M]:=by
    obtain⟨q1,q2⟩:=q;cases q2<;>(cases E;rfl)
   obtain⟨x,hx⟩:∃x:ba,str q.1=.string x:=⟨_,rfl⟩;have y:=fO hx;have T:eh q=[.string x,.int .i64 K,.string M]:=by unfold eh;rw[V,hx]
   rw[T]at p;have y0:=p 0 _ rfl;have y1:=p 1 _ rfl;have y2:=p 2 _ rfl;simp only[aR]at y0;have P:=jo x key;have B:=bZ (And.intro C E);clear C p hx D T V E;by_cases n:x.1.1=key.1.1
   ·rw[aQ n]at P;have HR:Hid (r=q.2):=bZ (by
     have:=HL.Z;rw[B.Z.1,ee,ag (y.symm.trans n)]at this;exact(aB this).symm)
    clear n y;go_wp2;exact VN (v:=.agg #[.int .i64 K,.string M]) UO rfl ⟨by rw[HR.Z,B.Z.2],Y.Z _ _⟩
   rw[aN n]at P;have Z:Hid (¬q.1=key.1.1):=bZ (λe=>n (y.trans e));clear n y;go_wp2;refine⟨⟨k+1,by go_num,by omega,by first|rfl|trivial,bZ (by have:=HL.Z;rw[B.Z.1,ee,ae Z.Z]at this;exact this)⟩,?_⟩;simp[intOf];omega
  have:=HL.Z;rw[aT R5]at this;cases this
end Ref
end
section
open bY
namespace Ref
def xC(h:List (a_×cC))(j:List (a_×Wo)):List (a_×Wo):=j.map λp=>(p.1,if p.1∈bY.dK h then p.2 else match bY.cv h p.1 with|none=>.error 7|some b=>.ok b.value)
def yE(h:List (a_×cC))(j)(k:a_):bY.cv (xC h j) k=(bY.cv j k).map λr=>if k∈bY.dK h then r else match bY.cv h k with|none=>.error 7|some b=>.ok b.value:=by
 unfold xC;exact jI _ (λk r=>if k∈bY.dK h then r else match bY.cv h k with|none=>.error 7|some b=>.ok b.value) (λp=>rfl) j k
def Aa(s:LS)(h:List (a_×cC))(j):qE {s with ct:=h,done:=xC h j} j where
 dK k b:=by
  show _=bY.cv (xC h j) k;rw[yE];have b:k∈bY.dK h:=b;simp only[ag b];cases bY.cv j k<;>rfl
 len:=by
  show j.length<=(xC h j).length;unfold xC;rw[aH];exact af _
 base k w b e:=by
  have b:bY.cv (xC h j) k=some w:=b;have e:k∉bY.dK h:=e;rw[yE]at b;simp only[ae e]at b;cases m:bY.cv j k with
  |none=>rw[m]at b;cases b
  |some r =>
   rw[m]at b;exact(aB b).symm
section
variable {w w':Xa}{l:Nat}{s s':LS}{rn:List (a_)}{L:Nat->Prop}{E es':List En}{j:List (a_×Wo)}{y z B D C vX:Xb}
def gj.KJ(h:gj w l s rn L E j y z B D C)(K:eu (λk=>k=l\/y.ownBlock=some k) w w')(V:w'.1[l]?=some (.cells #[vX,str (dc s.jr),z,B,D,C] 101 (0,0)))(hold:∀b,y.ownBlock=some b->∃F G,w'.1[b]?=some (.cells F 168 G))(O:w'.ownsRow 8 168 7 vX es'.length (es'.flatMap En.cells))(hX:∀g,vX.ownBlock=some g->y.ownBlock=some g\/w.1.size<=g)(hlen:es'.length=s'.ct.length)(ak:∀(i:Nat) (p:a_×cC) (e),s'.ct[i]?=some p->es'[i]?=some e->pB w L rn p e)(am:s'.jr=s.jr)(ai:s'.cm=s.cm)(ax:s'.cY=s.cY)(av:s'.du=s.du)(fr:qE s' j)(ap:(s'.ct.map (·.1)).Nodup)(ab:∀e∈es',∀g,e.np.ownBlock=some g->z.ownBlock≠some g):gj w' l s' rn (λk=>L k\/vX.ownBlock=some k) es' j vX z B D C/\(∀k,(L k\/vX.ownBlock=some k)->L k\/w.1.size<=k)/\eu L w w':=by
 have aa:∀b,y.ownBlock=some b->∃F G,w.1[b]?=some (.cells F 168 G):=λb I=>cE h.all I;have hty:∀(k:Nat) (F:Array Xb) (t:TypeId) (G:Nat×Nat),w.1[k]?=some (.cells F t G)->t≠101->t≠168->w'.1[k]?=w.1[k]? := λk F t G r h1 h2=>K.block k (cj r) (λe=>by
  rcases e with e|e
  ·exact fB r h.eb h1 e
  ·obtain⟨Q,R,I⟩:=aa k e;exact fB r I h2 rfl)
 have M:∀{t:TypeId}{m n:Nat}{u:Xb}{xs:List Xb},t≠101->t≠168->w.ownsRow 8 t m u n xs->w'.ownsRow 8 t m u n xs:=λh1 h2 ho=>cJ ho (λg J F G r=>(hty g _ _ _ r h1 h2).trans r);have ao:KN w w':=λk F t G r N=>(hty k F t G r (λe=>by rcases N with rfl|rfl<;>cases e) (λe=>by rcases N with rfl|rfl<;>cases e)).trans r;have U:∀b,y.ownBlock=some b->L b:=λb I=>h.dQ b (.inl I);refine⟨⟨by rw[am];exact V,.inl h.here,O,hlen,λi p e hp he=>?_,M S4 S4 h.fresh,fr,by rw[ai];exact M S4 S4 h.cm,by rw[ax];exact M S4 S4 h.cY,by rw[av];exact M S4 S4 h.runs,λg J=>?_,h.apart,ab,ap,λk r=>?_⟩,λk r=>?_,⟨K.os,K.tape,K.output,K.size,λk r Y=>K.block k r (λe=>?_)⟩⟩
 ·have T:=ak i p e hp he;refine T.st (λg J hl=>?_) ao (λk r=>.inl r);rcases T.kept with⟨_,_,e0⟩|⟨kp,_,_,_,h4,_⟩
  ·rw[e0]at J;cases J
  obtain⟨F,G,I⟩:=cE h4 J;exact hty g _ _ _ I S4 S4
 ·rcases J with J|J
  ·exact .inr J
  exact .inl (h.dQ g (.inr J))
 ·by_cases X:k=l
  ·subst X;exact⟨(h.cz k h.here).1,_,_,_,V,.inl rfl⟩
  by_cases P:vX.ownBlock=some k
  ·obtain⟨F,G,I⟩:=cE O P;exact⟨(VT O k P).1,_,_,_,I,.inr (.inl rfl)⟩
  rcases r with r|r
  ·obtain⟨S,F,t,G,I,N⟩:=h.cz k r;by_cases Z:y.ownBlock=some k
   ·obtain⟨Q,R,ad⟩:=hold k Z;exact⟨S,Q,_,R,ad,.inr (.inl rfl)⟩
   exact⟨S,F,t,G,(K.block k (cj I) (λe=>by rcases e with e|e;exact X e;exact Z e)).trans I,N⟩
  exact(P r).elim
 ·rcases r with r|r
  ·exact .inl r
  rcases hX k r with h1|h1
  ·exact .inl (U k h1)
  exact .inr h1
 rcases e with e|e
 ·exact Y (by rw[e];exact h.here)
 exact Y (U k e)
end
def jm(l:Nat)(s:LS)(w:Xa)(L:Nat->Prop):Prop:=∃d,fJ l {s with done:=d} [] w L
def jm.below{w w':Xa}{l:Nat}{s:LS}{L:Nat->Prop}(h:jm l s w L)(b:Xc w w'):jm l s w' L:=by
 obtain⟨d,h⟩:=h;exact⟨d,h.below b⟩
def fJ.Q1{w:Xa}{l:Nat}{s:LS}{L:Nat->Prop}(h:fJ l s [] w L):jm l s w L:=⟨s.done,h⟩
def jm.cz{w:Xa}{l:Nat}{s:LS}{L:Nat->Prop}(h:jm l s w L):Typed w L:=by
 obtain⟨d,h⟩:=h;exact h.cz
end Ref
namespace Ref
def Nh(l:List Xb)(o:Nat)(c:List Xb):List Xb:=match c with
 |[a,b,d,e,f,g,h]=>((((((l.set o a).set (o+1) b).set (o+2) d).set (o+3) e).set (o+4) f).set (o+5) g).set (o+6) h
 |_=>l
def KK(p l o c):Nh (p++l) (p.length+o) c=p++Nh l o c:=by
 have b:∀(l:List Xb) (k:Nat) (v:Xb),(p++l).set (p.length+k) v=p++l.set k v:=λl k v=>by
  rw[SH _ _ (aI _ _),RQ]
 unfold Nh;split
 ·rw[b,RJ,b,RJ,b,RJ,b,RJ,b,RJ,b,RJ,b]
 rfl
def Ab(e:En):∃a b c d f g h,e.cells=[a,b,c,d,f,g,h]:=by
 obtain⟨k,t,r,j,l,w⟩:=e;cases w<;>exact⟨_,_,_,_,_,_,_,rfl⟩
def yF:∀(l:List En) (k) (a b),l[k]?=some a->(l.set k b).flatMap En.cells=Nh (l.flatMap En.cells) (k*7) b.cells
 |[],k,a,b,h=>by cases h
 |x::l,0,a,b,h=>by
  cases h;obtain⟨j,p,r,F,G,I,J,e⟩:=Ab x;obtain⟨b1,b2,N,O,P,Q,R,K⟩:=Ab b;rw[Xd,Q7,Q7,e,K];rfl
 |x::l,k+1,a,b,h=>by
  have M:x.cells.length=7:=by
   obtain⟨j,p,r,F,G,I,J,e⟩:=Ab x;rw[e];rfl
  rw[Xe,Q7,Q7,yF l k a b h,show(k+1)*7=x.cells.length+k*7 by rw[M];omega,KK]
def KL{w:Xa}{m:List En}{g j i:Nat}{e e':En}(h:w.ownsRow 8 168 7 (.slice (some ⟨g,0,none⟩) m.length j) m.length (m.flatMap En.cells))(K:m[i]?=some e){a b c d f p q:Xb}(J:e'.cells=[a,b,c,d,f,p,q]):(((((((w.setCell ⟨g,i*7,none⟩ a).setCell ⟨g,i*7+1,none⟩ b).setCell ⟨g,i*7+2,none⟩ c).setCell ⟨g,i*7+3,none⟩ d).setCell ⟨g,i*7+4,none⟩ f).setCell ⟨g,i*7+5,none⟩ p).setCell ⟨g,i*7+6,none⟩ q).ownsRow 8 168 7 (.slice (some ⟨g,0,none⟩) m.length j) m.length ((m.set i e').flatMap En.cells) /\eu (λk=>k=g) w (((((((w.setCell ⟨g,i*7,none⟩ a).setCell ⟨g,i*7+1,none⟩ b).setCell ⟨g,i*7+2,none⟩ c).setCell ⟨g,i*7+3,none⟩ d).setCell ⟨g,i*7+4,none⟩ f).setCell ⟨g,i*7+5,none⟩ p).setCell ⟨g,i*7+6,none⟩ q):=by
 obtain⟨l,f0⟩:=i_ h (i*7) a;obtain⟨h1,f1⟩:=i_ l (i*7+1) b;obtain⟨h2,f2⟩:=i_ h1 (i*7+2) c;obtain⟨r,f3⟩:=i_ h2 (i*7+3) d;obtain⟨F,f4⟩:=i_ r (i*7+4) f;obtain⟨G,f5⟩:=i_ F (i*7+5) p;obtain⟨I,f6⟩:=i_ G (i*7+6) q;refine⟨?_,ja (ja (ja (ja (ja (ja f0 f1) f2) f3) f4) f5) f6⟩;rw[yF m i e e' K,J];exact I
def C1{h:List (a_×cC)}{i:Nat}{key:a_}{th F:cC}(hd:(h.map (·.1)).Nodup)(b:h[i]?=some (key,F)):bY.put h key th=h.set i (key,th):=by
 have l:(bY.cv h key).isSome=true:=by rw[lf hd b];rfl
 unfold bY.put;rw[ag l];apply Se;intro j;rw[Q6];by_cases e:i=j
 ·subst e;rw[Q8 (aA.1 b).1,b];simp
 rw[RG e];cases r:h[j]? with
 |none=>rfl
 |some q =>
  have p:=pZ hd b r e;simp[p]
def zg{h:List (a_×cC)}{key:a_}{th:cC}(b:bY.cv h key=none):bY.put h key th=h++[(key,th)]:=by
 unfold bY.put;rw[ae TG]
def kL{h:List (a_×cC)}{i:Nat}{key:a_}{th e:cC}(b:h[i]?=some (key,e)):(h.set i (key,th)).map (·.1)=h.map (·.1):=by
 rw[R3];exact kR _ i key (by rw[Q6,b];rfl)
def Fh{w:Xa}{L:Nat->Prop}{key text:a_}{fc:Xb}{th:cC}(b:km w th ⟨key,text,fc,false,.slice none 0 0,.error 0⟩)(e:th.kept=none):pB w L [] (key,th) ⟨key,text,fc,false,.slice none 0 0,.error 0⟩ :=⟨rfl,b,.inl ⟨by rw[ae S5];exact e,rfl,rfl⟩⟩
section
variable {w w':Xa}{n:Nat}{s:LS}{L:Nat->Prop}{m:List En}{u:List (a_×Wo)}{y z B D C E:Xb}{kY tX:a_}{fc:Xb}{th:cC}
def gj.O5{g M:Nat}(h:gj w n s [] L m u (.slice (some ⟨g,0,none⟩) m.length M) z B D C){i:Nat}{aa:cC}{e:En}(N:s.ct[i]?=some (kY,aa))(X:m[i]?=some e)(U:km w th ⟨kY,tX,fc,false,.slice none 0 0,.error 0⟩)(J:th.kept=none)(F:eu (λk=>k=g) w w')(P:w'.ownsRow 8 168 7 (.slice (some ⟨g,0,none⟩) m.length M) m.length ((m.set i ⟨kY,tX,fc,false,.slice none 0 0,.error 0⟩).flatMap En.cells)):fb (jm n {s with ct:=bY.put s.ct kY th}) w L w':=by
 obtain⟨ab,ad,Q⟩:=cE h.all (g:=g) rfl;have Y:n≠g:=λe=>by rw[<-e,h.eb]at Q;cases Q
 have O:=C1 (th:=th) h.nodup N;have T:∀(j:Nat) (p:a_×cC) (l:En),(bY.put s.ct kY th)[j]?=some p->(m.set i ⟨kY,tX,fc,false,.slice none 0 0,.error 0⟩)[j]?=some l->pB w L [] p l:=λj p l I r=>by
  rw[O]at I;by_cases R:i=j
  ·subst R;rw[Q8 (aA.1 N).1]at I;rw[Q8 (aA.1 X).1]at r;cases I;cases r;exact Fh U J
  rw[RG R]at I r;exact h.p6 j p l I r
 have S:∀l∈m.set i ⟨kY,tX,fc,false,.slice none 0 0,.error 0⟩,∀G,l.np.ownBlock=some G->z.ownBlock≠some G:=λl r G K=>by
  rcases SG r with Z|rfl
  ·exact h.fe l Z G K
  cases K
 obtain⟨r1,r2,r3⟩:=h.KJ (s':={s with ct:=bY.put s.ct kY th,done:=xC (bY.put s.ct kY th) u}) (es':=m.set i ⟨kY,tX,fc,false,.slice none 0 0,.error 0⟩) (vX:=.slice (some ⟨g,0,none⟩) m.length M) (w':=w') ⟨F.os,F.tape,F.output,F.size,λk J hn=>F.block k J (λe=>hn (.inr TR))⟩ ((F.block n (cj h.eb) Y).trans h.eb) (λb V=>by cases V;exact cE P rfl) (by rw[aY];exact P) (λG K=>.inl K) (by
   show _=(bY.put s.ct kY th).length;rw[O,aY,aY];exact h.jN) T rfl rfl rfl rfl (Aa s _ u) (by
   show((bY.put s.ct kY th).map (·.1)).Nodup;rw[O,kL N];exact h.nodup) S
 exact⟨_,⟨_,_,_,_,_,_,_,_,r1⟩,r2,λk J=>.inl J,r3⟩
def gj.Ni(h:gj w n s [] L m u y z B D C)(Z:bY.cv s.ct kY=none)(hR:km w th ⟨kY,tX,fc,false,.slice none 0 0,.error 0⟩)(l:th.kept=none){w1 w2:Xa}{g cP:Nat}(F:Xc w w1)(ho:w2.ownsRow 8 168 7 (.slice (some ⟨g,0,none⟩) (m.length+1) cP) (m.length+1) (m.flatMap En.cells++En.cells ⟨kY,tX,fc,false,.slice none 0 0,.error 0⟩))(J:w1.grownBy w2 y.ownBlock)(aa:y.ownBlock=some g\/g=w1.1.size)(hold:∀b,y.ownBlock=some b->∃M N,w2.1[b]?=some (.cells M 168 N)):fb (jm n {s with ct:=bY.put s.ct kY th}) w L (w2.setCell ⟨n,0,none⟩ (.slice (some ⟨g,0,none⟩) (m.length+1) cP))/\(∃v,w2.cell? ⟨n,0,none⟩=some v)/\w2.frozen? ⟨n,0,none⟩=false/\n<w2.1.size:=by
 have hq:=cj h.eb;have T:y.ownBlock≠some n:=λe=>by
  obtain⟨M,N,r⟩:=cE h.all e;rw[h.eb]at r;cases r
 have Y:∀k,k<w.1.size->y.ownBlock≠some k->w2.1[k]?=w.1[k]? := λk l R=>(J.block k (aw l F.size) (λe=>R e.symm)).trans (F.block k l);have S:w2.1[n]?=_:=(Y _ hq T).trans h.eb;have V:∀k,k≠n->(w2.setCell ⟨n,0,none⟩ (.slice (some ⟨g,0,none⟩) (m.length+1) cP)).1[k]?=w2.1[k]? := λk l=>VU w2 ⟨n,0,none⟩ k _ l;have ak:g≠n:=λe=>by
  rcases aa with h|h
  ·exact T (e▸h)
  have:=F.size;omega
 have U:=zg (th:=th) Z;have ai:∀(j:Nat) (p:a_×cC) (G:En),(bY.put s.ct kY th)[j]?=some p->(m++[(⟨kY,tX,fc,false,.slice none 0 0,.error 0⟩:En)])[j]?=some G->pB w L [] p G:=λj p G K I=>by
  rw[U]at K;by_cases ab:j<m.length
  ·rw[aP (by rw[<-h.jN];exact ab)]at K;rw[aP ab]at I;exact h.p6 j p G K I
  rw[aX (by rw[<-h.jN];omega)]at K;rw[aX R5]at I;have X:j-m.length=0:=by
   have:=(aA.1 I).1;simp at this;omega
  rw[<-h.jN,X]at K;rw[X]at I;cases K;cases I;exact Fh hR l
 have ad:∀G∈m++[(⟨kY,tX,fc,false,.slice none 0 0,.error 0⟩:En)],∀O,G.np.ownBlock=some O->z.ownBlock≠some O:=λG I O P=>by
  rcases aL.1 I with Q|Q
  ·exact h.fe G Q O P
  simp at Q;subst Q;cases P
 obtain⟨r1,r2,r3⟩:=h.KJ (s':={s with ct:=bY.put s.ct kY th,done:=xC (bY.put s.ct kY th) u}) (es':=m++[⟨kY,tX,fc,false,.slice none 0 0,.error 0⟩]) (vX:=.slice (some ⟨g,0,none⟩) (m.length+1) cP) (w':=w2.setCell ⟨n,0,none⟩ (.slice (some ⟨g,0,none⟩) (m.length+1) cP)) ⟨J.os.trans F.os,J.tape.trans F.tape,J.output.trans F.output,by simp;exact ah F.size J.size,λk l R=>(V k (λe=>R (.inl e))).trans (Y k l (λe=>R (.inr e)))⟩ (heap_setCell_same w2 n 0 _ _ _ S) (λb r=>by
   obtain⟨M,N,l⟩:=hold b r;exact⟨M,N,(V b (λe=>T (e▸r))).trans l⟩) (by
   rw[aj,Rm];have:[(⟨kY,tX,fc,false,.slice none 0 0,.error 0⟩:En)].flatMap En.cells=En.cells ⟨kY,tX,fc,false,.slice none 0 0,.error 0⟩:=S5;rw[this];exact cJ ho (λk l M N r=>by cases l;exact(V g ak).trans r)) (λO P=>by
   cases P;rcases aa with h1|h1
   ·exact .inl h1
   ·rw[h1];exact .inr F.size) (by
   show _=(bY.put s.ct kY th).length;rw[U,aj,aj,h.jN];rfl) ai rfl rfl rfl rfl (Aa s _ u) (by
   show((bY.put s.ct kY th).map (·.1)).Nodup;rw[U,aZ];refine Sh.2 ⟨h.nodup,by simp,λa ha b r=>?_⟩;simp at r;subst r;intro e;subst e;obtain⟨p,hp,e⟩:=aE.1 ha;exact jz.1 Z p hp e) ad
 exact⟨⟨_,⟨_,_,_,_,_,_,_,_,r1⟩,r2,λk l=>.inl l,r3⟩,⟨_,by simp[World.cell?,S];rfl⟩,by simp[World.frozen?,S],aw hq (ah F.size J.size)⟩
end
end Ref
end
section
open Tryz
namespace Ref
variable{v:Xb}{l:List En}{h:List (a_×bY.cC)}{s:bY.LS}{L:Nat->Prop}{m:List (a_×bY.Wo)}{key:a_}
def D3:(prog.info? 168).map (λi=>(i.zero,i.size,i.bytes))=some (some (.agg #[.string ⟨#[]⟩,.string ⟨#[]⟩,.slice none 0 0,.bool false,.slice none 0 0,.int .i64 0,.string ⟨#[]⟩]),7,112):=S8
def Oa:(Value.agg #[.string ⟨#[]⟩,.string ⟨#[]⟩,.slice none 0 0,.bool false,.slice none 0 0,.int .i64 0,.string ⟨#[]⟩]).cells.size=7:=S8
def Ac(w e j n b p)(u:n<=b):(Builtin.append_ #[97,97] 97 #[.slice e n b,.slice j 0 p]).run prog w=.ok (.slice e n b) w:=by
 obtain⟨C,r,y,z,B⟩:=VW D3;cases e<;>cases j<;>simp[Builtin.append_,run_underlying underlying97,Builtin.lenOf,Builtin.firstCells,sizeOf,typeInfo,r,u,storeCells,loadCells,loadCellsFrom]
structure tQ(w0 w:Xa)(v:Xb)(l:List En):Prop where
 row:w.ownsRow 8 168 7 v l.length (l.flatMap En.cells)
 new:∀g,v.ownBlock=some g->w0.1.size<=g
 eD:Xc w0 w
theorem tQ.nil(w):tQ w w (.slice none 0 0) []:=⟨⟨rfl,.inl ⟨rfl,rfl⟩⟩,(λg b=>by cases b),VM _ _⟩
def tQ.form{w0 w:Xa}(h:tQ w0 w v l):∃o c,v=.slice o l.length c/\l.length<=c:=by
 rcases h.row.2 with⟨e,b⟩|⟨g,n,p,e,_,_,j,_⟩
 ·exact⟨none,0,by rw[b];exact e,by omega⟩
 exact⟨_,_,e,j⟩
def wN:∀b:List En,(b.flatMap En.cells).length=b.length*7
 |[]=>rfl
 |e::b=>by rw[Q7,aj,wN b,nZ,aM];omega
def tQ.join{w0 w:Xa}{ks:List En}{g off c:Nat}(h:tQ w0 w v l)(M:∀j u,(ks.flatMap En.cells)[j]?=some u->w.cell? ⟨g,off+j,none⟩=some u)(h1:∀u∈ks.flatMap En.cells,u.oneCell'=true)(E:8<=w0.1.size)(S:l.length+ks.length<=1000):∃r b z,(Builtin.append_ #[97,97] 97 #[v,.slice (some ⟨g,off,none⟩) ks.length c]).run prog w=.ok (.slice r (l.length+ks.length) b) z/\tQ w0 z (.slice r (l.length+ks.length) b) (l++ks):=by
 by_cases D:ks.length=0
 ·have e:ks=[]:=R4.1 D;subst e;obtain⟨r,b,rfl,I⟩:=h.form;exact⟨r,b,w,Ac w r _ l.length b c I,by rw[RD];exact h⟩
 obtain⟨Q,F,N,O,P⟩:=VW D3;obtain⟨C,B,z,K,J,n,p,R⟩:=run_append_lies (P:=prog) w 97 97 8 168 Q _ 7 112 underlying97 F N O P Oa S4 v l.length (l.flatMap En.cells) h.row ⟨g,off,none⟩ ks.length c (ks.flatMap En.cells) (wN ks) (λj u G=>by
  rw[addr_add];exact M j u G) h1 R5 Th R5 (ah E h.eD.size) _ rfl
 refine⟨some ⟨C,0,none⟩,B,z,K,⟨?_,λk y=>?_,?_⟩⟩
 ·rw[aj,Rm];exact J
 ·cases y;rcases p with p|p
  ·exact h.new _ p
  rw[p];exact h.eD.size
 exact⟨n.os.trans h.eD.os,n.tape.trans h.eD.tape,n.output.trans h.eD.output,ah h.eD.size n.size,λk y=>(n.block k (aw y h.eD.size) (λe=>by have:=h.new k e.symm;omega)).trans (h.eD.block k y)⟩
def C2:∀{i:Nat}{key:a_}{j:bY.cC},(h.map (·.1)).Nodup->h[i]?=some (key,j)->bY.del h key=h.take i++h.drop (i+1):=by
 induction h with
 |nil=>intro i key j _ b;cases b
 |cons x h r =>
  intro i key j hd b;have n:=R1.1 (show(x.1::h.map (·.1)).Nodup from hd);cases i with
  |zero =>
   cases b;show List.filter _ _=_;rw[R_,ae S5];show List.filter _ h=h;refine S6.2 (λa p=>?_);have:a.1≠key:=λe=>n.1 (by rw[<-e];exact aE.2 ⟨a,p,rfl⟩);simp[this]
  |succ i =>
   have b:h[i]?=some (key,j):=b;have hx:x.1≠key:=λe=>n.1 (by rw[e];exact aE.2 ⟨_,aJ b,rfl⟩);show List.filter _ _=_;rw[R_,ag TN];show x::bY.del h key=_;rw[r n.2 b];rfl
def qm{α:Type}(l:List α)(i j):(l.take i++l.drop (i+1))[j]?=if j<i then l[j]? else l[j+1]? := by
 by_cases hi:i<=l.length
 ·have e:(l.take i).length=i:=T7;by_cases b:j<i
  ·rw[ag b,aP R5,S2,ag b]
  rw[ae b,aX R5,Tb,e]
  congr 1
  omega
 rw[Ri R5,aT R5,RD];by_cases b:j<i
 ·rw[ag b]
 rw[ae b,SZ R5,SZ R5]
def gj.KM{w w':Xa}{n:Nat}{z:List En}{R S vB vR vN vX:Xb}{th:bY.cC}{i:Nat}(h:gj w n s [] L z m R S vB vR vN)(P:s.ct[i]?=some (key,th))(u:tQ w w' vX (z.take i++z.drop (i+1))):fb (jm n {s with ct:=bY.del s.ct key}) w L (w'.setCell ⟨n,0,none⟩ vX)/\w'.cell? ⟨n,0,none⟩=some R/\w'.frozen? ⟨n,0,none⟩=false/\n<w'.1.size:=by
 have Q:=cj h.eb;have F:w'.1[n]?=_:=(u.eD.block n Q).trans h.eb;have J:∀k,k≠n->(w'.setCell ⟨n,0,none⟩ vX).1[k]?=w'.1[k]? := λk r=>VU w' ⟨n,0,none⟩ k _ r;have N:=C2 h.nodup P;have hi:=(aA.1 P).1;have U:∀(j:Nat) (p:a_×bY.cC) (y:En),(bY.del s.ct key)[j]?=some p->(z.take i++z.drop (i+1))[j]?=some y->pB w L [] p y:=λj p y D C=>by
  rw[N,qm]at D;rw[qm]at C;by_cases O:j<i
  ·rw[ag O]at D C;exact h.p6 j p y D C
  rw[ae O]at D C;exact h.p6 (j+1) p y D C
 have T:∀y∈z.take i++z.drop (i+1),∀B,y.np.ownBlock=some B->S.ownBlock≠some B:=λy C B E=>by
  rcases aL.1 C with I|I
  ·exact h.fe y (S9 I) B E
  exact h.fe y (List.mem_of_mem_drop I) B E
 obtain⟨X,Y,Z⟩:=h.KJ (s':={s with ct:=bY.del s.ct key,done:=xC (bY.del s.ct key) m}) (es':=z.take i++z.drop (i+1)) (vX:=vX) (w':=w'.setCell ⟨n,0,none⟩ vX) ⟨u.eD.os,u.eD.tape,u.eD.output,by simp;exact u.eD.size,λk r V=>(J k (λe=>V (.inl e))).trans (u.eD.block k r)⟩ (heap_setCell_same w' n 0 _ _ _ F) (λb G=>by
   obtain⟨K,M,r⟩:=cE h.all G;exact⟨K,M,(J b (fB r h.eb S4)).trans ((u.eD.block b (cj r)).trans r)⟩) (cJ u.row (λk r K M G=>(J k (λe=>by have:=u.new k r;omega)).trans G)) (λB E=>.inr (u.new B E)) (by
   show _=(bY.del s.ct key).length;rw[N];simp only[aj,Rf,aV,h.jN]) U rfl rfl rfl rfl (Aa s _ m) (by
   show((bY.del s.ct key).map (·.1)).Nodup;exact List.Nodup.sublist (List.Sublist.map _ SM) h.nodup) T
 exact⟨⟨_,⟨_,_,_,_,_,_,_,_,X⟩,Y,λk r=>.inl r,Z⟩,by simp[World.cell?,F],by simp[World.frozen?,F],aw Q u.eD.size⟩
end Ref
namespace Ref
def m_(b:Nat)(s:bY.LS)(key:a_)(th:bY.cC)(w:Xa)(L:Nat->Prop)(e:Ending)(w':Xa):Prop :=((bY.cv s.ct key=none/\40<=s.ct.length)/\e=.returned (.int .i64 5)/\fb (jm b s) w L w')\/(¬(bY.cv s.ct key=none/\40<=s.ct.length)/\e=.returned (.int .i64 0)/\fb (jm b {s with ct:=bY.put s.ct key th}) w L w')
def yG(w B s L key text p n m th)(h:jm B s w L)(X:km w th ⟨key.1.1,text.1.1,.slice p n m,false,.slice none 0 0,.error 0⟩)(I:th.kept=none)(hl:s.ct.length<=1000):Calls prog 147 #[ptr B,.agg #[.string key,.string text,.slice p n m,.bool false,.slice none 0 0,.int .i64 0,.string ⟨#[]⟩]] w (m_ B s key.1.1 th w L):=by
 obtain⟨d,h⟩:=h;have E:Xc w (w.alloc (.cells #[.string key,.string text,.slice p n m,.bool false,.slice none 0 0,.int .i64 0,.string ⟨#[]⟩] 168)):=(VM _ w).alloc (af _) _;have h1:=h.below E;have Y:=X.st (KN.below E);have hF:=lT _ B _ [] L key h1 hl;have Z:En.cells ⟨key.1.1,text.1.1,.slice p n m,false,.slice none 0 0,.error 0⟩=[.string key,.string text,.slice p n m,.bool false,.slice none 0 0,.int .i64 0,.string ⟨#[]⟩]:=by
  show str key.1.1::str text.1.1::_=_;rw[dG,dG];rfl
 obtain⟨z,fl,vA,vF,vB,vR,vN,h1⟩:=h1;obtain⟨oA,cA,rfl⟩:=dD h1.all;obtain⟨c0,_,_,_,_,_,cf⟩:=h1.cells;have bg:=cj h1.eb;have aa:z.length=s.ct.length:=h1.jN;have h8:8<=w.1.size:=ah (h.cz _ TZ).1 (aF (h.cz.lt TZ));have y:(w.alloc (.cells #[.string key,.string text,.slice p n m,.bool false,.slice none 0 0,.int .i64 0,.string ⟨#[]⟩] 168)).1[w.1.size]?=some (.cells #[.string key,.string text,.slice p n m,.bool false,.slice none 0 0,.int .i64 0,.string ⟨#[]⟩] 168 (0,0)):=heap_alloc_new w _;generalize ax:w.alloc (.cells #[.string key,.string text,.slice p n m,.bool false,.slice none 0 0,.int .i64 0,.string ⟨#[]⟩] 168)=l at *;have f0:l.cell? ⟨w.1.size,0,none⟩=some (.string key):=cr y rfl;have f1:l.cell? ⟨w.1.size,1,none⟩=some (.string text):=cr y rfl;have f2:l.cell? ⟨w.1.size,2,none⟩=some (.slice p n m):=cr y rfl;have f3:l.cell? ⟨w.1.size,3,none⟩=some (.bool false):=cr y rfl;have f4:l.cell? ⟨w.1.size,4,none⟩=some (.slice none 0 0):=cr y rfl;have f5:l.cell? ⟨w.1.size,5,none⟩=some (.int .i64 0):=cr y rfl;have f6:l.cell? ⟨w.1.size,6,none⟩=some (.string ⟨#[]⟩):=cr y rfl;have f7:=cj y;have b:=bZ h1;have D:=bZ (And.intro Y Z);have M:=bZ E;have ak:=bZ (show ∀k,L k->k<w.1.size from λk I=>h.cz.lt I);unfold ptr at hF ⊢;have N:=bZ hF;have C:=bZ aa;clear h h1 X Y hF Z y E aa;go_enter func147,ntmps147;go_wp2_with fail;clear ax;refine N.Z.mono ?_;rintro e w'⟨a3,hx⟩;have a4:=a3.symm;subst a4;rcases hx with⟨K,rfl⟩|⟨i,a5,R,J,rfl⟩
 ·have K:bY.cv s.ct key.1.1=none:=K;clear N;by_cases V:40<=s.ct.length
  ·have ap:(40:Int)<=(z.length:Int):=by have:=C.Z;omega
   have HP:Hid (m_ B s key.1.1 th w L (.returned (.int .i64 5)) l):=bZ (.inl ⟨⟨K,V⟩,rfl,fb.pre M.Z (fb.refl ⟨d,_,_,_,_,_,_,_,b.Z⟩)⟩);go_wp2;go_ret;exact HP.Z
  have ap:¬(40:Int)<=(z.length:Int):=by have:=C.Z;omega
  have a9:z.length<=40:=by have:=C.Z;omega
  have O:=bZ (λ(w1 w2:Xa) (g U:Nat)=>b.Z.Ni (th:=th) (kY:=key.1.1) (tX:=text.1.1) (fc:=.slice p n m) K D.Z.1 I (w1:=w1) (w2:=w2) (g:=g) (cP:=U));rw[D.Z.2]at O;have HA:=bZ b.Z.all
  go_upto_region 7 with fail
  go_region_law (refine jq rfl (.tmp 29) (.tmp 31) 97 rfl 168 _ 7 112 underlying97 D3 Oa S4 (.slice oA z.length cA) _ (z.flatMap En.cells) rfl (VY (w:=l.drewN _) HA.Z _) ⟨l.1.size,0,none⟩ 1 [.string key,.string text,.slice p n m,.bool false,.slice none 0 0,.int .i64 0,.string ⟨#[]⟩] rfl rfl (jQ _ _ _ _) (by intro u hu;simp at hu;rcases hu with rfl|rfl|rfl|rfl|rfl|rfl|rfl<;>rfl) R5 Th Tc ?_;intro g1 ao w3 ho ab ad hold;obtain⟨q1,⟨v0,bk⟩,bd,bh⟩:=O.Z _ w3 g1 ao (lU _ _ _) ho ab ad hold;have HQ:=bZ q1;clear O q1 ho ab ad hold)
  all_goals
   go_wp2;go_ret;exact .inr ⟨λG=>V G.2,rfl,fb.pre M.Z HQ.Z⟩
 obtain⟨e,g,U,F,hE,hv,hg,r⟩:=b.Z.entry R;have J:bY.cv s.ct key.1.1=some a5:=J;rw[show({s with done:=d}:bY.LS).ct.length=z.length from C.Z.symm]at hv;cases hv;obtain⟨v0,v1,v2,v3,v4,v5,v6,ai⟩:=Ab e;rw[ai]at r;have x0:=r 0 _ rfl;have x1:=r 1 _ rfl;have x2:=r 2 _ rfl;have x3:=r 3 _ rfl;have x4:=r 4 _ rfl;have x5:=r 5 _ rfl;have x6:=r 6 _ rfl;simp only[aR]at x0;have bc:∀j,l.frozen? ⟨g,j,none⟩=false:=λj=>by
  rcases b.Z.all.2 with⟨P,_⟩|⟨g',cp,a7,P,_,hb,_⟩
  ·cases P
  have ay:some g=some g':=congrArg Value.ownBlock P;cases ay;simp[World.frozen?,hb]
 have hi:(i:Int)<(z.length:Int):=by have:=(aA.1 F).1;omega
 have bf:(0:Int)<=(i:Int):=R5;obtain⟨S,T⟩:=KL b.Z.all F D.Z.2;have HG:=bZ (b.Z.O5 R F D.Z.1 I T S);have am:Hid (¬(bY.cv s.ct key.1.1=none/\40<=s.ct.length)):=bZ (λG=>by rw[J]at G;cases G.1);obtain⟨a6,a8,Q⟩:=cE b.Z.all (g:=g) rfl;have aC:g≠B:=λe=>by rw[e,b.Z.eb]at Q;cases Q
 have bj:B≠g:=λe=>aC e.symm;have a0:g≠w.1.size:=λe=>by
  have:=b.Z.cz.lt (b.Z.dQ g (.inl rfl));have:=ak.Z g (b.Z.dQ g (.inl rfl));omega
 have bl:w.1.size≠g:=λe=>a0 e.symm;clear N r hE S T ai Q R F J
 go_upto_region 3 with fail
 go_region
 all_goals
  go_wp2;go_ret;exact .inr ⟨am.Z,rfl,fb.pre M.Z (fb.post HG.Z (Bx.below (VM _ _).drew) (λL' av=>av.below (VM _ _).drew))⟩
end Ref
end
section
open bY
open Tryz
variable{s:bY.LS}{key:a_}{th:cC}
def bY.LS.lj(s:bY.LS)(key text:a_):(Nat×Nat)×bY.LS :=if dB key=false then((1,0),s)else if(bY.check text).1=0 then(((s.iD key ⟨vn 0,some (gZ text),text,none⟩).1,0),(s.iD key ⟨vn 0,some (gZ text),text,none⟩).2) else(bY.check text,s)
namespace Ref
def yI(h:bY.cv s.ct key=none/\40<=s.ct.length):s.iD key th=(5,s):=by
 unfold bY.LS.iD;rw[ag ⟨by rw[h.1];rfl,h.2⟩]
def wO(h:¬(bY.cv s.ct key=none/\40<=s.ct.length)):s.iD key th=(0,{s with ct:=bY.put s.ct key th}.write (ed key th)):=by
 unfold bY.LS.iD;rw[ae (λb=>h ⟨Option.isNone_iff_eq_none.1 b.1,b.2⟩)]
def wP(w b s L t)(h:jm b s w L)(p:t.size<=100000000000000000)(n:(dc s.jr).length<=1000000000000000000):Calls prog 105 #[ptr b,.string t] w λe j=>e=.returned (.tuple #[])/\fb (jm b (s.write t.1.1)) w L j:=by
 obtain⟨d,h⟩:=h;refine b_ (DY w b _ [] L t h p n) λj m=>?_;exact⟨rfl,m.imp (λr l=>⟨d,l⟩)⟩
def KQ(w m s L key text)(h:jm m s w L)(K:s.ct.length<=1000)(J:key.size<=20000000)(N:text.size<=20000000):Calls prog 104 #[ptr m,.string key,.string text] w λe j=>(dB key.1.1=false/\e=.returned (.int .i64 1)/\fb (jm m s) w L j)\/(dB key.1.1=true/\sY text.1.1=none/\e=.returned (.int .i64 6)/\fb (jm m s) w L j)\/(dB key.1.1=true/\∃v,sY text.1.1=some v/\m_ m s key.1.1 ⟨v,none,[],none⟩ w L e j):=by
 have B:=dT key w J;rw[oe]at B;have I:8<=w.1.size:=by
  obtain⟨d,O,P,Q,S,R,U,T,h⟩:=h;exact ah (h.cz _ h.here).1 (aF (h.cz.lt h.here))
 have C:=tg 3 text w I N (af _);rw[<-Oi]at C;have r:=bZ B;have n:=bZ C;have u:=bZ h;clear B C h;cases E:dB key.1.1 with
 |false =>
  rw[E]at r;unfold ptr;go_enter func104,ntmps104;go_wp2_with(go_at_call 108;refine r.Z.mono ?_;rintro e j ⟨rfl,rfl⟩);go_ret;exact .inl ⟨Tu,Tu,fb.refl u.Z⟩
 |true =>
  rw[E]at r;cases D:sY text.1.1 with
  |none =>
   rw[D]at n;have y:Hid (Calls prog 146 #[.string text,.int .i64 3] w λe j=>e=.returned (.bool false)/\Xc w j):=n;clear n;unfold ptr;go_enter func104,ntmps104;go_wp2_with(first|(go_at_call 108;refine r.Z.mono ?_;rintro e j ⟨rfl,rfl⟩)|(go_at_call 146;refine b_ y.Z λj l=>?_));go_ret;exact .inr (.inl ⟨Tu,Tu,Tu,fb.pre l (fb.refl (u.Z.below l))⟩)
  |some v =>
   rw[D]at n;have y:Hid (Calls prog 146 #[.string text,.int .i64 3] w λe j=>e=.returned (.bool true)/\Xc w j):=n;clear n;have z:∀p,Xc w p->Calls prog 147 #[ptr m,.agg #[.string key,.string text,.slice none 0 0,.bool false,.slice none 0 0,.int .i64 0,.string ⟨#[]⟩]] p (m_ m s key.1.1 ⟨v,none,[],none⟩ w L):=λp l=>by
    refine(yG p m s L key text none 0 0 ⟨v,none,[],none⟩ (u.Z.below l) (.inl ⟨rfl,(qS D).2,rfl⟩) rfl K).mono ?_;intro e j M;rcases M with⟨a,b,c⟩|⟨a,b,c⟩
    ·exact .inl ⟨a,b,fb.pre l c⟩
    exact .inr ⟨a,b,fb.pre l c⟩
   unfold ptr at z ⊢;have F:=bZ z;clear z;go_enter func104,ntmps104;go_wp2_with(first|(go_at_call 108;refine r.Z.mono ?_;rintro e j ⟨rfl,rfl⟩)|(go_at_call 146;refine b_ y.Z λp l=>?_;have G:=bZ (F.Z p l)));refine G.Z.mono ?_;rintro e V (⟨a,rfl,c⟩|⟨a,rfl,c⟩)
   ·go_wp2;go_ret;exact .inr (.inr ⟨Tu,v,Tu,.inl ⟨a,Tu,c⟩⟩)
   go_wp2;go_ret;exact .inr (.inr ⟨Tu,v,Tu,.inr ⟨a,Tu,c⟩⟩)
end Ref
end
section
open bY
open Tryz
namespace Ref
def yK(l:List (a_))(k x:a_):eQ (x::l) k=if x=k then x::l else eQ l k:=by
 unfold eQ;rw[SA];by_cases h:x=k<;>simp[h]
def D5(w n s rn L)(key:ba)(h:fJ n s rn w L)(hl:s.ct.length<=1000)(bg:s.done.length<=1000000)(am:key.1.1∈bY.dK s.ct)(hr:bY.cv s.done key.1.1=none)(hc:s.cm.contains key.1.1=true)(hlen:s.cm.length<=1000):Calls prog 109 #[ptr n,.string key] w λe w'=>e=.returned (dC (.error 12))/\fb (fJ n (s.meet key.1.1) rn) w L w':=by
 have h1:=h.below (eg w);have hF:=lT (dV w) n s rn L key h1 hl;have bp:=z';obtain⟨es,l,vA,vF,vB,vR,vN,h1⟩:=h1;obtain⟨c0,_,c2,c3,c4,_,cf⟩:=h1.cells;have bx:=cj h1.eb;obtain⟨b0,b1,b2,b3,b4⟩:=cX (eP w);have a2:=h1.fr.dK _ am;rw[hr]at a2;have bq:l.length<=1000000:=ah h1.fr.len bg;obtain⟨oF,cF,rfl⟩:=dD h1.fresh;obtain⟨oB,T,rfl⟩:=dD h1.cm;obtain⟨oR,U,rfl⟩:=dD h1.cY;have h8:8<=(dV w).1.size:=ah (h1.cz _ h1.here).1 (aF (h1.cz.lt h1.here));have bB:n<w.1.size:=h.cz.lt TZ;have bA:n≠w.1.size:=R5;have a0:∀(s':LS) (P:Xa),fb (fJ n s' rn) (dV w) L P->P.1[w.1.size]?=some (.cells #[.int .i64 0,.string ⟨#[]⟩] 166 (0,0))->∀a b,fb (fJ n s' rn) w L ((P.setCell ⟨w.1.size,0,none⟩ a).setCell ⟨w.1.size,1,none⟩ b):=λs' P hz hb a b =>
  fb.post (fb.pre (eg w) hz) (kU (af _) hb _ _) (λL' bf=>bf.bx (kU (af _) hb _ _))
 have z:=bZ h1;have S:=bZ (eP w);unfold ptr at hF ⊢;have HF:=bZ hF;have ao:=bZ a0;have ax:∀k,L k->k<w.1.size:=λk p=>h.cz.lt p;have bc:=bZ ax;clear h1 h hF a0 ax;unfold dV at *;go_enter func109,ntmps109;go_wp2_with fail;generalize w.alloc (.cells #[.int .i64 0,.string ⟨#[]⟩] 166)=D at *;refine HF.Z.mono ?_;rintro e w'⟨bj,hx⟩;have bk:=bj.symm;subst bk;rcases hx with⟨hn,rfl⟩|⟨i,th,hp,bh,rfl⟩
 ·exact(oh am hn).elim
 obtain⟨t,ht⟩:=qG am bh z.Z.nodup;obtain⟨e,g,V,he,hE,K,hg,ay⟩:=z.Z.entry hp;subst K;have z2:=ay 2 _ rfl;have hi:=(aA.1 hp).1;have bv:(i:Int)<(s.ct.length:Int):=R5;rcases hE.fc with⟨M,_⟩|⟨t,ns,m,o,c,h4,_,h5,_⟩
 ·have M:th.di=none:=M;rw[ht]at M;cases M
 rw[h5]at z2;clear HF ay hE;go_wp2
 go_loopw [6] (λG wr=>∃i:Nat,G=.int .i64 (i:Int)/\i<=l.length/\D=wr) (λG _=>l.length-(intOf G).toNat)
 case atStart=>exact⟨0,rfl,ar _,rfl⟩
 case round =>
  obtain⟨k,rfl,p,rfl⟩:=hrel;by_cases ad:k<l.length
  ·have ab:(k:Int)<(l.length:Int):=R5;have r:=aq ad;have ai:l[k]∈l:=Si ad;generalize l[k]=q at r ai;obtain⟨gF,bm,K,bu,aC⟩:=fK tA S4 z.Z.fresh r;cases K;obtain⟨x,hx⟩:∃x:ba,str q.1=.string x:=⟨_,rfl⟩;have B:=fO hx;have y0:=aC 0 (.string x) (by rw[<-hx];rfl);simp only[aR]at y0;have N:=jo x key;rw[aN (λe=>jz.1 a2 q ai (B.symm.trans e))]at N;clear aC hx r ai B;go_wp2;refine⟨⟨k+1,by go_num,by omega,by first|rfl|trivial⟩,?_⟩;simp[intOf];omega
  have ab:¬(k:Int)<(l.length:Int):=R5;go_wp2
  go_loopw [7] (λG wr=>∃i:Nat,G=.int .i64 (i:Int)/\i<=s.cm.length/\D=wr/\Hid (eQ s.cm key.1.1=eQ (s.cm.drop i) key.1.1/\(s.cm.drop i).contains key.1.1=true)) (λG _=>s.cm.length-(intOf G).toNat)
  case atStart=>exact⟨0,rfl,ar _,rfl,bZ ⟨rfl,hc⟩⟩
  case round =>
   clear ab ad p;obtain⟨k2,rfl,bw,rfl,HL⟩:=hrel;by_cases a5:k2<s.cm.length
   ·have ab:(k2:Int)<(s.cm.length:Int):=R5;have r:=aq a5;have E:=aU a5;generalize s.cm[k2]=q at r E;obtain⟨Z,bl,K,bn,bt,y0⟩:=rL z.Z.cm r;cases K;obtain⟨x,hx⟩:∃x:ba,str q=.string x:=⟨_,rfl⟩;have B:=fO hx;rw[hx]at y0;have N:=jo x key;by_cases F:x.1.1=key.1.1
    ·rw[aQ F]at N;have HD:Hid (eQ s.cm key.1.1=s.cm.drop k2):=bZ (by rw[HL.Z.1,E,yK,ag (B.symm.trans F)]);by_cases J:s.cY=[]
     ·have ak:s.cY.length=0:=by rw[J];rfl
      rw[ak]at c4;have a7:Hid (∀j u,((s.cm.drop k2).map str)[j]?=some u->D.cell? ((⟨Z,k2,none⟩:Addr).add j)=some u):=bZ (λj u I=>by
       rw[addr_add];rw[Q6,Tb]at I;cases p:s.cm[k2+j]? with
       |none=>rw[p]at I;cases I
       |some y =>
        rw[p]at I;cases I;exact(dX.cell z.Z.cm).2 _ _ p)
      have bd:Hid (D.ownsRow 8 9 1 (.slice oR 0 U) 0 []):=bZ (by
       have:=z.Z.cY;unfold dX at this;rw[J]at this;exact this)
      have a9:Hid (((s.cm.drop k2).map str).length=(s.cm.length-k2)*1):=bZ (by rw[aH,aV,Rh]);have av:gj D n s rn L es l (.slice (some ⟨g,0,none⟩) s.ct.length V) (.slice oF l.length cF) (.slice (some ⟨Z,0,none⟩) s.cm.length T) (.slice oR 0 U) vN:=by
       have:=z.Z;rw[ak]at this;exact this
      have ap:=bZ (λ(w1 w2:Xa) (g V:Nat)=>av.Dk (s.cm.drop k2) (w1:=w1) (w2:=w2) (n:=s.cm.length-k2) (g:=g) (cP:=V) (by rw[aV]));have bo:¬T=k2:=R5;clear av F B E r hx
      go_upto_region 16 with fail
      go_region_law (refine sL rfl (.tmp 92) (.tmp 98) 40 rfl 9 _ 1 16 underlying40 qA rfl S4 (.slice oR 0 U) 0 [] rfl bd.Z ⟨Z,k2,none⟩ (s.cm.length-k2) (T-k2) ((s.cm.drop k2).map str) rfl a9.Z a7.Z (by intro u hu;obtain⟨y,_,rfl⟩:=aE.1 hu;rfl) R5 R5 Th Tc ?_;intro Y X w3 ho a3 a4 hold;have a6:0+(s.cm.length-k2)=s.cm.length-k2:=aG _;rw[a6]at ho ⊢;obtain⟨q1,q2,q3,⟨v0,bC⟩,br,bz⟩:=ap.Z _ w3 Y X ((VM _ D).drew) ho a3 a4 hold;have C:=bZ (And.intro q1 (And.intro q2 q3));clear ap q1 q2 q3 ho a3 a4 hold a6)
      all_goals
       have aa:(w3.setCell ⟨n,4,none⟩ (.slice (some ⟨Y,0,none⟩) (s.cm.length-k2) X)).1[w.1.size]?=some (.cells #[.int .i64 0,.string ⟨#[]⟩] 166 (0,0)):=(C.Z.2.2.block _ (cj S.Z) (λhm=>by have:=bc.Z _ hm;omega)).trans S.Z;obtain⟨e0,e1,e2,e3,e4⟩:=cX aa;have Q:=bZ (λa b=>ao.Z {s with cY:=s.cm.drop k2} _ ⟨_,⟨_,_,_,_,_,_,_,C.Z.1⟩,C.Z.2.1,λk p=>.inl p,C.Z.2.2⟩ aa a b);have R:Hid (s.meet key.1.1={s with cY:=s.cm.drop k2}):=bZ (by unfold LS.meet;rw[ag J,HD.Z]);clear aa;generalize w3.setCell ⟨n,4,none⟩ (.slice (some ⟨Y,0,none⟩) (s.cm.length-k2) X)=w4 at *;go_wp2;exact VN (v:=.agg #[.int .i64 12,.string ⟨#[]⟩]) UQ rfl ⟨rfl,by rw[R.Z];exact Q.Z _ _⟩
     have ak:¬((s.cY.length:Int)=0):=λe=>J (RN R5);have Q:=bZ (λa b=>ao.Z s D (fb.refl ⟨_,_,_,_,_,_,_,z.Z⟩) S.Z a b);have R:Hid (s.meet key.1.1=s):=bZ (by unfold LS.meet;rw[ae J]);clear F B E r hx HD;go_wp2;exact VN (v:=.agg #[.int .i64 12,.string ⟨#[]⟩]) UO rfl ⟨rfl,by rw[R.Z];exact Q.Z _ _⟩
    rw[aN F]at N;have C:Hid (¬q=key.1.1):=bZ (λe=>F (B.trans e));have a8:Hid (eQ s.cm key.1.1=eQ (s.cm.drop (k2+1)) key.1.1/\(s.cm.drop (k2+1)).contains key.1.1=true):=bZ (by
     obtain⟨l1,O⟩:=HL.Z;rw[E,yK,ae C.Z]at l1;rw[E]at O;refine⟨l1,?_⟩;rw[List.contains_cons]at O;have:(key.1.1==q)=false:=az.2 (λe=>C.Z e.symm);rw[this,Sr]at O;exact O)
    clear F B E r hx;go_wp2;refine⟨⟨k2+1,by go_num,by omega,by first|rfl|trivial,a8⟩,?_⟩;simp[intOf];omega
   have:=HL.Z.2;rw[aT R5]at this;cases this
end Ref
namespace Ref
def QD(w a b s t):(binOp .neq 166 (.agg #[.int .i64 a,.string s]) (.agg #[.int .i64 b,.string t])).run prog w=.ok (.bool (!(a==b&&s.toList==t.toList))) w:=by
 have hS:prog.underlying 166=some (.struct (prog.fieldsOf 166)):=S8;have e:prog.stoodInHeld 166=false:=S8;rw[run_neq_struct,show(10000:Nat)=9999+1 from rfl,run_equalIn_agg w 9999 166 _ _ hS e];simp only[Program.fieldsOf,underlying166];go_simp;by_cases h1:a=b<;>by_cases h2:s.toList=t.toList<;>simp[h1,h2]
def O6(w x y xs e):(eqGuard .neq 166 x y (.agg xs) (.agg e)).run prog w=.ok () w:=run_eqGuard_agg w .neq 166 x y xs e S8
def Nl{l m:a_}:((⟨l.toArray⟩:ba).toList==(⟨m.toArray⟩:ba).toList)=decide (l=m):=by
 rw[jo]
def G1{u v:Wo}(hu:hY u)(m:hY v){a b:Int}{s t:ba}(h1:dC u=.agg #[.int .i64 a,.string s])(h2:dC v=.agg #[.int .i64 b,.string t]):(a==b&&s.toList==t.toList)=ji u v:=by
 have l:∀x:V,iX 3 x->¬(bY.wr 3 x=[]):=λx hx e=>by
  have:=Ij hx;rw[e]at this;exact absurd this (by have p:sY []=none:=S8;rw[p];intro h;cases h)
 cases u with
 |ok x =>
  cases v with
  |ok y =>
   cases h1;cases h2;show((0:Int)==0&&_)=bY.same 3 x y;rw[Nl,Bb (hu x rfl) (m y rfl)];rfl
  |error d =>
   cases h1;cases h2;show _=false;have:((⟨(bY.wr 3 x).toArray⟩:ba).toList==(⟨#[]⟩:ba).toList)=false:=by
    rw[jo];exact aN (λe=>l x (hu x rfl) T')
   rw[this,Bool.and_false]
 |error c =>
  cases v with
  |ok y =>
   cases h1;cases h2;show _=false;have:((⟨#[]⟩:ba).toList==(⟨(bY.wr 3 y).toArray⟩:ba).toList)=false:=by
    rw[jo];exact aN (λe=>l y (m y rfl) (by simpa using e.symm))
   rw[this,Bool.and_false]
  |error d =>
   cases h1;cases h2;show((c:Int)==(d:Int)&&_)=(c==d);by_cases j:c=d
   ·subst j;simp
   have r:((c:Int)==(d:Int))=false:=az.2 (λe=>j R5);rw[r,az.2 j];rfl
def mz(n:Nat)(key:a_)(t:bY.T)(o:Option gl)(s1:LS)(b:Bool)(i:Nat)(sk:LS)(y:rS):Prop :=(b=true/\∃e,o=some e/\y=⟨key,[],.error 0,.error 0⟩/\i<=e.cH.length/\eC (cG n) key e.cH s1=eC (cG n) key (e.cH.drop i) sk)\/(b=false/\fg (cG n) key t o s1=f_ (cG n) key t y sk)
def B2(e:a_->LS->Wo×LS)(key k:a_)(w)(r:List (a_×Wo))(s):eC e key ((k,w)::r) s=if ji (e k s).1 w=true then eC e key r (e k s).2 else(some ⟨key,k,w,(e k s).1⟩,(e k s).2):=by rw[eC]
section
variable {n:Nat}{key:a_}{t:bY.T}{o:Option gl}{s1 sk:LS}{b:Bool}{i:Nat}{y:rS}
def mz.start(n key t o s1):mz n key t o s1 o.isSome 0 s1 ⟨key,[],.error 0,.error 0⟩:=by
 cases o with
 |none=>exact .inr ⟨rfl,rfl⟩
 |some e=>exact .inl ⟨rfl,e,rfl,rfl,ar _,rfl⟩
def mz.next(h:mz n key t o s1 true i sk y){kp:gl}(e:o=some kp){q:a_×Wo}(r:kp.cH[i]?=some q):(ji (cG n q.1 sk).1 q.2=true->mz n key t o s1 true (i+1) (cG n q.1 sk).2 y)/\(ji (cG n q.1 sk).1 q.2=false->mz n key t o s1 false (i+1) (cG n q.1 sk).2 ⟨key,q.1,q.2,(cG n q.1 sk).1⟩):=by
 have m:=(aA.1 r).1;have l:=aU m;rw[(aA.1 r).2]at l;rcases h with⟨_,C,p,B,_,hd⟩|⟨u,_⟩
 ·rw[e]at p;cases p;obtain⟨D,E⟩:=q;rw[l]at hd;refine⟨λj=>.inl ⟨rfl,kp,e,B,m,?_⟩,λj=>.inr ⟨rfl,?_⟩⟩
  ·rw[hd,B2,ag j]
  rw[e];show(match eC _ key _ s1 with|(.none,s)=>(kp.dR,s)|(.some y,s)=>f_ _ key t y s)=_;rw[hd,B2,ae (by rw[j];exact Td)]
 cases u
def mz.stands(h:mz n key t o s1 true i sk y){kp:gl}(e:o=some kp)(hi:kp.cH.length<=i):fg (cG n) key t o s1=(kp.dR,sk):=by
 rcases h with⟨_,p,j,m,_,hd⟩|⟨l,_⟩
 ·rw[e]at j;cases j;rw[aT hi]at hd;rw[e];show(match eC _ key _ s1 with|(.none,s)=>(kp.dR,s)|(.some y,s)=>f_ _ key t y s)=_;rw[hd];rfl
 cases l
def mz.Ob(h:mz n key t o s1 true i sk y):∃e,o=some e/\i<=e.cH.length:=by
 rcases h with⟨_,m,l,p,hi,hd⟩|⟨j,_⟩
 ·exact⟨m,l,hi⟩
 cases j
def mz.runs(h:mz n key t o s1 false i sk y):fg (cG n) key t o s1=f_ (cG n) key t y sk:=by
 rcases h with⟨e,_⟩|⟨_,h⟩
 ·cases e
 exact h
end
def rM(rb:Nat)(rn:List (a_))(W2:Xa)(L2:Nat->Prop)(cb:Nat)(sk:LS)(y:rS)(wr:Xa):Prop :=∃e,fJ rb sk rn wr e/\(∀k,e k->L2 k\/W2.1.size<=k)/\(∀k,L2 k->e k)/\eu L2 W2 wr/\¬e cb/\wr.1[cb]?=some (.cells (dm y).toArray 199 (0,0))/\W2.1.size<=cb
section
variable {rb:Nat}{rn:List (a_)}{W2:Xa}{L2:Nat->Prop}{cb:Nat}{sk s':LS}{y z:rS}{wr w1 w':Xa}
def rM.below(h:rM rb rn W2 L2 cb sk y wr)(e:Xc wr w1):rM rb rn W2 L2 cb sk y w1:=by
 obtain⟨l,h1,h2,m,p,r,j,u⟩:=h;exact⟨l,h1.below e,h2,m,p.trans (eu.below e) (λk B=>.inl B),r,(e.block _ (cj j)).trans j,u⟩
def rM.then(h:rM rb rn W2 L2 cb sk y wr)(m:Xc wr w1):∃j,fJ rb sk rn w1 j/\(∀k,j k->k<wr.1.size)/\∀s' w',fb (fJ rb s' rn) w1 j w'->rM rb rn W2 L2 cb s' y w':=by
 obtain⟨j,h1,h2,G,I,B,C,J⟩:=h;have u:=I.trans (eu.below m) (λk e=>.inl e);have l:=(m.block _ (cj C)).trans C;refine⟨j,h1.below m,λk e=>h1.cz.lt e,λs' w' K=>?_⟩;obtain⟨D,E,p,F,r⟩:=K;have L:=u.size;refine⟨D,E,λk e=>?_,λk e=>F k (G k e),u.trans r h2,λe=>?_,(r.block _ (cj l) B).trans l,J⟩
 ·rcases p k e with h|h
  ·exact h2 k h
  exact .inr R5
 rcases p cb e with h|h
 ·exact B h
 have:=cj l;omega
def rM.note(h:rM rb rn W2 L2 cb sk y wr)(F:w'.1[cb]?=some (.cells (dm z).toArray 199 (0,0)))(m:eu (λk=>k=cb) wr w'):rM rb rn W2 L2 cb sk z w':=by
 obtain⟨u,h1,h2,B,C,p,D,r⟩:=h;have E:KN wr w':=λk G J I j l=>(m.block k (cj j) (λe=>by
  rw[e,D]at j;cases j;rcases l with l|l<;>cases l)).trans j
 refine⟨u,h1.st (λk j=>m.block k (h1.cz.lt j) (λe=>p (e▸j))) E,h2,B,C.trans m (λk j=>.inr (by rw[j];exact r)),p,F,r⟩
def rM.eb(h:rM rb rn W2 L2 cb sk y wr):wr.1[cb]?=some (.cells (dm y).toArray 199 (0,0)):=by
 obtain⟨j,h1,h2,l,m,p,e,r⟩:=h;exact e
def rM.cells(h:rM rb rn W2 L2 cb sk y wr):cb<wr.1.size/\(∀o,wr.frozen? ⟨cb,o,none⟩=false)/\∀j u,(dm y)[j]?=some u->wr.cell? ⟨cb,j,none⟩=some u:=by
 obtain⟨l,h1,h2,m,p,r,e,B⟩:=h;refine⟨cj e,λo=>by simp[World.frozen?,e],λj u hu=>?_⟩;simp only[World.cell?,e];simpa using hu
end
def jR(o:Option gl):List (a_×Wo):=match o with|none=>[]|some e=>e.cH
structure qH(rb n:Nat)(rn:List (a_))(W2:Xa)(L2:Nat->Prop)(cb:Nat)(key:a_)(t:bY.T)(o:Option gl)(s1:LS)(b:Bool)(i:Nat)(sk:LS)(y:rS)(wr:Xa):Prop where
 at_:mz n key t o s1 b i sk y
 w:rM rb rn W2 L2 cb sk y wr
 kb:Kb (λ_=>True) s1 sk
 p8:jk s1 sk i
 fs:hZ sk
 ph:Ph sk<=Ph s1
 le:i<=401
section
variable {rb n:Nat}{rn:List (a_)}{W2:Xa}{L2:Nat->Prop}{cb:Nat}{key:a_}{t:bY.T}{o:Option gl}{s1:LS}{b:Bool}{i:Nat}{sk:LS}{y:rS}{wr:Xa}
def qH.below(h:qH rb n rn W2 L2 cb key t o s1 b i sk y wr){w1:Xa}(e:Xc wr w1):qH rb n rn W2 L2 cb key t o s1 b i sk y w1:={h with w:=h.w.below e}
def qH.entry(h:qH rb n rn W2 L2 cb key t o s1 b i sk y wr){x:Nat}{th:cC}(U:s1.ct[x]?=some (key,th))(Q:bY.cv s1.ct key=some th)(P:key∈s1.cm)(S:key∉rn)(T:o=th.kept):∃p u,fJ rb sk rn wr u/\sk.ct[x]?=some p/\p.1=key/\p.2.di=th.di/\p.2.kept=o/\bY.cv sk.ct key=some p.2/\∃g B r m,wr.cell? ⟨rb,0,none⟩=some (.slice (some ⟨g,0,none⟩) sk.ct.length B)/\g<wr.1.size/\x<sk.ct.length/\rb<wr.1.size/\wr.cell? ⟨g,x*7+4,none⟩=some (.slice r (jR o).length m)/\wr.ownsRow 8 204 3 (.slice r (jR o).length m) (jR o).length ((jR o).flatMap eh):=by
 obtain⟨u,h1,_⟩:=h.w;obtain⟨p,l,j,K⟩:=yA h.p8.dd U;have j:p.1=key:=j;have L:=h1;obtain⟨X,Y,vA,vF,vB,vR,vN,h2⟩:=h1;have G:p.2.kept=o:=by
  rw[<-Ff h2.nodup l,j,h.kb.2 key P trivial,T];unfold cK;rw[Q];rfl
 have R:bY.cv sk.ct key=some p.2:=by rw[<-j];exact lf (k:=p.1) (a:=p.2) h2.nodup l
 obtain⟨e,g,B,Z,M,V,O,N⟩:=h2.entry l;subst V;obtain⟨J,_⟩:=h2.cells;have F:=M.kept;rw[ae (by rw[j];exact S),G]at F;have E:wr.ownsRow 8 204 3 e.np (jR o).length ((jR o).flatMap eh):=by
  rcases F with⟨C,_,D⟩|⟨kp,C,_,_,D,_⟩
  ·rw[C,D];exact⟨rfl,.inl ⟨rfl,rfl⟩⟩
  rw[C];exact D
 obtain⟨r,m,I⟩:=dD E;rw[I]at E;refine⟨p,u,L,l,j,K,G,R,g,B,r,m,J,O,(aA.1 l).1,cj h2.eb,?_,E⟩;rw[<-I];exact N 4 _ rfl
def qH.call(says:wI rb n)(P:tB n s1)(Q:∀k∈rn,k∈s1.cm)(h:qH rb n rn W2 L2 cb key t o s1 true i sk y wr){kp:gl}(O:o=some kp){q:a_×Wo}(F:kp.cH[i]?=some q)(T:kp.cH.length<=401)(V:hY q.2){w1:Xa}(K:Xc wr w1){B:ba}(hx:B.1.1=q.1):Calls prog 109 #[ptr rb,.string B] w1 λe w'=>e=.returned (dC (cG n q.1 sk).1)/\(∀k,wr.1.size<=k->k<w1.1.size->w'.1[k]?=w1.1[k]?)/\w1.1.size<=w'.1.size/\hY (cG n q.1 sk).1/\(w'.1[cb]?=some (.cells (dm y).toArray 199 (0,0))/\cb<wr.1.size) /\(ji (cG n q.1 sk).1 q.2=true->qH rb n rn W2 L2 cb key t o s1 true (i+1) (cG n q.1 sk).2 y w') /\(ji (cG n q.1 sk).1 q.2=false->∀l,l.1[cb]?=some (.cells (dm ⟨key,q.1,q.2,(cG n q.1 sk).1⟩).toArray 199 (0,0))->eu (λk=>k=cb) w' l->qH rb n rn W2 L2 cb key t o s1 false (i+1) (cG n q.1 sk).2 ⟨key,q.1,q.2,(cG n q.1 sk).1⟩ l):=by
 have U:=(aA.1 F).1;have j:=P.due h.p8 h.le h.fs h.ph;obtain⟨I,J,L,R⟩:=h.w.then K;have G:=says w1 sk rn I B J j (λk N=>by rw[h.kb.1];exact Q k N);rw[hx]at G;obtain⟨f1,f2,f3⟩:=pA n q.1 sk h.fs;have D:=(h.p8.trans (jA n q.1 sk j.kb));have C:=h.kb.trans (pD n q.1 sk);have E:=ah (rK n q.1 sk h.fs j.kb j.hl) h.ph;obtain⟨d1,d2⟩:=h.at_.next O F;refine b_ G λw' r=>?_;have p:=R _ _ r;refine⟨rfl,?_,?_,f1.fine,⟨p.eb,h.w.cells.1⟩,λu=>⟨d1 u,p,C,D,f2,E,by omega⟩,λu l S M=>⟨d2 u,p.note S M,C,D,f2,E,by omega⟩⟩
 ·obtain⟨_,_,_,_,m⟩:=r;exact λk h1 h2=>m.block k h2 (λhl=>by have:=L k hl;omega)
 obtain⟨_,_,_,_,m⟩:=r;exact m.size
end
end Ref
end
section
open Tryz
namespace Ref
variable{s:bY.LS}{L:Nat->Prop}{r:bY.Wo}{ts:ba}
def jm.begin{w:Xa}{j:Nat}(h:jm j s w L):∃E F G,w.cell? ⟨j,2,none⟩=some E/\w.cell? ⟨j,4,none⟩=some F/\w.cell? ⟨j,5,none⟩=some G/\(∀o,w.frozen? ⟨j,o,none⟩=false)/\j<w.1.size/\fJ j s.fresh [] (((w.setCell ⟨j,2,none⟩ (.slice none 0 0)).setCell ⟨j,4,none⟩ (.slice none 0 0)).setCell ⟨j,5,none⟩ (.slice none 0 0)) L/\eu L w (((w.setCell ⟨j,2,none⟩ (.slice none 0 0)).setCell ⟨j,4,none⟩ (.slice none 0 0)).setCell ⟨j,5,none⟩ (.slice none 0 0)):=by
 obtain⟨d,N,O,Q,R,n,I,p,m⟩:=h;obtain⟨J,K,u,M,y,z,B⟩:=m.cells;obtain⟨h1,f1⟩:=m.cellOf (s':={s with done:=[]}) 2 (.slice none 0 0) (vF':=.slice none 0 0) (vB':=n) (vR':=I) (vN':=p) (fl':=[]) rfl rfl ⟨rfl,.inl ⟨rfl,rfl⟩⟩ ⟨λ_ _=>rfl,af _,λk w l=>by cases l⟩ m.cm m.cY m.runs (λg b=>by
  rcases b with b|b
  ·cases b
  ·exact m.dQ g (.inr (.inr b))) m.apart (λe P g b hF=>by cases hF)
 obtain⟨h2,f2⟩:=h1.cellOf (s':={s with done:=[],cY:=[]}) 4 (.slice none 0 0) (vF':=.slice none 0 0) (vB':=n) (vR':=.slice none 0 0) (vN':=p) (fl':=[]) rfl rfl h1.fresh ⟨λ_ _=>rfl,af _,λk w l=>by cases l⟩ h1.cm ⟨rfl,.inl ⟨rfl,rfl⟩⟩ h1.runs (λg b=>by
  rcases b with b|b|b|b
  ·cases b
  ·exact h1.dQ g (.inr (.inr (.inl b)))
  ·cases b
  ·exact h1.dQ g (.inr (.inr (.inr (.inr b))))) (λg b D=>by cases D) h1.fe
 obtain⟨C,f3⟩:=h2.cellOf (s':={s with done:=[],cY:=[],du:=[]}) 5 (.slice none 0 0) (vF':=.slice none 0 0) (vB':=n) (vR':=.slice none 0 0) (vN':=.slice none 0 0) (fl':=[]) rfl rfl h2.fresh ⟨λ_ _=>rfl,af _,λk w l=>by cases l⟩ h2.cm h2.cY ⟨rfl,.inl ⟨rfl,rfl⟩⟩ (λg b=>by
  rcases b with b|b|b|b
  ·cases b
  ·exact h2.dQ g (.inr (.inr (.inl b)))
  ·cases b
  ·cases b) h2.apart h2.fe
 exact⟨_,_,_,u,y,z,B,cj m.eb,⟨_,_,_,_,_,_,_,C⟩,(f1.trans f2 (λk l=>.inl l)).trans f3 (λk l=>.inl l)⟩
def Pj(h:dC r=.agg #[.int .i64 12,.string ts]):ts=⟨#[]⟩:=by
 cases r with
 |ok v=>cases h
 |error c=>cases h;rfl
def Cd(w p key)(m:key.size<=20000000)(n:bY.dB key.1.1=false):Calls prog 71 #[ptr p,.string key] w λe j=>e=.returned (.tuple #[.string ⟨#[]⟩,.int .i64 1,.slice none 0 0])/\j=w:=by
 have b:=dT key w m;rw[oe,n]at b;have l:=bZ b;clear b;unfold ptr;go_enter func71,ntmps71;go_wp2_with(go_at_call 108;refine l.Z.mono ?_;rintro e j ⟨rfl,rfl⟩);exact VN (v:=.tuple #[.string ⟨#[]⟩,.int .i64 1,.slice none 0 0]) UA rfl ⟨rfl,rfl⟩
def Lh(w m s L key)(h:jm m s w L)(says:wI m 42)(V:wH 42 s.fresh)(j:key.size<=20000000)(hn:bY.dB key.1.1=true):Calls prog 71 #[ptr m,.string key] w λe Y=>∃b ts z,dC (s.ask key.1.1).1=.agg #[.int .i64 b,.string ts]/\e=.returned (.tuple #[.string ts,.int .i64 b,z])/\(b≠12->z=.slice none 0 0)/\(b=12->dX Y z (s.ask key.1.1).2.cY)/\fb (fJ m (s.ask key.1.1).2 []) w L Y:=by
 have G:=dT key w j;rw[oe,hn]at G;obtain⟨v2,v4,v5,c2,c4,c5,cf,ai,S,hF⟩:=h.begin;have p:=says _ _ _ _ key S V (λk j=>by cases j);have T:bY.cG 42 key.1.1 s.fresh=s.ask key.1.1:=rfl;rw[T]at p;obtain⟨b,ts,I⟩:=dw (s.ask key.1.1).1;rw[I]at p;have J:=bZ G;unfold ptr at p ⊢;have M:=bZ p;have B:=bZ hF;have C:=bZ I;clear G h p hF S I T V says;go_enter func71,ntmps71
 go_upto_region 8 with(first|(go_at_call 108;refine J.Z.mono ?_;rintro e w0 ⟨rfl,rfl⟩)|(go_at_call 109;refine b_ M.Z λu aa=>?_))
 obtain⟨L1,O,P,Q,R⟩:=aa;have E:=eI u b ts;have U:=O.below E;have K:Hid (fb (fJ m (s.ask key.1.1).2 []) w L (h_ u b ts)):=bZ ⟨L1,U,λk j=>(by
  rcases P k j with h|h
  ·exact .inl h
  ·exact .inr (ah B.Z.size h)),Q,(B.Z.trans R (λk j=>.inl j)).trans (eu.below E) (λk j=>.inl j)⟩
 obtain⟨b5,b6,b7,b8,b9⟩:=cX (oc u b ts);obtain⟨es,fl,vA,vF,vB,z,vN,n⟩:=U;obtain⟨_,_,_,_,d4,_,_⟩:=n.cells;have ak:=cj n.eb;obtain⟨X,N,rfl⟩:=dD n.cY;have Z:=bZ n.cY;change Code.wp _ _ _ _ (h_ u b ts);clear n E O P Q R M B J c2 c4 c5;generalize h_ u b ts=l at *;by_cases D:b=12
 ·subst D;have ab:=Pj C.Z;subst ab;have y:Hid (∀k,fb (fJ m (s.ask key.1.1).2 []) w L (l.drewN k)/\dX (l.drewN k) (.slice X (s.ask key.1.1).2.cY.length N) (s.ask key.1.1).2.cY):=bZ (λk=>⟨fb.post K.Z (Bx.below (below_drewN (VM _ l) k)) (λL' F=>F.below (below_drewN (VM _ l) k)),Z.Z⟩)
  go_upto_region 9 with fail
  go_quiet (fail)
  go_wp2;exact VN (v:=.tuple #[.string ⟨#[]⟩,.int .i64 12,.slice X (s.ask key.1.1).2.cY.length N]) UA rfl ⟨12,⟨#[]⟩,_,C.Z,rfl,λe=>absurd rfl e,λ_=>(y.Z _).2,(y.Z _).1⟩
 have ad:(b==12)=false:=az.2 D;have y:Hid (∀k,fb (fJ m (s.ask key.1.1).2 []) w L (l.drewN k)):=bZ (λk=>fb.post K.Z (Bx.below (below_drewN (VM _ l) k)) (λL' F=>F.below (below_drewN (VM _ l) k)))
 go_upto_region 10 with fail
 go_quiet (fail)
 go_wp2;exact VN (v:=.tuple #[.string ts,.int .i64 b,.slice none 0 0]) UA rfl ⟨b,ts,_,C.Z,rfl,λ_=>rfl,λe=>absurd e D,y.Z _⟩
end Ref
end
