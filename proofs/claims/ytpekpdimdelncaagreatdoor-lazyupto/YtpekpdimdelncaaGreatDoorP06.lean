/- Out of Th2. -/
import Derived.Test.YtpekpdimdelncaaGreatDoorP04
set_option linter.unusedVariables false
set_option linter.defProp false
namespace Go.Proofs.YtpekpdimdelncaaGreatDoor
section
namespace bY
def hY(w:Wo):Prop:=∀v,w=.ok v->iX 3 v
def isKey(k:By):Bool:=dB k||(k.head?==some 107&&(d_ (k.drop 1)).isSome)
def q_{α:Type}(p):∀(l:List α),((l.zip l).all p)=l.all λx=>p (x,x)
 |[]=>rfl
 |a::l=>by simp only[List.zip_cons_cons,RL,q_ p l]
def sr:∀n v,same n v v=mJ n v
 |n,⟨.inl i⟩=>by unfold same mJ;simp
 |n,⟨.inr (.inl b)⟩=>by unfold same mJ;simp
 |0,⟨.inr (.inr l)⟩=>by unfold same mJ;rfl
 |n+1,⟨.inr (.inr l)⟩=>by
  unfold same mJ;simp only[beq_self_eq_true,Ru];rw[q_]
  congr 1
  funext x
  exact sr n x
def hY.same{w:Wo}(h:hY w):ji w w=true:=by
 cases w with
 |ok v=>show bY.same 3 v v=true;rw[sr];exact pN 3 v (h v rfl)
 |error c=>simp[ji]
def Ma:Pg Wo->Prop
 |⟨.inl w⟩=>hY w
 |⟨.inr (k,c)⟩=>isKey k=true/\∀w,hY w->Ma (c w)
structure EF(e:Src):Prop where
 val:∀k v,e k=some (.inl v)->hY (.ok v)
 fc:∀k t,e k=some (.inr t)->Ma (prog t)
theorem zq:∀n v u,same n v u=true->v=u
 |n,⟨.inl i⟩,⟨.inl j⟩,h=>by unfold same at h;simp at h;rw[h]
 |n,⟨.inl i⟩,⟨.inr (.inl b)⟩,h=>by unfold same at h;simp at h
 |n,⟨.inl i⟩,⟨.inr (.inr b)⟩,h=>by unfold same at h;simp at h
 |n,⟨.inr (.inl i)⟩,⟨.inl j⟩,h=>by unfold same at h;simp at h
 |n,⟨.inr (.inl i)⟩,⟨.inr (.inl j)⟩,h=>by unfold same at h;simp at h;rw[h]
 |n,⟨.inr (.inl i)⟩,⟨.inr (.inr j)⟩,h=>by unfold same at h;simp at h
 |n,⟨.inr (.inr i)⟩,⟨.inl j⟩,h=>by unfold same at h;simp at h
 |n,⟨.inr (.inr i)⟩,⟨.inr (.inl j)⟩,h=>by unfold same at h;simp at h
 |0,⟨.inr (.inr i)⟩,⟨.inr (.inr j)⟩,h=>by unfold same at h;simp at h
 |n+1,⟨.inr (.inr l)⟩,⟨.inr (.inr m)⟩,h=>by
  unfold same at h;simp only[RO,Rd,Rk]at h;obtain⟨h1,h2⟩:=h;have:l=m:=by
   apply Se ;intro i;rcases Ro i l.length with hi|hi
   ·have p:i<m.length:=R5;rw[aq hi,aq p];have r:=h2 (l[i],m[i]) (by
     apply aJ (i:=i);rw[List.getElem?_zip_eq_some];exact⟨aq hi,aq p⟩)
    rw[zq n l[i] m[i] r]
   grind
  grind
theorem Jg{a b:Wo}(h:ji a b=true):a=b:=by
 cases a<;>cases b<;>simp[ji]at h
 ·rw[h]
 grind [zq]
def Rn.fine{O:By->Wo->Prop}(h:∀k u,O k u->hY u):∀p w,Rn O p w->Ma p->hY w
 |⟨.inl _⟩,_,j,b=>j.1▸b
 |⟨.inr (k,c)⟩,w,⟨u,h1,h2⟩,b=>Rn.fine h (c u) w h2 (b.2 u (h k u h1))
variable {e:Src}
def Wn.fine(j:EF e):∀{n:Nat}{k:By}{w:Wo},Wn e n k w->hY w:=by
 have b:∀{k w},lO e k w->hY w:=by
  intro k w h;rcases h with⟨_,rfl⟩|⟨v,h,rfl⟩
  ·exact λv l=>by cases l
  exact j.val k v h
 intro n
 induction n with
 |zero=>intro k w h;exact b h
 |succ n m =>
  intro k w h;rcases h with h|⟨t,h1,h2⟩
  ·exact b h
  exact Rn.fine (λk u h=>m h) _ _ h2 (j.fc k t h1)
def W.fine(b:EF e){k:By}{w:Wo}:W e k w->hY w
 |⟨_,h⟩=>h.fine b
/-! Up to date. -/
def tM(e:Src)(h:List (By×cC)):Nat->By->Prop
 |0,k=>∀t,e k≠some (.inr t)
 |n+1,k=>(∀t,e k≠some (.inr t))\/∃t b,e k=some (.inr t)/\cK h k=some b/\∀q∈b.cH,W e q.1 q.2/\tM e h n q.1
def lY(e:Src)(h:List (By×cC))(k:By):Prop:=∃n,tM e h n k
def tM.up{h:List (By×cC)}:∀{n:Nat}{k:By},tM e h n k->tM e h (n+1) k
 |0,_,hu=>.inl hu
 |n+1,k,hu=>by
  rcases hu with hu|⟨t,l,h1,h2,b⟩
  ·exact .inl hu
  exact .inr ⟨t,l,h1,h2,λq j=>⟨(b q j).1,tM.up (b q j).2⟩⟩
def tM.le{h:List (By×cC)}{n m:Nat}{k:By}(hu:tM e h n k)(b:n<=m):tM e h m k:=by
 induction b with
 |refl=>exact hu
 |step _ j=>exact j.up
def A5{h:List (By×cC)}{k:By}(b:∀t,e k≠some (.inr t)):lY e h k:=⟨0,b⟩
def EG{h:List (By×cC)}:∀(l:List (By×Wo)),(∀q∈l,lY e h q.1)->∃n,∀q∈l,tM e h n q.1
 |[],_=>⟨0,λq b=>by simp at b⟩
 |q::l,j=>by
  obtain⟨n,r⟩:=j q Rg;obtain⟨m,p⟩:=EG l (λq b=>j q (aS _ b));refine⟨max n m,λu b=>?_⟩;rcases aK.1 b with rfl|b
  ·exact r.le (Sy _ _)
  exact(p u b).le (Sz _ _)
def A6{h:List (By×cC)}{k:By}{t:T}{kp:gl}(h1:e k=some (.inr t))(h2:cK h k=some kp)(j:∀q∈kp.cH,W e q.1 q.2/\lY e h q.1):lY e h k:=by
 obtain⟨n,l⟩:=EG _ (λq b=>(j q b).2);exact⟨n+1,.inr ⟨t,kp,h1,h2,λq b=>⟨(j q b).1,l q b⟩⟩⟩
def lY.fc{h:List (By×cC)}{k:By}{t:T}(hu:lY e h k)(h1:e k=some (.inr t)):∃j,cK h k=some j/\∀q∈j.cH,W e q.1 q.2/\lY e h q.1:=by
 obtain⟨n,b⟩:=hu;cases n with
 |zero=>exact(b t h1).elim
 |succ n =>
  rcases b with b|⟨r,j,p,h2,l⟩
  ·exact(b t h1).elim
  exact⟨j,h2,λq m=>⟨(l q m).1,n,(l q m).2⟩⟩
def ra{h j:List (By×cC)}(r:∀k,lY e h k->cK j k=cK h k){k:By}(hu:lY e h k):lY e j k:=by
 obtain⟨n,p⟩:=hu;have:∀n k,tM e h n k->tM e j n k:=by
  intro n
  induction n with
  |zero=>intro k b;exact b
  |succ n u =>
   intro k b;have hu:lY e h k:=⟨n+1,b⟩;rcases b with b|⟨t,y,h1,h2,l⟩
   ·exact .inl b
   exact .inr ⟨t,y,h1,(r k hu).trans h2,λq m=>⟨(l q m).1,u _ (l q m).2⟩⟩
 exact⟨n,this n k p⟩
/-! A Jh in an Ask. -/
structure Inv(e:Src)(s:LS):Prop where
 src:fR s.ct=e
 done:∀k w,cv s.done k=some w->Is e k w
 wY:∀k w,cv s.done k=some w->w≠.error 12->lY e s.ct k
 iE:∀k t kp,e k=some (.inr t)->cK s.ct k=some kp->qJ (prog t) [] kp.cH kp.dR
 only:∀k kp,cK s.ct k=some kp->∃t,e k=some (.inr t)
 fine:∀k kp,cK s.ct k=some kp->∀q∈kp.cH,hY q.2
 cY:s.cY≠[]->Ring e s.cY
 rr:∀k,cv s.done k=some (.error 12)->s.cY≠[]
def Ji(e:Src)(y:rS):Prop:=(y.need=[]/\y.was=.error 0/\y.now=.error 0)\/(Is e y.need y.now/\ji y.now y.was=false/\hY y.was)
def zr(e:Src)(h:List (By×cC))(n:List By)(m:List (By×cC))(p:List By):Prop :=∀P:List (By×cC)->List By->Prop,P h n ->(∀{h1:List (By×cC)}{l:List By}{b:By}{t:T}{j:gl},P h1 l->e b=some (.inr t)->qJ (prog t) [] j.cH j.dR->(∀q∈j.cH,W e q.1 q.2)->W e b j.dR->P (da h1 b (some j)) (l++[dA b j])) ->(∀{h1:List (By×cC)}{l:List By}{b:By}{j:gl},P h1 l->cK h1 b=some j->P (da h1 b none) (l++[[108,111,115,101,32]++b]))->P m p
def zr.refl{h:List (By×cC)}{j:List By}:zr e h j h j:=λP a b c=>a
def zr.keep{h h1:List (By×cC)}{j l:List By}{key:By}{t:T}{kp:gl}(u:zr e h j h1 l)(m:e key=some (.inr t))(n:qJ (prog t) [] kp.cH kp.dR)(p:∀q∈kp.cH,W e q.1 q.2)(r:W e key kp.dR):zr e h j (da h1 key (some kp)) (l++[dA key kp]) :=λP a b c=>b (u P a b c) m n p r
def zr.lX{h h1:List (By×cC)}{j l:List By}{key:By}{kp:gl}(n:zr e h j h1 l)(m:cK h1 key=some kp):zr e h j (da h1 key none) (l++[[108,111,115,101,32]++key]) :=λP a b c=>c (n P a b c) m
def zr.trans{h h1 h2:List (By×cC)}{j j1 l:List By}(a:zr e h j h1 j1)(b:zr e h1 j1 h2 l):zr e h j h2 l :=b (λh2 l=>zr e h j h2 l) a (λn m p r u=>n.keep m p r u) (λn m=>n.lX m)
def Wd(h:List (By×cC))(y:rS):Prop:=y.need=[]\/∃b,cK h y.key=some b/\(y.need,y.was)∈b.cH
structure On(e:Src)(s s':LS)(new:List rS):Prop where
 inv:Inv e s'
 cm:s'.cm=s.cm
 done:∀k w,cv s.done k=some w->cv s'.done k=some w
 cY:s.cY≠[]->s'.cY=s.cY
 du:s'.du=s.du++new
 Jj:∀y∈new,Ji e y
 old:∀y∈new,cv s.done y.key=none/\y.key∉s.cm/\¬lY e s.ct y.key/\∃w,cv s'.done y.key=some w
 nodup:(new.map (·.key)).Nodup
 A7:∀k,(∀y∈new,y.key≠k)->cv s'.ct k=cv s.ct k
 quiet:new=[]->s'.ct=s.ct/\s'.jr=s.jr
 was:∀y∈new,Wd s.ct y
 jr:zr e s.ct s.jr s'.ct s'.jr
def On.refl{s:LS}(h:Inv e s):On e s s [] :=⟨h,rfl,λ_ _ h=>h,λ_=>rfl,by simp,λ_ h=>by simp at h,λ_ h=>by simp at h,by simp,λ_ _=>rfl,λ_=>⟨rfl,rfl⟩,λ_ h=>by simp at h,.refl⟩
def On.kept{s s':LS}{m:List rS}(h:On e s s' m){k:By}(j:lY e s.ct k):cK s'.ct k=cK s.ct k:=by
 unfold cK;rw[h.A7 k (λy l b=>(h.old y l).2.2.1 (b▸j))]
def On.wY{s s':LS}{j:List rS}(h:On e s s' j){k:By}(b:lY e s.ct k):lY e s'.ct k :=ra (λ_ hu=>h.kept hu) b
def On.trans{s E F:LS}{C D:List rS}(h:On e s E C)(l:On e E F D):On e s F (C++D) where
 inv:=l.inv
 cm:=l.cm.trans h.cm
 done k w m:=l.done k w (h.done k w m)
 cY r:=(l.cY (by rw[h.cY r];exact r)).trans (h.cY r)
 du:=by rw[l.du,h.du,RU]
 Jj y j:=(aL.1 j).elim (h.Jj y) (l.Jj y)
 old y j:=by
  rcases aL.1 j with j|j
  ·obtain⟨h1,h2,n,w,p⟩:=h.old y j;exact⟨h1,h2,n,w,l.done _ _ p⟩
  obtain⟨h1,h2,n,p⟩:=l.old y j;refine⟨?_,h.cm▸h2,λhu=>n (h.wY hu),p⟩;cases hd:cv s.done y.key with
  |none=>rfl
  |some w=>rw[h.done _ _ hd]at h1;cases h1
 nodup:=by
  rw[aZ,Sh];refine⟨h.nodup,l.nodup,?_⟩;intro a I b K J;obtain⟨y,j,rfl⟩:=aE.1 I;obtain⟨z,B,rfl⟩:=aE.1 K;obtain⟨_,_,_,w,u⟩:=h.old y j;have:=(l.old z B).1;rw[<-J,u]at this;cases this
 A7 k m:=(l.A7 k (λy j=>m y (List.mem_append_right _ j))).trans (h.A7 k (λy j=>m y (RB _ j)))
 quiet L:=by
  obtain⟨h1,h2⟩:=List.append_eq_nil_iff.1 L;obtain⟨a,b⟩:=h.quiet h1;obtain⟨c,d⟩:=l.quiet h2;exact⟨c.trans a,d.trans b⟩
 was y j:=by
  rcases aL.1 j with j|j
  ·exact h.was y j
  rcases l.was y j with G|⟨M,h1,h2⟩
  ·exact .inl G
  refine .inr ⟨M,?_,h2⟩;rw[<-h1];unfold cK;rw[h.A7 y.key (λz B e=>by
   obtain⟨_,_,_,w,u⟩:=h.old z B;have:=(l.old y j).1;rw[<-e,u]at this;cases this)]
 jr:=h.jr.trans l.jr
def BP(e:Src)(key:By)(s:LS)(q:Wo×LS):Prop :=∃b,On e s q.2 b/\Is e key q.1/\(q.1=.error 12->q.2.cY≠[])/\(q.1≠.error 12->lY e q.2.ct key/\∀y∈b,lY e q.2.ct y.key)/\(lY e s.ct key->b=[])/\(key∈s.cm\/cv q.2.done key=some q.1)
def Fuel(K:List By)(b:List By)(n:Nat):Prop:=(K.filter λk=>!b.contains k).length<n
theorem Gc{K b:List By}{n:Nat}{key:By}(h:Fuel K b (n+1))(l:key∈K)(j:key∉b):Fuel K (b++[key]) n:=by
 unfold Fuel at *;have:(K.filter λk=>!(b++[key]).contains k).length<(K.filter λk=>!b.contains k).length:=by
  have h2:(K.filter λk=>!(b++[key]).contains k)=(K.filter λk=>!b.contains k).filter λk=>!(k==key):=by
   rw[SV]
   grind
  rw[h2];apply S_.2
  grind
 omega
section
structure Mb(e:Src)(key:By)(p:Pg Wo):Prop where
 down:∀n w,Wn e (n+1) key w->Rn (Wn e n) p w
 up:∀w,Rn (W e) p w->W e key w
 asks:∀k',Gb e p k'->EE e key k'
theorem Mb.start{key:By}{t:T}(h:e key=some (.inr t)):Mb e key (prog t) where
 down n w b:=by
  rcases b with b|⟨l,h1,h2⟩
  ·grind [lO.qB]
  grind
 up w b:=W.fc h b
 asks k' j:=⟨t,h,j⟩
def Mb.step{key k:By}{c:Wo->Pg Wo}{u:Wo}(h:Mb e key ⟨.inr (k,c)⟩)(hu:W e k u):Mb e key (c u) where
 down n w b:=by
  obtain⟨l,h1,h2⟩:=h.down n w b;obtain rfl:=W.Al ⟨n,h1⟩ hu;exact h2
 up w b:=h.up w ⟨u,hu,b⟩
 asks k' j:=h.asks k' (.inr ⟨u,hu,j⟩)
def Mb.no{key k:By}{c:Wo->Pg Wo}(h:Mb e key ⟨.inr (k,c)⟩)(b:∀u,¬W e k u):∀w,¬W e key w:=by
 rintro w⟨n,j⟩;obtain⟨u,h1,_⟩:=h.down n w j.up;exact b u ⟨n,h1⟩
def zt(e:Src)(j:By->LS->Wo×LS)(b:List By):Prop:=∀k s,Inv e s->s.cm=b->C_ (EE e) (b++[k])->BP e k s (j k s)
def Oy(X:EF e){l:By->LS->Wo×LS}{b:List By}{key:By}(T:zt e l (b++[key]))(Y:C_ (EE e) (b++[key])):∀p s j,Inv e s->s.cm=b++[key]->Mb e key p->Fin p->(∀q∈j,W e q.1 q.2/\lY e s.ct q.1/\hY q.2) ->∃G,On e s (p.run (ep l) (s,j)).2.1 G /\(((p.run (ep l) (s,j)).1=.error 12/\(p.run (ep l) (s,j)).2.1.cY≠[]/\∀u,¬W e key u) \/((p.run (ep l) (s,j)).1≠.error 12/\W e key (p.run (ep l) (s,j)).1/\qJ p j (p.run (ep l) (s,j)).2.2 (p.run (ep l) (s,j)).1/\(∀q∈(p.run (ep l) (s,j)).2.2,W e q.1 q.2/\lY e (p.run (ep l) (s,j)).2.1.ct q.1/\hY q.2)/\∀y∈G,lY e (p.run (ep l) (s,j)).2.1.ct y.key)):=by
 intro p
 induction p using Pg.ind with
 |h1 w =>
  intro s j hi K E I B;have n:=I;exact⟨[],On.refl hi,.inr ⟨n,E.up w ⟨rfl,n⟩,⟨rfl,n,rfl⟩,B,λ_ h=>by simp at h⟩⟩
 |h2 k c ih =>
  intro s j hi K E I B;have Z:(Pg.ask k c).run _ (s,j)=(c (l k s).1).run (ep l) ((l k s).2,ei j k (l k s).1):=rfl;rw[Z];have r:=vo b key k Y (E.asks k (.inl rfl));obtain⟨G,z,J,n,M,m,hd⟩:=T k s hi K r;generalize l k s=q at z J n M hd ⊢;obtain⟨u,O⟩:=q;simp only at z J n M hd ⊢;by_cases hu:u=.error 12
  ·subst hu;have V:=I.1;rw[V];exact⟨G,z,.inl ⟨rfl,n rfl,E.no (λu C=>J.no C)⟩⟩
  have C:=J.w hu;obtain⟨aa,ab⟩:=M hu;have U:∀q∈ei j k u,W e q.1 q.2/\lY e O.ct q.1/\hY q.2:=by
   intro q m;have h1:q∈j\/q=(k,u):=by
    unfold ei at m;split at m
    ·exact .inl m
    rcases aL.1 m with m|m
    ·exact .inl m
    exact .inr (Q_.1 m)
   rcases h1 with h1|rfl
   ·exact⟨(B q h1).1,z.wY (B q h1).2.1,(B q h1).2.2⟩
   exact⟨C,aa,C.fine X⟩
  obtain⟨ad,N,L⟩:=ih u O _ z.inv (z.cm.trans K) (E.step C) (I.2 u hu) U;refine⟨G++ad,z.trans N,?_⟩;rcases L with L|⟨P,Q,D,R,S⟩
  ·exact .inl L
  refine .inr ⟨P,Q,?_,R,λy F=>?_⟩
  ·unfold ei at D ⊢;cases r:cv j k with
   |some u0 =>
    rw[r]at D;have:u0=u:=(B _ (lP r)).1.Al C;subst this;exact .inl ⟨u0,r,by simpa using D⟩
   |none =>
    rw[r]at D;exact .inr ⟨r,u,hu,by simpa using D⟩
  rcases aL.1 F with F|F
  ·exact N.wY (ab y F)
  exact S y F
theorem Jk{j:By->LS->Wo×LS}{b:List By}{key:By}{t:T}{kp:gl}(O:zt e j (b++[key]))(R:C_ (EE e) (b++[key]))(M:e key=some (.inr t))(K:qJ (prog t) [] kp.cH kp.dR)(Q:∀q∈kp.cH,hY q.2):∀rest pre s,kp.cH=pre++rest->Inv e s->s.cm=b++[key]->(∀q∈pre,W e q.1 q.2/\lY e s.ct q.1) ->∃C,On e s (eC j key rest s).2 C/\((∀u,W e key u->∀y∈C,lY e (eC j key rest s).2.ct y.key))/\((∀q∈rest,W e q.1 q.2/\lY e s.ct q.1)->(eC j key rest s).1=none/\C=[]) /\(((eC j key rest s).1=none/\∀q∈kp.cH,W e q.1 q.2/\lY e (eC j key rest s).2.ct q.1) \/∃y,(eC j key rest s).1=some y/\y.key=key/\Is e y.need y.now/\ji y.now y.was=false/\(y.need,y.was)∈kp.cH)
 |[],pre,s,z,hi,J,E=>by
  rw[RD]at z;exact⟨[],On.refl hi,λ_ _ _ h=>by simp at h,λ_=>⟨rfl,rfl⟩,.inl ⟨rfl,z▸E⟩⟩
 |(k,w)::rest,pre,s,z,hi,J,E=>by
  have P:Gb e (prog t) k:=qJ.next (z▸K) (ar _) (λq l=>(E q l).1);have aa:C_ (EE e) (b++[key]++[k]):=vo b key k R ⟨t,M,P⟩;obtain⟨C,p,r,N,G,l,hd⟩:=O k s hi J aa;have Y:eC j key ((k,w)::rest) s=if ji (j k s).1 w=true then eC j key rest (j k s).2 else(some ⟨key,k,w,(j k s).1⟩,(j k s).2):=rfl;rw[Y];generalize j k s=q at p r N G hd ⊢;obtain⟨u,U⟩:=q;simp only at p r N G hd ⊢;have L:(k,w)∈kp.cH:=by rw[z];simp
  have Z:∀v,W e key v->u≠.error 12:=by
   rintro v⟨n,I⟩ rfl;obtain⟨m,w',_,ak⟩:=EE.down ⟨t,M,P⟩ I;exact r.no ⟨m,ak⟩
  by_cases F:ji u w=true
  ·rw[ag F];obtain rfl:=Jg F;have hu:=K.zp (λ_ h=>by simp at h) _ L;obtain⟨ad,ai⟩:=G hu;have ab:∀q∈pre++[(k,u)],W e q.1 q.2/\lY e U.ct q.1:=by
    intro q l;rcases aL.1 l with l|l
    ·exact⟨(E q l).1,p.wY (E q l).2⟩
    rw[Q_.1 l];exact⟨r.w hu,ad⟩
   obtain⟨am,S,g1,V,X⟩:=Jk O R M K Q rest _ U (by rw[z];simp) p.inv (p.cm.trans J) ab;refine⟨C++am,p.trans S,λv I y B=>?_,λD=>?_,X⟩
   ·rcases aL.1 B with B|B
    ·exact S.wY (ai y B)
    grind
   have hk:=l (D (k,u) Rg).2;obtain⟨h5,h6⟩:=V (λq l=>⟨(D q (aS _ l)).1,p.wY (D q (aS _ l)).2⟩)
   grind
  rw[ae F];refine⟨C,p,λv I y B=>(G (Z v I)).2 y B,λD=>?_,.inr ⟨_,rfl,rfl,r,by simpa using F,L⟩⟩;exfalso;obtain⟨h1,h2⟩:=D (k,w) Rg;have:u=w:=r.Al (.inl h1);subst this;exact F (Q _ L).same
end
end bY
namespace bY
variable{v x:V}{i:Int}{b k:By}{l:List V}{f:Nat->List T->RT}{t:T}{e:Nat×Nat}
def L3(v:V):Prop:=iX 3 v
def Db:∀n v,iX n v->iX (n+1) v
 |n,⟨.inl i⟩,h=>by unfold iX at h ⊢;exact h
 |n,⟨.inr (.inl b)⟩,h=>by unfold iX at h ⊢;exact h
 |0,⟨.inr (.inr l)⟩,h=>by unfold iX at h;cases h
 |n+1,⟨.inr (.inr l)⟩,h=>by
  unfold iX at h ⊢;exact⟨h.1,λx hx=>Db n x (h.2 x hx)⟩
def vq:∀n v,iX (n+1) v->mJ n v=true->iX n v
 |n,⟨.inl i⟩,h,_=>by unfold iX at h ⊢;exact h
 |n,⟨.inr (.inl b)⟩,h,_=>by unfold iX at h ⊢;exact h
 |0,⟨.inr (.inr l)⟩,h,j=>by unfold mJ at j;cases j
 |n+1,⟨.inr (.inr l)⟩,h,j=>by
  unfold iX at h ⊢;unfold mJ at j;exact⟨h.1,λx hx=>vq n x (h.2 x hx) (Rk.1 j x hx)⟩
theorem EH(h:L3 v):hY (.ok v):=λu hu=>by cases hu;exact h
def Mc{w:Wo}(h:hY w):∀v,w=.ok v->L3 v:=h
def Dc(c):hY (.error c):=λu hu=>by cases hu
theorem vt(j:-9223372036854775808<=i)(h1:i<=9223372036854775807):L3 (vn i):=by unfold L3 iX;exact⟨j,h1⟩
theorem rh(i):L3 (vn (wrap i)):=vt (by unfold wrap;omega) (by unfold wrap;omega)
theorem Jl(b):L3 (bit b):=by
 grind [bit,vt]
theorem pS(h:L3 x)(hx:x.x=.inl i):-9223372036854775808<=i/\i<=9223372036854775807:=by
 grind [L3,iX]
theorem Jm(j:b.length<=30)(h1:∀c∈b,fW c=true/\c≠39):L3 (vw b):=by unfold L3 iX;exact⟨j,h1⟩
theorem lh(h:L3 x)(hx:x.x=.inr (.inl b)):b.length<=30/\∀c∈b,fW c=true/\c≠39:=by
 grind [L3,iX]
def Ql(j:l.length<=12)(h:∀x∈l,iX 2 x):L3 (vl l):=by unfold L3 iX;exact⟨j,h⟩
theorem A8(h:L3 x)(hx:x.x=.inr (.inr l)):∀u∈l,L3 u:=by
 unfold L3 iX at h;rw[hx]at h;exact λu hu=>Db 2 u (h.2 u hu)
theorem vu(h:L3 x)(hx:x.x=.inr (.inr l)):l.length<=12:=by
 grind [L3,iX]
def PP{α:Type}(A:α->Prop):Pe α->Prop
 |⟨.inl q⟩=>∀v,q.1=.ok v->A v
 |⟨.inr (k,c)⟩=>isKey k=true/\∀w,(∀v,w=.ok v->L3 v)->PP A (c w)
theorem ki{α:Type}{A:α->Prop}{r:Except Nat α}{f:Nat}(h:∀v,r=.ok v->A v):PP A (.ret (r,f)):=h
def nJ{α β:Type}{A:α->Prop}{B:β->Prop}:∀p k,PP A p->(∀v f,A v->PP B (k v f))->PP B (eT p k)
 |⟨.inl (.ok a,f)⟩,k,h,j=>j a f (h a rfl)
 |⟨.inl (.error e,f)⟩,k,h,j=>λv m=>by cases m
 |⟨.inr (q,c)⟩,k,h,j=>⟨h.1,λw n=>nJ (c w) k (h.2 w n) j⟩
def Jn{A:V->Prop}:∀p k,PP A p->(∀f,PP A (k f))->PP A (p5 p k)
 |⟨.inl (.ok a,f)⟩,k,h,j=>h
 |⟨.inl (.error e,f)⟩,k,h,j=>by
  unfold p5;simp only[Pg.bind];by_cases m:e=7\/e=8\/e=9\/e=10
  ·rw[ag m];exact j f
  rw[ae m];exact h
 |⟨.inr (q,c)⟩,k,h,j=>⟨h.1,λw n=>Jn (c w) k (h.2 w n) j⟩
theorem su(j:∀x∈l,L3 x)(h:en l=.ok v):L3 v:=by
 unfold en at h;split at h
 ·cases h
 rename_i m;cases h;have h2:l.all (mJ 2)=true:=by
  grind
 exact Ql R5 (λx hx=>vq 2 x (j x hx) (Rk.1 h2 x hx))
def ig{α:Type}{P:α->Prop}{a b:List α}(h:∀u∈a,P u)(j:∀u∈b,P u):∀u∈a++b,P u:=λu hu=>by
 rcases aL.1 hu with hu|hu
 ·exact h u hu
 exact j u hu
def iO{α:Type}{P:α->Prop}:∀u∈([]:List α),P u:=λu hu=>by cases hu
def kA{α:Type}{P:α->Prop}{a:α}(h:P a):∀u∈[a],P u:=λu hu=>by rw[Q_.1 hu];exact h
def Dd{α:Type}(P):∀(l:List α) (m) (f),(∀x∈m,L3 x)->(∀a∈l,∀f,PP L3 (P a f))->PP L3 (oP P l m f)
 |[],m,f,j,_=>λv n=>su j n
 |a::r,m,f,j,p=>nJ _ _ (p a Rg f) λv f n=>Dd P r _ f (ig j (kA n)) (λa j=>p a (aS _ j))
def zu(P):∀l m f,(∀x∈m,L3 x)->(∀x∈l,L3 x)->(∀a∈l,∀f,PP L3 (P a f))->PP L3 (lK P l m f)
 |[],m,f,j,_,_=>λv n=>su j n
 |a::r,m,f,j,y,u=>nJ _ _ (u a Rg f) λv f _=>by
  have h1:∀x∈r,L3 x:=λx hx=>y x (aS _ hx);have h2:∀a∈r,∀f,PP L3 (P a f):=λa j=>u a (aS _ j);cases h:fw v with
  |ok i =>
   show PP L3 (if i=0 then _ else _);by_cases p:i=0
   ·rw[ag p];exact zu P r _ f j h1 h2
   rw[ae p];exact zu P r _ f (ig j (kA (y a Rg))) h1 h2
  |error e=>exact λv n=>by cases n
def EI(j:isKey k=true)(f):PP L3 (kJ k f):=⟨j,λw n v m=>n v m⟩
theorem ri{y:V}{g:Int->Int->Except Nat V}(m:∀i j u,x.x=.inl i->y.x=.inl j->g i j=.ok u->L3 u)(h:mO x y g=.ok v):L3 v:=by
 grind [mO]
theorem EJ{op:Nat}{y:V}(hx:L3 x)(n:L3 y)(h:make op x y=.ok v):L3 v:=by
 unfold make at h;split at h
 ·unfold plus at h;split at h
  ·grind [rh]
  ·rename_i a b j m;split at h
   ·cases h
   cases h;exact Jm (by rw[aj];omega) (ig (lh hx j).2 (lh n m).2)
  ·rename_i a b j m;exact su (ig (A8 hx j) (A8 n m)) h
  cases h
 split at h
 ·grind [ri,rh]
 split at h
 ·grind [ri,rh]
 split at h
 ·grind [ri,rh]
 split at h
 ·grind [less,Jl]
 split at h
 ·grind [Jl]
 split at h
 ·grind [ri,pS,vt]
 split at h
 ·grind [ri,pS,vt]
 unfold gz at h;split at h
 ·grind [List.length_take,lh,Jm,vt,A8]
 cases h
theorem Md(hx:L3 x)(h:size x=.ok v):L3 v:=by
 grind [size,lh,vt,vu]
def vz:∀l a v,L3 (vn a)->fE a l=.ok v->L3 v
 |[],a,v,j,h=>by cases h;exact j
 |u::r,a,v,j,h=>by
  unfold fE at h;split at h
  ·exact vz r _ v (rh _) h
  cases h
def Jo(h:jW x=.ok v):L3 v:=by
 unfold jW at h;split at h
 ·exact vz _ _ _ (vt R5 R5) h
 cases h
def Gd(i):∀c∈Lib.itoa i,fW c=true/\c≠39:=λc m=>by
 have j:((List.range 256).all λn=>!(mP (UInt8.ofNat n))||(fW (UInt8.ofNat n)&&!(UInt8.ofNat n==39)))=true:=by decide +kernel
 have h:=Rk.1 j c.toNat (SW.2 c.toNat_lt);rw[UInt8.ofNat_toNat,j9 i c m]at h;simpa using h
def ua:∀k u,u<10^(k+1)->(Lib.decDigits u).length<=k+1
 |0,u,h=>by
  rw[Lib.decDigits,RA R5];simp
 |k+1,u,h=>by
  rw[Lib.decDigits];by_cases hu:u<10
  ·rw[RA hu];simp
  rw[dif_neg hu,aj];have:=ua k (u / 10) (by rw[SP]at h;omega);simp;omega
theorem nK{x:Int}(j:-9223372036854775808<=x)(h1:x<=9223372036854775807):(Lib.itoa x).length<=30:=by
 unfold Lib.itoa;split
 ·have:=ua 19 x.natAbs (by show _<100000000000000000000;omega)
  grind
 have:=ua 19 x.toNat (by show _<100000000000000000000;omega);omega
theorem Ge(hx:L3 x)(h:iu x=.ok v):L3 v:=by
 unfold iu at h;split at h
 ·rename_i i hi;cases h;have h1:=pS hx hi;exact Jm (nK h1.1 h1.2) (Gd i)
 ·grind [lh,Jm]
 cases h
theorem sw(j:L3 v)(h:eS v=.ok l):∀x∈l,L3 x:=by
 grind [eS,A8]
theorem Gf(m:L3 v)(h:keyOf v=.ok k):isKey k=true:=by
 obtain⟨x⟩:=v;unfold keyOf at h;unfold isKey;rcases x with i|b|l
 ·cases h;have j:=pS m rfl;simp only[List.head?_cons,Rx,aW,ie i j.1 j.2];simp
 ·grind
 cases h
theorem A9(P t f)(n:∀i f,PP L3 (P (t.cM i) f)):PP L3 (fx P t f):=by
 unfold fx;refine nJ _ _ (n 0 f) λv f m=>?_;split
 ·exact nJ _ _ (n 1 f) λu f hu=>ki λr j=>EJ m hu j
 split
 ·exact ki λr j=>EJ (vt R5 R5) m j
 split
 ·split
  ·rename_i p;exact EI (Gf m p) _
  grind [ki]
 split
 ·grind [ki]
 split
 ·exact ki λr j=>Md m j
 split
 ·exact ki λr j=>Jo j
 split
 ·exact ki λr j=>Ge m j
 grind [ki]
def lit:Nat->T->Prop
 |0,_=>True
 |n+1,t=>((∀v,t.is=some v->L3 v)/\(t.cu=3->isKey t.name=true))/\∀u∈t.parts,lit n u
def A_{n:Nat}(h:lit (n+1) t)(i):lit n (t.cM i):=by
 unfold lit at h;unfold T.cM;cases j:t.parts[i]? with
 |none =>
  simp only[Option.getD_none];cases n<;>simp[lit,T.none]
 |some u=>exact h.2 u (aJ j)
def Ba:∀n t p f,lit n t->(∀v,p=some v->L3 v)->PP L3 (tr n t p f)
 |0,t,p,f,_,_=>λv m=>by cases m
 |n+1,t,p,f,h,hit=>by
  have y:∀i f,PP L3 (tr n (t.cM i) p f):=λi f=>Ba n _ p f (A_ h i) hit;have C:∀i u f,L3 u->PP L3 (tr n (t.cM i) (some u) f):=λi u f hu=>Ba n _ _ f (A_ h i) (λv m=>by cases m;exact hu);unfold tr;split
  ·exact A9 _ t f y
  split
  ·exact ki λr j=>by cases j
  split
  ·refine ki λr j=>?_;unfold lit at h;cases hi:t.is with
   |none=>rw[hi]at j;cases j
   |some v =>
    rw[hi]at j;cases j;exact h.1.1 _ hi
  split
  ·rename_i D;unfold lit at h;exact EI (h.1.2 D) _
  split
  ·refine ki λr j=>?_;cases p with
   |none=>cases j
   |some v=>cases j;exact hit _ rfl
  split
  ·exact Jn _ _ (y 0 _) (λf=>y 1 f)
  split
  ·refine nJ _ _ (y 0 _) λv f m=>?_;cases B:eS v with
   |ok l=>exact Dd _ l [] f iO (λa z f=>C 1 a f (sw m B a z))
   |error e=>exact ki λr j=>by cases j
  split
  ·refine nJ _ _ (y 0 _) λv f m=>?_;cases B:eS v with
   |ok l=>exact zu _ l [] f iO (sw m B) (λa z f=>C 1 a f (sw m B a z))
   |error e=>exact ki λr j=>by cases j
  split
  ·refine Dd _ _ _ _ iO (λa z f=>Ba n a p f ?_ hit);unfold lit at h;exact h.2 a z
  exact A9 _ t _ y
def xY:∀p,PP L3 p->Ma p.dR
 |⟨.inl (.ok v,f)⟩,h=>EH (h v rfl)
 |⟨.inl (.error c,f)⟩,h=>Dc c
 |⟨.inr (k,c)⟩,h=>⟨h.1,λw j=>xY (c w) (h.2 w (Mc j))⟩
def vC(h:lit (hM t) t):Ma (prog t):=xY _ (Ba _ t none 400 h (λ_ j=>by cases j))
/-! The trees that a reader makes. -/
def LA(t:T):Prop:=∀n,lit n t
def zv(h1:(∀v,t.is=some v->L3 v)/\(t.cu=3->isKey t.name=true))(h2:∀u∈t.parts,LA u):LA t:=λn=>by
 cases n with
 |zero=>exact trivial
 |succ n=>exact⟨h1,λu hu=>h2 u hu n⟩
def vD{l:By}(h:(tok l).1=3):∃n,dS l=some n/\(tok l).2=n+2:=by
 cases l with
 |nil=>cases h
 |cons c r =>
  rw[gy _ c r rfl]at h ⊢;split at h
  ·split at h<;>cases h
  rename_i hd;rw[ae hd];split at h
  ·split at h
   ·cases h
   split at h<;>cases h
  rename_i m;rw[ae m];split at h
  ·rename_i j;rw[ag j];cases p:dS _ with
   |none=>rw[p]at h;cases h
   |some n=>exact⟨n,rfl,rfl⟩
  split at h<;>cases h
def Gg(l:By):∀v,nG l=some v->L3 v:=by
 intro v h;unfold nG at h;split at h
 ·cases h;cases j:d_ _ with
  |none=>exact vt (by show _<=(0:Int);omega) (by show(0:Int)<=_;omega)
  |some i =>
   have:=iF _ _ (js j).2;exact vt this.1 this.2
 ·rename_i m;cases h;obtain⟨n,j,h2⟩:=vD m;cases l with
  |nil=>cases j
  |cons c r =>
   simp only[dS]at j;split at j
   ·obtain⟨u,y,z,p⟩:=nA 31 r n j;rw[h2];have:n+2-2=n:=R5;rw[this];simp only[Rx,aW];exact Jm T7 p
   cases j
 cases h
def jZ(p):∀(l:By),dJ p (l.take (dJ p l))=dJ p l
 |[]=>rfl
 |c::r=>by
  by_cases h:p c=true
  ·have e:dJ p (c::r)=dJ p r+1:=by simp[dJ,h]
   rw[e,Q9];have j:dJ p (c::r.take (dJ p r))=dJ p (r.take (dJ p r))+1:=by simp[dJ,h]
   rw[j,jZ p r]
  have e:dJ p (c::r)=0:=by simp[dJ,h]
  rw[e];rfl
theorem Me{l:By}(h:(tok l).1=4):dB (l.take (tok l).2)=true:=by
 cases l with
 |nil=>cases h
 |cons c r =>
  have j:=gy _ c r rfl;by_cases h1:dH c=true
  ·rw[j,ag h1]at h;split at h<;>cases h
  rw[ae h1]at j;by_cases h2:eE c=true
  ·rw[ag h2]at j;by_cases m:ib ((c::r).take (dJ eM (c::r)))=true
   ·rw[j,ag m]at h;cases h
   rw[ae m]at j;by_cases p:8<dJ eM (c::r)
   ·rw[j,ag p]at h;cases h
   rw[ae p]at j;rw[j];show dB _=true;have D:=kH eM c r UB;obtain⟨n,u⟩:∃n,dJ eM (c::r)=n+1:=⟨dJ eM (c::r)-1,by omega⟩;have z:=jZ eM (c::r);have y:=ng eM (c::r);rw[u,Q9]at z m;rw[u]at p y;rw[u,Q9];have B:=gy _ c (r.take n) rfl;have hlen:(c::r.take n).length=n+1:=by
    simp only[aM,Rf]at y ⊢;omega
   have C:(c::r.take n).take (n+1)=c::r.take n:=Ri R5;rw[ae h1,ag h2,z,C,ae m,ae p]at B;unfold dB;rw[B,hlen];simp
  rw[ae h2]at j;rw[j]at h;by_cases m:c=39
  ·rw[ag m]at h;unfold fh at h;split at h<;>cases h
  rw[ae m]at h;split at h<;>cases h
theorem Gh{l:By}{i j:Nat}(h:cu l i j=3):isKey (tx l i)=true:=by
 have m:(tok (l.drop i)).1=4:=by
  unfold cu kindOf at h;split at h
  ·omega
  split at h
  ·assumption
  split at h
  ·have:=(mq _ _ _ h).1;omega
  split at h
  ·have:=mr _ _ h;omega
  omega
 grind [isKey,tx,Me]
def Mf(l:By)(i m ts)(h:∀u∈ts,LA u):LA (iB l (cu l i m) i ts):=zv ⟨Gg _,λj=>by
 have j:cu l i m=3:=j;show isKey (if cu l i m=3 then tx l i else[])=true;rw[ag j];exact Gh j⟩ h
def zw(l:By)(i ts us)(h:∀u∈ts,LA u)(j:∀u∈us,LA u):LA (jb l i ts us):=zv ⟨(λ_ h=>by cases h),(λh=>by cases h)⟩ (λu hu=>by
 rcases aL.1 hu with hu|hu
 ·exact h u hu
 ·exact j u hu)
def Hq(r:RT):Prop:=∀j m,r=.ok (j,m)->∀u∈m,LA u
theorem lQ{j:Nat}{ts:List T}(h:∀u∈ts,LA u):Hq (.ok (j,ts)):=λ_ _ e=>by cases e;exact h
theorem rj:Hq (.error e):=λ_ _ h=>by cases h
theorem dZ{r:RT}(h:Hq r)(n:∀j m,(∀u∈m,LA u)->Hq (f j m)):Hq (dh r f):=by
 rcases r with e|⟨j,m⟩
 ·exact rj
 exact n j m (h j m rfl)
theorem iZ(l t:By)(i ts)(h:∀u∈ts,LA u):Hq (eX l t i ts):=by
 grind [eX,lQ,rj]
theorem Gi(l:By)(k i R F W I)(m:∀j,Hq (R j))(hF:∀j,Hq (F j))(y:∀j,Hq (W j))(z:∀j n,(∀u∈n,LA u)->Hq (I j n)):Hq (gM l k i R F W I):=by
 unfold gM;split
 ·grind
 split
 ·exact dZ (m i) (iZ l _)
 split
 ·exact dZ (m i) (iZ l _)
 split
 ·grind [lQ,dZ]
 split
 ·exact dZ (dZ (m i) (iZ l _)) λj n h1=>dZ (dZ (m j) (iZ l _)) λj p h2=>dZ (hF j) λj B r=>lQ (ig h1 (ig h2 r))
 split
 ·exact dZ (iZ l _ _ _ iO) λj _ _=>dZ (m j) (iZ l _)
 split
 ·exact dZ (iZ l _ _ _ iO) λj _ _=>dZ (dZ (m j) (iZ l _)) λj n h1=>dZ (dZ (m j) (iZ l _)) λj p h2=>lQ (ig h1 h2)
 split
 ·exact dZ (iZ l _ _ _ iO) λj _ _=>dZ (dZ (m j) (iZ l _)) λj n h1=>dZ (dZ (y j) (iZ l _)) λj p h2=>lQ (ig h1 h2)
 grind [lQ]
def Oz(l:By):∀n D B C i z,(∀u∈z,LA u)->Hq (PT l n D B C i z):=by
 intro n
 induction n with
 |zero=>intros;exact rj
 |succ n m =>
  intro D B C i z p;unfold PT;split
  ·refine dZ (m _ _ _ _ _ iO) λj r h1=>?_;split
   ·exact dZ (m _ _ _ _ _ iO) λk y h2=>lQ (kA (zw l j r y h1 h2))
   exact lQ h1
  split
  ·exact dZ (m _ _ _ _ _ iO) λj r h1=>m _ _ _ _ _ h1
  split
  ·exact dZ (m _ _ _ _ _ iO) λj r h1=>m _ _ _ _ _ h1
  split
  ·split
   ·exact rj
   split
   ·exact rj
   exact dZ (Gi l _ _ _ _ _ _ (λj=>m _ _ _ _ _ iO) (λj=>m _ _ _ _ _ iO) (λj=>m _ _ _ _ _ iO) (λj r h=>m _ _ _ _ _ h)) λj r h1=>lQ (kA (Mf l _ _ r h1))
  split
  ·split
   ·exact dZ (m _ _ _ _ _ iO) λj y h1=>m _ _ _ _ _ (kA (zw l i z y p h1))
   exact lQ p
  split
  ·split
   ·exact dZ (m _ _ _ _ _ iO) λj y h1=>m _ _ _ _ _ (kA (zw l i z y p h1))
   exact lQ p
  split
  ·exact dZ (m _ _ _ _ _ iO) λj y h1=>m _ _ _ _ _ (ig p h1)
  exact iZ l _ _ _ p
def EK:LA T.none:=zv ⟨(λ_ h=>by cases h),(λh=>by cases h)⟩ (λu hu=>by cases hu)
def xZ(l:By):LA (gZ l):=by
 unfold gZ;cases h:PT l _ 0 0 0 _ [] with
 |error e=>exact EK
 |ok q =>
  obtain⟨j,m⟩:=q;have:=Oz l _ _ _ _ _ [] iO j m h;cases m with
  |nil=>exact EK
  |cons t r=>exact this t Rg
def De(l:By):Ma (prog (gZ l)):=vC (xZ l _)
end bY
namespace bY
variable{b:By}{l:List V}{u:V}
def fG(l:a_):Option (List (a_)):=(gX l).map gd
theorem xo(n i):wr n (vn i)=Lib.itoa i:=Tp
theorem sy(n)(b:By):wr n (vw b)=39::(b++[39]):=Tp
theorem Df(n l):wr (n+1) (vl l)=123::(cS (l.map (wr n))++[125]):=rfl
def NZ:∀n v,mJ n v=true->wr (n+1) v=wr n v
 |n,⟨.inl i⟩,_=>(xo (n+1) i).trans (xo n i).symm
 |n,⟨.inr (.inl b)⟩,_=>(sy (n+1) b).trans (sy n b).symm
 |0,⟨.inr (.inr l)⟩,h=>by unfold mJ at h;cases h
 |n+1,⟨.inr (.inr l)⟩,h=>by
  unfold mJ at h;have h:l.all (mJ n)=true:=h;show wr (n+1+1) (vl l)=wr (n+1) (vl l);rw[Df,Df,RH (λu hu=>NZ n u (Rk.1 h u hu))]
theorem N0{i:Int}(h:L3 (vn i)):d_ (wr 3 (vn i))=some i:=by
 obtain⟨h1,h2⟩:=pS h rfl
 grind [xo,ie]
def N2(b:By):d_ (wr 3 (vw b))=none:=by rw[sy];exact lF (c:=39) rfl S4
def N3(l):d_ (wr 3 (vl l))=none:=by rw[Df];exact lF (c:=123) rfl S4
def x8(i):∃c r,Lib.itoa i=c::r/\mP c=true:=by
 cases h:Lib.itoa i with
 |nil =>
  exfalso;unfold Lib.itoa at h;split at h
  ·cases h
  exact rW _ h
 |cons c r=>exact⟨c,r,rfl,j9 i c T3⟩
def Qm(i):j_ (wr 3 (vn i))=none:=by
 rw[xo];obtain⟨c,r,e,j⟩:=x8 i;unfold j_;rw[ae];rintro⟨_,_,h,_⟩;rw[e]at h;cases aB h
 revert j
 decide
theorem Qn(h:L3 (vw b)):j_ (wr 3 (vw b))=some b:=by
 obtain⟨h1,h2⟩:=lh h rfl
 grind [sy,rX]
theorem Qo(l):j_ (wr 3 (vl l))=none:=by
 grind [j_,Df]
def Qp(i):fG (wr 3 (vn i))=none:=by
 rw[xo];obtain⟨c,r,e,j⟩:=x8 i;unfold fG gX;rw[ae]
 ·rfl
 rintro⟨_,h,_⟩;rw[e]at h;cases aB h
 revert j
 decide
theorem Qq(b:By):fG (wr 3 (vw b))=none:=by
 grind [fG,gX,sy]
def Jp(h:L3 (vl l)):∀u∈l,iX 2 u:=by unfold L3 iX at h;exact h.2
def zx(h:mJ 2 u=true):wr 3 u=wr 2 u:=NZ 2 u h
def Dg(h:∀u∈l,mJ 2 u=true):l.map (wr 3)=l.map (wr 2):=RH (λu hu=>zx (h u hu))
def PG(h:L3 (vl l)):fG (wr 3 (vl l))=some (l.map (wr 3)):=by
 rw[Df];unfold fG;rw[pa,Dg (λu hu=>pN 2 u (Jp h u hu))];show some _=_;rw[nB (Jp h)]
def Gj(t:By):Except Nat By:=if(rv 3 t).isSome=true then .ok t else .error 10
def il(l:List By):By:=123::(cS l++[125])
def txt(r:Wo):Except Nat By:=match r with|.ok v=>.ok (wr 3 v)|.error e=>.error e
theorem Jq{n:Nat}{v:V}(e:iX n v)(hu:iX n u)(h:wr n v=wr n u):v=u:=by
 grind [Es]
def QW(h:L3 u):(rv 2 (wr 3 u)).isSome=mJ 2 u:=by
 cases e:mJ 2 u with
 |true =>
  rw[zx e,Es 2 u (vq 2 u h e)];rfl
 |false =>
  cases m:rv 2 _ with
  |none=>rfl
  |some v =>
   exfalso;obtain⟨h1,h2⟩:=yY 2 _ v m;have j:=pN 2 v h1;rw[<-zx j]at h2;have:=Jq h (Db 2 v h1) h2;rw[this,j]at e;cases e
theorem sA(f):∀e:List (a_),(ka f e).isSome=e.all λp=>(f p).isSome
 |[]=>rfl
 |a::r=>by
  rw[ka,RL,<-sA f r];cases f a with
  |none=>rfl
  |some v=>cases ka f r<;>rfl
theorem vE(h:∀u∈l,L3 u):Gj (il (l.map (wr 3)))=txt (en l):=by
 have B:d_ (il (l.map (wr 3)))=none:=lF (c:=123) rfl S4;have C:j_ (il (l.map (wr 3)))=none:=by
  unfold j_;rw[ae];rintro⟨_,_,h,_⟩;cases h
 have hi:gX (il (l.map (wr 3)))=some _:=pa _;have z:∀l:List V,(∀u∈l,L3 u)->(l.map (wr 3)).all (λp=>(rv 2 p).isSome)=l.all _:=λl=>by
  induction l with
  |nil=>intro _;rfl
  |cons a r y=>intro h;rw[Rr,RL,RL,y (λu hu=>h u (aS _ hu)),QW (h a S5)]
 have n:(rv 3 (il (l.map (wr 3)))).isSome=(decide (l.length<=12)&&l.all (mJ 2)):=by
  have e:rv 3 (il (l.map (wr 3)))=if 12<(gd (cS (l.map (wr 3)))).length then none else(ka (rv 2) (gd (cS (l.map (wr 3))))).map vl:=by
   grind [p9]
  rw[e,nB h,aH]
  grind [Option.isSome_map,sA]
 unfold Gj en;rw[n];by_cases j:12<l.length
 ·rw[aN R5,RS,ae S5,ag (.inl j)];rfl
 rw[aQ R5,Ru];cases m:l.all _ with
 |true =>
  rw[ag rfl,ae (λh=>by rcases h with h|h;exact j h;cases h)];show Except.ok _=Except.ok _;rw[Df,Dg (λu hu=>Rk.1 m u hu)];rfl
 |false =>
  rw[ae S5,ag (.inr rfl)];rfl
theorem Jr{a:By}(n:L3 (vw a))(p:L3 (vw b)):Gj (39::(a++b++[39]))=txt (plus (vw a) (vw b)):=by
 obtain⟨h1,h2⟩:=lh n rfl;obtain⟨y,m⟩:=lh p rfl;have e:plus (vw a) (vw b)=if 30<a.length+b.length then .error 10 else .ok _:=rfl;rw[e];unfold Gj;by_cases j:30<a.length+b.length
 ·rw[ag j,ae]
  ·rfl
  have r:j_ (39::(a++b++[39]))=none:=by
   grind [j_]
  have hi:gX (39::(a++b++[39]))=none:=by
   grind [gX]
  rw[p9,lF (c:=39) rfl S4,r]
  grind
 rw[ae j,ag]
 ·show Except.ok _=Except.ok _;rw[sy]
 rw[p9,lF (c:=39) rfl S4,rX (by rw[aj];omega) (ig h2 m)];rfl
def Bb{v:V}(j:L3 v)(hu:L3 u):same 3 v u=decide (wr 3 v=wr 3 u):=by
 cases h:same 3 v u with
 |true =>
  rw[zq 3 v u h,aQ rfl]
 |false =>
  rw[aN];intro e;rw[Jq j hu e,sr,pN 3 u hu]at h;cases h
def Bc{k:Nat}(h:k<b.length):((wr 3 (vw b)).drop (1+k)).take 1=(b.drop k).take 1:=by
 rw[sy,Nat.add_comm,Rx,TM R5,TQ (by rw[aV];omega)]
end bY
namespace bY
structure Hs(s s':LS):Prop where
 cm:s'.cm=s.cm
 ct:∀k∈s.cm,cv s'.ct k=cv s.ct k
def Hs.refl(s):Hs s s:=⟨rfl,λ_ _=>rfl⟩
def Hs.trans{a b c:LS}(h:Hs a b)(e:Hs b c):Hs a c:=⟨e.cm.trans h.cm,λk hk=>(e.ct k (h.cm▸hk)).trans (h.ct k hk)⟩
structure Hk(key:By)(s s':LS):Prop where
 cm:s'.cm=s.cm
 ct:∀k∈s.cm,k≠key->cv s'.ct k=cv s.ct k
def Hs.hk{s s':LS}(h:Hs s s')(key):Hk key s s':=⟨h.cm,λk hk _=>h.ct k hk⟩
variable {j:By->LS->Wo×LS}
def zG(b:∀k s,Hs s (j k s).2)(key):∀l s,Hs s (eC j key l s).2
 |[],s=>Hs.refl s
 |(k,w)::r,s=>by
  unfold eC;split
  ·exact(b k s).trans (zG b key r _)
  exact b k s
def Mm(e:∀k s,Hs s (j k s).2)(p:Pg Wo):∀s b,Hs s (p.run (ep j) (s,b)).2.1 :=Pg.ind (P:=λp=>∀(s:LS) (b:List (By×Wo)),Hs s (p.run (ep j) (s,b)).2.1) (λa s b=>Hs.refl s) (λk f l s b=>(e k s).trans (l _ _ _)) p
theorem OG(key q):Hk key q.2.1 (ia key q).2:=by
 unfold ia;have e:∀(o:Option gl) (k:By),k≠key->cv (da q.2.1.ct key o) k=cv q.2.1.ct k:=λo k b=>by
  grind [fM]
 by_cases h:gT q.1=true
 ·simp only[h,aO];split
  ·exact⟨rfl,λk _ b=>e none k b⟩
  exact⟨rfl,λk _ b=>rfl⟩
 simp only[h];exact⟨rfl,λk _ b=>e _ k b⟩
def JE(e:∀k s,Hs s (j k s).2)(key t y s):Hk key s (f_ j key t y s).2:=by
 unfold f_;have h1:=Mm e (prog t) {s with du:=s.du++[y]} [];have h2:=OG key ((prog t).run (ep j) ({s with du:=s.du++[y]},[]));exact⟨h2.cm.trans h1.cm,λk b l=>(h2.ct k (by rw[h1.cm];exact b) l).trans (h1.ct k b)⟩
def zH(b:∀k s,Hs s (j k s).2)(key s):Hk key s (dE j key s).2:=by
 cases e:cv s.ct key with
 |none =>
  simp only[dE,e];exact(Hs.refl s).hk key
 |some m =>
  cases l:m.di with
  |none =>
   simp only[dE,e,l];exact(Hs.refl s).hk key
  |some t =>
   simp only[dE,e,l];cases m.kept with
   |none=>exact JE b key t _ s
   |some k =>
    have h1:=zG b key k.cH s;unfold fg;cases hd:eC j key k.cH s with
    |mk o p =>
     rw[hd]at h1;simp only[hd];cases o with
     |none=>exact h1.hk key
     |some y =>
      have h2:=JE b key t y p;exact⟨h2.cm.trans h1.cm,λk' hk n=>(h2.ct k' (by rw[h1.cm];exact hk) n).trans (h1.ct k' hk)⟩
def yc{b:By->LS->Wo×LS}(p:∀key s,Hk key s (b key s).2)(key s):Hs s (eY b key s).2:=by
 unfold eY;cases cv s.done key with
 |some w=>exact Hs.refl s
 |none =>
  by_cases l:s.cm.contains key=true
  ·rw[ag l];show Hs s (s.meet key);unfold LS.meet;by_cases n:s.cY=[]
   ·rw[ag n];exact⟨rfl,λ_ _=>rfl⟩
   rw[ae n];exact Hs.refl s
  rw[ae l];have h:=p key {s with cm:=s.cm++[key]};refine⟨?_,λk m=>?_⟩
  ·show(b key {s with cm:=s.cm++[key]}).2.cm.dropLast=s.cm;rw[h.cm];simp
  refine h.ct k (RB _ m) (λe=>l ?_);subst e;simpa using m
def px:∀n b s,Hs s (cG n b s).2
 |0,b,s=>yc (λb s=>(Hs.refl s).hk b) b s
 |n+1,b,s=>yc (zH (px n)) b s
end bY
end
namespace bY
def Un(s:LS):Nat:=((dK s.ct).filter λk=>!s.cm.contains k).length
def Bi(s k)(b:k∈dK s.ct)(e:s.cm.contains k=false):Un {s with cm:=s.cm++[k]}+1<=Un s:=by
 unfold Un;have h2:((dK s.ct).filter λx=>!(s.cm++[k]).contains x)=((dK s.ct).filter λx=>!s.cm.contains x).filter λx=>!(x==k):=by
  rw[SV]
  grind
 show(List.filter (λx=>!(s.cm++[k]).contains x) (dK s.ct)).length+1<=_;rw[h2];apply S_.2
 grind
def N7(s):Un s<=s.ct.length:=by
 grind [Un,dK]
def vT(s):Rs s<=s.ct.length:=by
 grind [Rs,dK]
def jk.un{s s':LS}{c:Nat}(h:jk s s' c):Un s'=Un s:=by
 unfold Un;rw[h.dK,h.cm]
def ry(n key s)(e:KB s.ct){th:cC}(u:cv s.ct key=some th){t:T}(B:th.di=some t):Own s (dE (cG n) key s).2:=by
 have z:dE (cG n) key s=fg (cG n) key t th.kept s:=by grind [dE]
 rw[z];have l:∀k s,KB s.ct->jk s (cG n k s).2 1:=λk s e=>jA n k s e;cases r:th.kept with
 |none=>exact ug l key t ⟨key,[],.error 0,.error 0⟩ s s e (jk.refl s 401)
 |some b =>
  have m:b.cH.length<=401:=e _ (kj u) b r;have hd:=ue l key b.cH s e;have p:fg (cG n) key t (some b) s=match eC (cG n) key b.cH s with|(.none,s)=>(b.dR,s)|(.some y,s)=>f_ (cG n) key t y s:=rfl
  rw[p];generalize eC (cG n) key b.cH s=q at hd;obtain⟨o,j⟩:=q;simp only at hd;cases o with
  |none=>exact⟨hd.dd,hd.kb,hd.cm,hd.mono,hd.dn,by have:=hd.nf;show j.done.length+1000*Rs j<=_;omega,by have:=hd.du;show j.du.length+Rs j<=_;omega⟩
  |some y=>exact ug l key t y j s (hd.kb e) (hd.le m)
def ye(key q):dd (ia key q).2.ct=dd q.2.1.ct/\(ia key q).2.done=q.2.1.done:=by
 unfold ia;by_cases h:gT q.1=true
 ·simp only[h,aO];split
  ·exact⟨gS _ _ _,rfl⟩
  grind
 simp only[h];exact⟨gS _ _ _,rfl⟩
end bY
section
namespace bY
def Bl(l k):(eQ l k).length<=l.length:=by
 unfold eQ
 induction l with
 |nil=>simp
 |cons a l j =>
  rw[SA];split
  ·simp;omega
  exact af _
section
variable {e:By->LS->Wo×LS}{b:List By}{K:Nat}
def JK(n:∀k s,Hs s (e k s).2)(j:∀k s,s.cm=b->s.cY.length<=K->(e k s).2.cY.length<=K)(key):∀l s,s.cm=b->s.cY.length<=K->(eC e key l s).2.cY.length<=K
 |[],s,_,h=>h
 |(k,w)::r,s,m,h=>by
  unfold eC;split
  ·exact JK n j key r _ ((n k s).cm.trans m) (j k s m h)
  exact j k s m h
def Mu(n:∀k s,Hs s (e k s).2)(m:∀k s,s.cm=b->s.cY.length<=K->(e k s).2.cY.length<=K)(p:Pg Wo):∀s j,s.cm=b->s.cY.length<=K->(p.run (ep e) (s,j)).2.1.cY.length<=K :=Pg.ind (P:=λp=>∀(s:LS) (j:List (By×Wo)),s.cm=b->s.cY.length<=K->(p.run (ep e) (s,j)).2.1.cY.length<=K) (λa s j _ h=>h) (λk f r s j l h=>r _ _ _ ((n k s).cm.trans l) (m k s l h)) p
def JM(key q):(ia key q).2.cY=q.2.1.cY:=by
 unfold ia;by_cases h:gT q.1=true
 ·simp only[h,aO];split<;>rfl
 simp only[h];rfl
def Mv(m:∀k s,Hs s (e k s).2)(n:∀k s,s.cm=b->s.cY.length<=K->(e k s).2.cY.length<=K)(key s)(j:s.cm=b)(h:s.cY.length<=K):(dE e key s).2.cY.length<=K:=by
 have p:∀t y (s:LS),s.cm=b->s.cY.length<=K->(f_ e key t y s).2.cY.length<=K:=λt y s j h=>by
  unfold f_;rw[JM];exact Mu m n (prog t) {s with du:=s.du++[y]} [] j h
 cases l:cv s.ct key with
 |none =>
  simp only[dE,l];exact h
 |some u =>
  cases r:u.di with
  |none =>
   simp only[dE,l,r];exact h
  |some t =>
   simp only[dE,l,r];cases u.kept with
   |none=>exact p t _ s j h
   |some k =>
    have h1:=JK m n key k.cH s j h;have h2:=(zG m key k.cH s).cm;unfold fg;cases hd:eC e key k.cH s with
    |mk o z =>
     rw[hd]at h1 h2;simp only[hd];cases o with
     |none=>exact h1
     |some y=>exact p t y z (h2.trans j) h1
end
def yh{j:By->LS->Wo×LS}{b:List By}{K:Nat}(key s)(m:s.cY.length<=K->(j key {s with cm:=s.cm++[key]}).2.cY.length<=K)(n:s.cm.length<=K)(h:s.cY.length<=K):(eY j key s).2.cY.length<=K:=by
 unfold eY;cases cv s.done key with
 |some w=>exact h
 |none =>
  by_cases l:s.cm.contains key=true
  ·rw[ag l];show(s.meet key).cY.length<=K;unfold LS.meet;split
   ·exact ah (Bl _ _) n
   exact h
  rw[ae l];exact m h
def vW{K:Nat}:∀n j s,s.cm.length+n<=K->s.cY.length<=K->(cG n j s).2.cY.length<=K
 |0,j,s,m,h=>yh (b:=s.cm) j s (λh=>h) R5 h
 |n+1,j,s,m,h=>yh (b:=s.cm) j s (λh=>Mv (b:=s.cm++[j]) (px n) (λk r p l=>vW n k r (by rw[p];simp;omega) l) j _ rfl h) R5 h
end bY
namespace bY
variable {e:Src}
theorem kC(h:List (By×cC))(k o):fR (da h k o)=fR h:=by
 funext k'
 unfold fR;rw[fM];by_cases b:k=k'
 ·rw[ag b];cases cv h k'<;>rfl
 grind
theorem JN{h:List (By×cC)}{k:By}{th:cC}(b:cv h k=some th):fR h k=some (match th.di with|.none=>.inl th.value|.some t=>.inr t):=by
 grind [fR]
structure vY(e:Src)(s:LS)(key:By)(r:Wo)(s4:LS)(new:List rS):Prop where
 inv:Inv e s4
 cm:s4.cm=s.cm++[key]
 done:∀k w,cv s.done k=some w->cv s4.done k=some w
 cY:s.cY≠[]->s4.cY=s.cY
 du:s4.du=s.du++new
 Jj:∀y∈new,Ji e y
 old:∀y∈new,cv s.done y.key=none/\y.key∉s.cm/\¬lY e s.ct y.key/\(y.key=key\/∃w,cv s4.done y.key=some w)
 nodup:(new.map (·.key)).Nodup
 A7:∀k,(∀y∈new,y.key≠k)->cv s4.ct k=cv s.ct k
 quiet:new=[]->s4.ct=s.ct/\s4.jr=s.jr
 is:Is e key r
 N9:r=.error 12->s4.cY≠[]
 wY:r≠.error 12->lY e s4.ct key/\∀y∈new,lY e s4.ct y.key
 q:lY e s.ct key->new=[]
 was:∀y∈new,Wd s.ct y
 jr:zr e s.ct s.jr s4.ct s4.jr
theorem vY.finish{s j:LS}{key:By}{r:Wo}{m:List rS}(hd:cv s.done key=none)(h:vY e s key r j m):BP e key s (r,{j with cm:=j.cm.dropLast,done:=put j.done key r}):=by
 have p:j.cm.dropLast=s.cm:=by rw[h.cm];simp
 refine⟨m,⟨⟨h.inv.src,λk w b=>?_,λk w b l=>?_,h.inv.iE,h.inv.only,h.inv.fine,h.inv.cY,λk b=>?_⟩,p,λk w b=>?_,h.cY,h.du,h.Jj,λy u=>?_,h.nodup,h.A7,h.quiet,h.was,h.jr⟩,h.is,h.N9,h.wY,h.q,.inr ?_⟩
 ·rw[eG]at b;split at b
  ·rename_i h1;cases b;subst h1;exact h.is
  exact h.inv.done k w b
 ·rw[eG]at b;split at b
  ·rename_i h1;cases b;subst h1;exact(h.wY l).1
  exact h.inv.wY k w b l
 ·rw[eG]at b;split at b
  ·rename_i h1;cases b;exact h.N9 rfl
  exact h.inv.rr k b
 ·rw[eG];split
  ·grind
  exact h.done k w b
 ·obtain⟨h1,h2,n,z⟩:=h.old y u;refine⟨h1,h2,n,?_⟩;rw[eG];split
  ·grind
  grind
 grind [eG]
def Dq{s b:LS}{key:By}{r:Wo}{j:List rS}(h:On e {s with cm:=s.cm++[key]} b j)(u:Is e key r)(l:r=.error 12->b.cY≠[])(hu:r≠.error 12->lY e b.ct key/\∀y∈j,lY e b.ct y.key)(z:lY e s.ct key->j=[]):vY e s key r b j where
 inv:=h.inv
 cm:=h.cm
 done:=h.done
 cY:=h.cY
 du:=h.du
 Jj:=h.Jj
 old y B:=by
  obtain⟨h1,h2,m,n⟩:=h.old y B;exact⟨h1,λp=>h2 (RB _ p),m,.inr n⟩
 nodup:=h.nodup
 A7:=h.A7
 quiet:=h.quiet
 is:=u
 N9:=l
 wY:=hu
 q:=z
 was:=h.was
 jr:=h.jr
def Inv.PX{s:LS}(h:Inv e s)(r):Inv e {s with du:=r}:=⟨h.src,h.done,h.wY,h.iE,h.only,h.fine,h.cY,h.rr⟩
def Inv.Mw{s:LS}(h:Inv e s)(r):Inv e {s with cm:=r}:=⟨h.src,h.done,h.wY,h.iE,h.only,h.fine,h.cY,h.rr⟩
def Inv.da{s:LS}{key:By}{o:Option gl}{j:List By}(h:Inv e s)(y:¬lY e s.ct key)(z:∀l,o=some l->∀t,e key=some (.inr t)->qJ (prog t) [] l.cH l.dR)(B:∃t,e key=some (.inr t))(u:∀l,o=some l->∀q∈l.cH,hY q.2):Inv e {s with ct:=da s.ct key o,jr:=j} where
 src:=(kC _ _ _).trans h.src
 done:=h.done
 wY k w n r:=by
  refine ra (λk hu=>?_) (h.wY k w n r);show cK _ k=_;rw[ez,ae (λ(p:key=k)=>y (p▸hu))]
 iE k t l n b:=by
  have b:=b;rw[ez]at b;split at b
  ·rename_i h1;subst h1;cases m:cv s.ct key with
   |none=>rw[m]at b;cases b
   |some C=>rw[m]at b;exact z l b t n
  exact h.iE k t l n b
 only k l b:=by
  have b:=b;rw[ez]at b;split at b
  ·rename_i h1;subst h1;exact B
  exact h.only k l b
 fine k l b:=by
  have b:=b;rw[ez]at b;split at b
  ·rename_i h1;subst h1;cases m:cv s.ct key with
   |none=>rw[m]at b;cases b
   |some C=>rw[m]at b;exact u l b
  exact h.fine k l b
 cY:=h.cY
 rr:=h.rr
theorem JO(he:EF e){Q:By->LS->Wo×LS}{s p:LS}{key:By}{t:T}{y:rS}{N:List rS}(hB:zt e Q (s.cm++[key]))(hl:C_ (EE e) (s.cm++[key]))(G:e key=some (.inr t))(hd:cv s.done key=none)(a4:key∉s.cm)
  (h1:On e {s with cm:=s.cm++[key]} p N) (J:y.key=key) (bg:Ji e y) (bf:Wd s.ct y) (Z:∀h,cK h key=cK s.ct key->¬lY e h key) (a8:∀u,W e key u->∀z∈N,lY e p.ct z.key) :
  ∃bh,vY e s key (f_ Q key t y p).1 (f_ Q key t y p).2 bh:=by
 unfold f_;have ap:∀z∈N,z.key≠key:=λz j m=>(h1.old z j).2.1 (by rw[m];simp);obtain⟨O,l,V⟩:=Oy he hB hl _ {p with du:=p.du++[y]} [] (h1.inv.PX _) h1.cm (Mb.start G) (Jc t) (λ_ h=>by simp at h);generalize (prog t).run _ ({p with du:=p.du++[y]},[])=q at l V ⊢;obtain⟨r,n,ns⟩:=q;simp only at l V;have ak:∀z∈O,z.key≠key:=λz j m=>(l.old z j).2.1 (by show z.key∈p.cm;rw[h1.cm,m];simp);have bj:=(l.A7 key ak).trans (h1.A7 key ap);have a3:cK n.ct key=cK s.ct key:=by grind [cK]
 have aa:=Z _ a3;have ao:∀(o:Option gl) (k:By),k≠key->cv (da n.ct key o) k=cv n.ct k:=λo k m=>by rw[fM,ae (λe=>m e.symm)]
 have build:∀(B:LS),(∀k,k≠key->cv B.ct k=cv n.ct k)->B.done=n.done->B.cm=n.cm->B.cY=n.cY->B.du=n.du->Inv e B->Is e key r->(r=.error 12->B.cY≠[])->(r≠.error 12->lY e B.ct key/\(∀z∈O,lY e n.ct z.key))->zr e n.ct n.jr B.ct B.jr->vY e s key r B (N++[y]++O):=by
  intro B am X ay bd bc a0 ab D hu a2;have ax:∀k,lY e n.ct k->lY e B.ct k:=λk m=>ra (λk hu=>by
   unfold cK;rw[am k (λ(U:k=key)=>aa (U▸hu))]) m
  exact{
   inv:=a0
   cm:=by rw[ay];exact l.cm.trans h1.cm
   done:=λk w m=>by rw[X];exact l.done k w (h1.done k w m)
   cY:=λI=>by
    rw[bd];have:=h1.cY I;exact(l.cY (by show p.cY≠[];rw[this];exact I)).trans this
   du:=by
    rw[bc,l.du];show p.du++[y]++O=_;rw[h1.du];simp
   Jj:=λz j=>by
    rcases aL.1 j with j|j
    ·rcases aL.1 j with j|j
     ·exact h1.Jj z j
     rw[Q_.1 j];exact bg
    exact l.Jj z j
   old:=λz j=>by
    rcases aL.1 j with j|j
    ·rcases aL.1 j with j|j
     ·obtain⟨C,F,R,w,S⟩:=h1.old z j;exact⟨C,λh=>F (RB _ h),R,.inr ⟨w,by rw[X];exact l.done _ _ S⟩⟩
     rw[Q_.1 j,J];exact⟨hd,a4,Z _ rfl,.inl rfl⟩
    obtain⟨C,F,R,S⟩:=l.old z j;refine⟨?_,λh=>F (by show z.key∈p.cm;rw[h1.cm];exact RB _ h),λhu=>R (h1.wY hu),.inr (by rw[X];exact S)⟩;cases aC:cv s.done z.key with
    |none=>rfl
    |some w=>rw[show cv _ z.key=some w from h1.done _ _ aC]at C;cases C
   nodup:=by
    rw[aZ,aZ,Sh,Sh];refine⟨⟨h1.nodup,by simp,?_⟩,l.nodup,?_⟩
    ·intro a E b L K;obtain⟨z,j,rfl⟩:=aE.1 E;simp at L;exact ap z j (K.trans (L.trans J))
    intro a E b L K;obtain⟨x,hx,rfl⟩:=aE.1 L;rcases aL.1 E with E|E
    ·obtain⟨z,j,rfl⟩:=aE.1 E;obtain⟨_,_,_,w,hw⟩:=h1.old z j;have:=(l.old x hx).1;rw[show cv _ x.key=some w by rw[<-K];exact hw]at this;cases this
    simp at E;exact ak x hx (K.symm.trans (E.trans J))
   A7:=λk m=>by
    have a5:k≠key:=λh=>m y S5 (J.trans h.symm);rw[am k a5];exact(l.A7 k (λz j=>m z (by simp[j]))).trans (h1.A7 k (λz j=>m z (by simp[j])))
   quiet:=λh=>by simp at h
   is:=ab
   N9:=D
   wY:=λD=>by
    obtain⟨C,F⟩:=hu D;refine⟨C,λz j=>?_⟩;rcases aL.1 j with j|j
    ·rcases aL.1 j with j|j
     ·exact ax _ (l.wY (a8 r (ab.w D) z j))
     rw[Q_.1 j,J];exact C
    exact ax _ (F z j)
   q:=λhu=>(Z _ rfl hu).elim
   was:=λz j=>by
    rcases aL.1 j with j|j
    ·rcases aL.1 j with j|j
     ·exact h1.was z j
     rw[Q_.1 j];exact bf
    rcases l.was z j with U|⟨kp,C,F⟩
    ·exact .inl U
    refine .inr ⟨kp,?_,F⟩;rw[<-C];show cK s.ct z.key=cK p.ct z.key;unfold cK;rw[h1.A7 z.key (λx hx e=>by
     obtain⟨_,_,_,w,hw⟩:=h1.old x hx;have:=(l.old z j).1;rw[show cv _ z.key=some w by rw[<-e];exact hw]at this;cases this)]
   jr:=(zr.trans (h1:=p.ct) (j1:=p.jr) h1.jr l.jr).trans a2}
 rcases V with⟨rfl,ai,ad⟩|⟨I,hW,hH,Y,a9⟩
 ·have D:gT (.error 12:Wo)=true:=rfl;simp only[ia,D,aO];by_cases m:(cK n.ct key).isSome=true
  ·rw[ag m];obtain⟨kp,a6⟩:=Su.1 m;refine⟨_,build _ (λk m=>ao none k m) rfl rfl rfl rfl ?_ (.inr ⟨rfl,ad⟩) (λ_=>ai) (λh=>(h rfl).elim) (zr.refl.lX a6)⟩;exact l.inv.da aa (λ_ h=>by cases h) ⟨t,G⟩ (λ_ h=>by cases h)
  rw[ae m];refine⟨_,build n (λ_ _=>rfl) rfl rfl rfl rfl l.inv (.inr ⟨rfl,ad⟩) (λ_=>ai) (λh=>(h rfl).elim) .refl⟩
 have D:gT r=false:=by
  cases r with
  |ok v=>rfl
  |error c=>exact az.2 (λh=>I (by rw[h]))
 simp only[ia,D];refine⟨_,build _ (λk m=>ao _ k m) rfl rfl rfl rfl ?_ (.inl hW) (λh=>(I h).elim) (λ_=>⟨?_,a9⟩) (zr.refl.keep G hH (λq M=>(Y q M).1) hW)⟩
 ·refine l.inv.da aa (λkp h t' bk=>?_) ⟨t,G⟩ (λkp h=>?_)
  ·grind
  grind
 have av:∃P,cv n.ct key=some P:=by
  cases a7:cv n.ct key with
  |some P=>exact⟨P,rfl⟩
  |none =>
   have:=congrFun l.inv.src key;unfold fR at this;rw[show cv n.ct key=none from a7,G]at this;cases this
 obtain⟨P,av⟩:=av;refine A6 G (kp:=⟨r,ns⟩) ?_ (λq M=>⟨(Y q M).1,?_⟩)
 ·show cK (da n.ct key _) key=_
  grind [ez]
 refine ra (λk hu=>?_) (Y q M).2.1;show cK (da n.ct key _) k=_
 grind [ez]
theorem Bm(N:EF e){K:List By}(Y:∀k t,e k=some (.inr t)->k∈K):∀n b s,Inv e s->C_ (EE e) (s.cm++[b])->Fuel K s.cm n->BP e b s (cG n b s)
 |0,_,_,_,_,h=>by unfold Fuel at h;omega
 |n+1,b,s,hi,D,hf=>by
  show BP e b s (eY (dE (cG n)) b s);unfold eY;cases hd:cv s.done b with
  |some w =>
   simp only;exact⟨[],On.refl hi,hi.done b w hd,λh=>hi.rr b (h▸hd),λh=>⟨hi.wY b w hd h,λ_ h=>by simp at h⟩,λ_=>rfl,.inr hd⟩
  |none =>
   simp only;by_cases L:s.cm.contains b=true
   ·rw[ag L];have am:b∈s.cm:=T5;obtain⟨h1,h2⟩:=Jf D am;have aC:(s.meet b).cY≠[]:=by
     unfold LS.meet;split
     ·obtain⟨k,r,p,_⟩:=h1;show eQ _ b≠[];rw[p];simp
     assumption
    refine⟨[],?_,.inr ⟨rfl,h2⟩,λ_=>aC,λh=>(h rfl).elim,λ_=>rfl,.inl am⟩;unfold LS.meet;split
    ·rename_i p;exact{inv:=⟨hi.src,hi.done,hi.wY,hi.iE,hi.only,hi.fine,λ_=>h1,λk hk=>(hi.rr k hk p).elim⟩,cm:=rfl,done:=λ_ _ h=>h,cY:=λh=>(h p).elim,du:=by simp,Jj:=λ_ h=>by simp at h,old:=λ_ h=>by simp at h,nodup:=by simp,A7:=λ_ _=>rfl,quiet:=λ_=>⟨rfl,rfl⟩,was:=λ_ h=>by simp at h,jr:=.refl}
    exact On.refl hi
   rw[ae L];have R:b∉s.cm:=by grind
   suffices h:∃u,vY e s b (dE _ b {s with cm:=s.cm++[b]}).1 (dE _ b {s with cm:=s.cm++[b]}).2 u by
    obtain⟨u,h⟩:=h;exact h.finish hd
   have B:Inv e {s with cm:=s.cm++[b]}:=hi.Mw _;unfold dE;cases S:cv s.ct b with
   |none =>
    have ad:e b=none:=by rw[<-hi.src];unfold fR;rw[S];rfl
    have T:∀t,e b≠some (.inr t):=λt h=>by rw[ad]at h;cases h
    exact⟨[],Dq (On.refl B) (.inl ⟨0,.inl ⟨ad,rfl⟩⟩) (λh=>by cases h) (λ_=>⟨A5 T,λ_ h=>by simp at h⟩) (λ_=>rfl)⟩
   |some I =>
    have j:=JN S;rw[hi.src]at j;cases G:I.di with
    |none =>
     rw[G]at j;have T:∀t,e b≠some (.inr t):=λt h=>by rw[j]at h;cases h
     simp only[G];exact⟨[],Dq (On.refl B) (.inl ⟨0,.inr ⟨I.value,j,rfl⟩⟩) (λh=>by cases h) (λ_=>⟨A5 T,λ_ h=>by simp at h⟩) (λ_=>rfl)⟩
    |some t =>
     rw[G]at j;simp only[G];have J:zt e _ _:=λk s' av ab ay=>Bm N Y n k s' av (ab▸ay) (ab▸Gc hf (Y b t j) R);have l:cK s.ct b=I.kept:=by unfold cK;rw[S];rfl
     cases ak:I.kept with
     |none =>
      rw[ak]at l;have U:∀h,cK h b=cK s.ct b->¬lY e h b:=by
       intro h P hu;obtain⟨m,h1,_⟩:=hu.fc j;rw[P,l]at h1;cases h1
      exact JO N J D j hd R (On.refl B) rfl (.inl ⟨rfl,rfl,rfl⟩) (.inl rfl) U (λ_ _ _ h=>by simp at h)
     |some m =>
      rw[ak]at l;have Q:=hi.iE b t m j l;have O:=hi.fine b m l;obtain⟨u,iE,E,V,M⟩:=Jk J D j Q O _ [] {s with cm:=s.cm++[b]} rfl B rfl (λ_ h=>by simp at h);have ap:fg _ b t (some m) {s with cm:=s.cm++[b]}=match eC _ b _ {s with cm:=s.cm++[b]} with|(.none,s)=>(m.dR,s)|(.some y,s)=>f_ (cG n) b t y s:=rfl
      rw[ap];have X:lY e s.ct b->(eC _ b _ {s with cm:=s.cm++[b]}).1=none/\u=[]:=λhu=>by
       obtain⟨a0,h1,h2⟩:=hu.fc j;rw[l]at h1;cases h1;exact V h2
      generalize eC _ b _ {s with cm:=s.cm++[b]}=q at iE E X M ⊢;obtain⟨o,s2⟩:=q;simp only at iE E X M;rcases M with⟨rfl,aa⟩|⟨y,rfl,ao,ai,F,C⟩
      ·have Z:=W.fc j (Q.all (λq V=>(aa q V).1));have ax:cK s2.ct b=some m:=by
        have:cv s2.ct b=cv s.ct b:=iE.A7 b (λz hz h=>(iE.old z hz).2.1 T3);unfold cK at l ⊢;rw[this,l]
       exact⟨u,Dq iE (.inl Z) (λh=>(Q.mU h).elim) (λ_=>⟨A6 j ax aa,E _ Z⟩) (λhu=>(X hu).2)⟩
      have U:∀h,cK h b=cK s.ct b->¬lY e h b:=by
       intro h P hu;obtain⟨a0,h1,h2⟩:=hu.fc j;rw[P,l]at h1;cases h1;have p:=(h2 _ C).1;have h4:=ai.Al (.inl p);rw[h4]at F;rw[(O _ C).same]at F;cases F
      exact JO N J D j hd R iE ao (.inr ⟨ai,F,O _ C⟩) (.inr ⟨m,by rw[ao];exact l,C⟩) U E
end bY
end
