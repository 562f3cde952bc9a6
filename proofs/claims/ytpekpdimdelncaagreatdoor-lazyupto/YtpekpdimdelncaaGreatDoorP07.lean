/- Out of Sq. -/
import Derived.Test.YtpekpdimdelncaaGreatDoorP06
set_option linter.unusedVariables false
set_option linter.unusedSimpArgs false
set_option linter.defProp false
namespace Go.Proofs.YtpekpdimdelncaaGreatDoor
open Go.RowKit
section
namespace bY
variable{h:List (By×cC)}{k kY:By}{s:LS}{th:cC}
structure Sound(s:LS):Prop where
 ef:EF (fR s.ct)
 iE:∀k t kp,fR s.ct k=some (.inr t)->cK s.ct k=some kp->qJ (prog t) [] kp.cH kp.dR
 only:∀k kp,cK s.ct k=some kp->∃t,fR s.ct k=some (.inr t)
 fine:∀k kp,cK s.ct k=some kp->∀q∈kp.cH,hY q.2
 cm:s.cm=[]
 kb:KB s.ct
 len:s.ct.length<=40
def Sound.new:Sound LS.new where
 ef:=⟨(λk v h=>by cases h),(λk t h=>by cases h)⟩
 iE k t b h:=Tl
 only k b h:=Tl
 fine k b h:=Tl
 cm:=rfl
 kb p e:=by cases e
 len:=ar _
theorem yi{b:List (By×cC)}(e:dd b=dd h):b.length=h.length:=by
 have:=congrArg List.length e
 grind [dd]
def Gw{t:T}(b:fR h k=some (.inr t)):k∈dK h:=by
 unfold fR at b;cases e:cv h k with
 |none=>rw[e]at b;cases b
 |some th =>
  rw[e]at b;cases j:th.di with
  |none=>simp only[R0,j]at b;cases b
  |some l=>exact iq e (by rw[j];rfl)
def LS.fresh(s:LS):LS:={s with done:=[],cY:=[],du:=[]}
def Sound.inv(h:Sound s):Inv (fR s.ct) s.fresh where
 src:=rfl
 done k w b:=by cases b
 wY k w b:=by cases b
 iE:=h.iE
 only:=h.only
 fine:=h.fine
 cY e:=(e rfl).elim
 rr k b:=by cases b
theorem Sound.bp(h:Sound s)(key):BP (fR s.ct) key s.fresh (s.ask key):=by
 refine Bm h.ef (K:=dK s.ct) (λk t e=>Gw e) 42 key _ h.inv ?_ ?_
 ·have:s.fresh.cm=[]:=h.cm;rw[this]
  trivial
 have b:s.fresh.cm=[]:=h.cm;unfold Fuel;rw[b];have h1:=Te (λk=>!([]:List By).contains k) (dK s.ct);have h2:(dK s.ct).length<=s.ct.length:=by
  grind [dK]
 have:=h.len;omega
def Sound.p8(h:Sound s)(key):jk s.fresh (s.ask key).2 1:=jA 42 key s.fresh h.kb
def Sound.ask(h:Sound s)(key):Sound (s.ask key).2:=by
 obtain⟨new,iE,-⟩:=h.bp key;have e:=h.p8 key;have hi:=iE.inv;exact{
  ef:=by rw[hi.src];exact h.ef
  iE:=λk t b h1 h2=>hi.iE k t b (by rw[<-hi.src];exact h1) h2
  only:=λk b h1=>by rw[hi.src];exact hi.only k b h1
  fine:=hi.fine
  cm:=iE.cm.trans h.cm
  kb:=e.kb h.kb
  len:=by rw[yi e.dd];exact h.len}
def JP(th:cC):Prop:=th.kept=none/\((th.di=none/\L3 th.value)\/∃t,th.di=some t/\Ma (prog t))
theorem uh(h:List (By×cC))(key th k):fR (put h key th) k=if key=k then some (match th.di with|.none=>.inl th.value|.some t=>.inr t)else fR h k:=by
 grind [fR,eG]
theorem rC(h:List (By×cC))(key th)(b:th.kept=none)(k):cK (put h key th) k=if key=k then none else cK h k:=by
 grind [cK,eG]
theorem kL{α:Type}{l:List (By×α)}{a:α}{p:By×α}(h:p∈put l k a):p=(k,a)\/p∈l:=by
 grind [put]
theorem Sound.put(h:Sound s)(j:JP th)(m:(cv s.ct kY).isSome=true\/s.ct.length<40)(t):Sound ({s with ct:=bY.put s.ct kY th}.write t) where
 ef:=by
  refine⟨λk v b=>?_,λk t b=>?_⟩
  ·have b:fR (bY.put s.ct kY th) k=_:=b;rw[uh]at b;split at b
   ·rcases j.2 with⟨h1,h2⟩|⟨u,h1,h2⟩
    ·grind [EH]
    grind
   exact h.ef.val k v b
  have b:fR (bY.put s.ct kY th) k=_:=b;rw[uh]at b;split at b
  ·rcases j.2 with⟨h1,h2⟩|⟨u,h1,h2⟩
   ·grind
   grind
  exact h.ef.fc k t b
 iE k t e h1 h2:=by
  have h1:fR (bY.put s.ct kY th) k=_:=h1;have h2:cK (bY.put s.ct kY th) k=_:=h2;rw[rC _ _ _ j.1]at h2;split at h2
  ·cases h2
  rename_i l;rw[uh,ae l]at h1;exact h.iE k t e h1 h2
 only k e h2:=by
  have h2:cK (bY.put s.ct kY th) k=_:=h2;rw[rC _ _ _ j.1]at h2;split at h2
  ·cases h2
  rename_i l;show ∃t,fR (bY.put s.ct kY th) k=_;rw[uh,ae l];exact h.only k e h2
 fine k e h2:=by
  have h2:cK (bY.put s.ct kY th) k=_:=h2;rw[rC _ _ _ j.1]at h2;split at h2
  ·cases h2
  exact h.fine k e h2
 cm:=h.cm
 kb p r e n:=by
  rcases kL r with rfl|r
  ·rw[j.1]at n;cases n
  exact h.kb p r e n
 len:=by
  show(bY.put s.ct kY th).length<=40;unfold bY.put;split
  ·rw[aH];exact h.len
  rename_i l;rcases m with m|m
  ·exact(l m).elim
  rw[aj];simp;omega
def Sound.iD(h:Sound s)(e:JP th):Sound (s.iD kY th).2:=by
 unfold LS.iD;split
 ·exact h
 rename_i l;refine h.put e ?_ _;cases j:cv s.ct kY with
 |some x=>exact .inl rfl
 |none =>
  right;refine Nat.lt_of_not_le λb=>l ⟨by rw[j];rfl,b⟩
theorem ui(h:List (By×cC))(key k):fR (del h key) k=if key=k then none else fR h k:=by
 grind [fR,pk]
theorem rD(h:List (By×cC))(key k):cK (del h key) k=if key=k then none else cK h k:=by
 grind [cK,pk]
def Sound.drop(h:Sound s)(key):Sound (s.drop key) where
 ef:=by
  refine⟨λk v b=>?_,λk t b=>?_⟩
  ·have b:fR (del s.ct key) k=_:=b;rw[ui]at b;split at b
   ·cases b
   exact h.ef.val k v b
  have b:fR (del s.ct key) k=_:=b;rw[ui]at b;split at b
  ·cases b
  exact h.ef.fc k t b
 iE k t e h1 h2:=by
  have h1:fR (del s.ct key) k=_:=h1;have h2:cK (del s.ct key) k=_:=h2;rw[rD]at h2;split at h2
  ·cases h2
  rename_i j;rw[ui,ae j]at h1;exact h.iE k t e h1 h2
 only k e h2:=by
  have h2:cK (del s.ct key) k=_:=h2;rw[rD]at h2;split at h2
  ·cases h2
  rename_i j;show ∃t,fR (del s.ct key) k=_;rw[ui,ae j];exact h.only k e h2
 fine k e h2:=by
  have h2:cK (del s.ct key) k=_:=h2;rw[rD]at h2;split at h2
  ·cases h2
  exact h.fine k e h2
 cm:=h.cm
 kb p m e l:=h.kb p (Sj.1 m).1 e l
 len:=ah (Te _ _) h.len
end bY
namespace bY
section
variable (x y:Int)
end
end bY
end
namespace bY
end bY
section
namespace bY
variable{O:By->Wo->Prop}{e:Src}
def EC{α:Type}(r:Except Nat α):Prop:=∀e,r=.error e->7<=e/\e<=12
theorem iC{α:Type}(a):EC (.ok a:Except Nat α):=λe h=>by cases h
theorem fa{α:Type}{c:Nat}(h:7<=c/\c<=12):EC (.error c:Except Nat α):=λe b=>by cases b;exact h
def PE{α:Type}:Pe α->Prop
 |⟨.inl q⟩=>EC q.1
 |⟨.inr (_,c)⟩=>∀w,EC w->PE (c w)
def kl{α:Type}{r:Except Nat α}{f:Nat}(h:EC r):PE (.ret (r,f)):=h
def nW{α β:Type}:∀p (k:α->Nat->Pe β),PE p->(∀v f,PE (k v f))->PE (eT p k)
 |⟨.inl (.ok a,f)⟩,k,h,b=>b a f
 |⟨.inl (.error e,f)⟩,k,h,b=>fa (h e rfl)
 |⟨.inr (q,c)⟩,k,h,b=>λw j=>nW (c w) k (h w j) b
def Ki:∀p k,PE p->(∀f,PE (k f))->PE (p5 p k)
 |⟨.inl (.ok a,f)⟩,k,h,b=>h
 |⟨.inl (.error e,f)⟩,k,h,b=>by
  unfold p5;simp only[Pg.bind];by_cases j:e=7\/e=8\/e=9\/e=10
  ·rw[ag j];exact b f
  rw[ae j];exact h
 |⟨.inr (q,c)⟩,k,h,b=>λw l=>Ki (c w) k (h w l) b
theorem sJ(l):EC (en l):=by
 grind [en,fa,iC]
theorem BK(v):EC (fw v):=by
 grind [fw,iC,fa]
theorem yr(v):EC (eS v):=by
 grind [eS,iC,fa]
theorem Kj(v):EC (keyOf v):=by
 grind [keyOf,iC,fa]
def DV{α:Type}(P)(j:∀a f,PE (P a f)):∀(l:List α) (b) (f),PE (oP P l b f)
 |[],b,f=>sJ _
 |a::r,b,f=>nW _ _ (j a f) λv f=>DV P j r _ f
def zW(P)(j:∀a f,PE (P a f)):∀l b f,PE (lK P l b f)
 |[],b,f=>sJ _
 |a::r,b,f=>nW _ _ (j a f) λv f=>by
  have n:=BK v;cases h:fw v with
  |ok i =>
   show PE (if i=0 then _ else _);by_cases m:i=0
   ·rw[ag m];exact zW P j r _ f
   rw[ae m];exact zW P j r _ f
  |error e=>exact fa (n e h)
def E8(k f):PE (kJ k f):=λw b=>b
theorem rI{x y:V}{g:Int->Int->Except Nat V}(b:∀i j,EC (g i j)):EC (mO x y g):=by
 grind [mO,fa]
theorem BL(i n):EC (place i n):=by
 grind [place,fa,iC]
theorem E9(op x y):EC (make op x y):=by
 unfold make;split
 ·grind [plus,iC,fa,sJ]
 split
 ·exact rI λ_ _=>iC _
 split
 ·exact rI λ_ _=>iC _
 split
 ·grind [rI,fa,iC]
 split
 ·grind [less,iC,fa]
 split
 ·exact iC _
 split
 ·exact rI λ_ _=>iC _
 split
 ·exact rI λ_ _=>iC _
 unfold gz;split
 ·split
  ·split
   ·exact iC _
   rename_i e h;exact fa (BL _ _ e h)
  ·split
   ·exact iC _
   rename_i e h;exact fa (BL _ _ e h)
  grind [fa]
 grind [fa]
theorem MX(x):EC (size x):=by
 grind [size,fa,iC]
theorem wD:∀l a,EC (fE a l)
 |[],a=>iC _
 |u::r,a=>by
  unfold fE;split
  ·exact wD r _
  exact fa R5
theorem Kk(x):EC (jW x):=by
 grind [jW,wD,fa]
theorem GO(x):EC (iu x):=by
 grind [iu,iC,fa]
theorem BM(P t f)(j:∀i f,PE (P (t.cM i) f)):PE (fx P t f):=by
 unfold fx;refine nW _ _ (j 0 f) λv f=>?_;split
 ·exact nW _ _ (j 1 f) λu f=>kl (E9 _ _ _)
 split
 ·exact kl (E9 _ _ _)
 split
 ·have b:=Kj v;split
  ·exact E8 _ _
  rename_i e h;exact kl (fa (b e h))
 split
 ·have b:=BK v;split
  ·grind
  rename_i e h;exact kl (fa (b e h))
 split
 ·exact kl (MX _)
 split
 ·exact kl (Kk _)
 split
 ·exact kl (GO _)
 exact kl (iC _)
def BN:∀n t j f,PE (tr n t j f)
 |0,t,j,f=>fa R5
 |n+1,t,j,f=>by
  have b:∀i f,PE (tr n (t.cM i) j f):=λi f=>BN n _ j f;have p:∀i u f,PE (tr n (t.cM i) (some u) f):=λi u f=>BN n _ _ f;unfold tr;split
  ·exact BM _ t f b
  split
  ·exact kl (fa R5)
  split
  ·refine kl ?_;split
   ·exact iC _
   exact fa R5
  split
  ·exact E8 _ _
  split
  ·refine kl ?_;split
   ·exact iC _
   exact fa R5
  split
  ·exact Ki _ _ (b 0 _) (λf=>b 1 f)
  split
  ·refine nW _ _ (b 0 _) λv f=>?_;have m:=yr v;cases h:eS v with
   |ok l=>exact DV _ (λa f=>p 1 a f) l [] f
   |error e=>exact kl (fa (m e h))
  split
  ·refine nW _ _ (b 0 _) λv f=>?_;have m:=yr v;cases h:eS v with
   |ok l=>exact zW _ (λa f=>p 1 a f) l [] f
   |error e=>exact kl (fa (m e h))
  split
  ·exact DV _ (λa f=>BN n a j f) _ _ _
  exact BM _ t _ b
def CE:Pg Wo->Prop
 |⟨.inl w⟩=>EC w
 |⟨.inr (_,c)⟩=>∀w,EC w->CE (c w)
def BO:∀p,PE p->CE p.dR
 |⟨.inl (r,f)⟩,h=>h
 |⟨.inr (k,c)⟩,h=>λw b=>BO (c w) (h w b)
def zX(t):CE (prog t):=BO _ (BN _ t none 400)
def Rn.ec(h:∀k u,O k u->EC u):∀p w,Rn O p w->CE p->EC w
 |⟨.inl _⟩,_,j,b=>j.1▸b
 |⟨.inr (k,c)⟩,w,⟨u,h1,h2⟩,b=>Rn.ec h (c u) w h2 (b u (h k u h1))
theorem Wn.ec:∀{n:Nat}{k:By}{w:Wo},Wn e n k w->EC w:=by
 have b:∀{k w},lO e k w->EC w:=by
  intro k w h;rcases h with⟨_,rfl⟩|⟨v,h,rfl⟩
  ·grind [fa]
  exact iC _
 intro n
 induction n with
 |zero=>intro k w h;exact b h
 |succ n j =>
  intro k w h;rcases h with h|⟨t,h1,h2⟩
  ·exact b h
  exact Rn.ec (λk u h=>j h) _ _ h2 (zX t)
theorem Is.ec{k:By}{w:Wo}(h:Is e k w):EC w:=by
 rcases h with⟨n,h⟩|⟨rfl,_⟩
 ·exact Wn.ec h
 grind [fa]
def Sound.ec{s:LS}(h:Sound s)(key):EC (s.ask key).1:=by
 obtain⟨_,_,h1,_⟩:=h.bp key;exact h1.ec
end bY
namespace bY
def Fk(h:List (By×cC))(k:By)(w:Wo):Prop:=(∀v,w=.ok v->L3 v/\(cv h k).isSome=true)/\EC w
def Fk.fine{h:List (By×cC)}{k:By}{w:Wo}(b:Fk h k w):hY w:=λv e=>(b.1 v e).1
def wE(h:List (By×cC))(k){c:Nat}(b:7<=c/\c<=12):Fk h k (.error c):=⟨λv e=>(by cases e),fa b⟩
structure hZ(s:LS):Prop where
 val:∀k th,cv s.ct k=some th->th.di=none->L3 th.value
 di:∀k th t,cv s.ct k=some th->th.di=some t->LA t
 kept:∀k kp,cK s.ct k=some kp->hY kp.dR/\EC kp.dR/\∀q∈kp.cH,hY q.2
 done:∀k w,cv s.done k=some w->Fk s.ct k w
def wF{h l:List (By×cC)}(e:dd l=dd h)(k):(cv l k).map (λb=>{b with kept:=none})=(cv h k).map (λb=>{b with kept:=none}):=by
 rw[<-nL,<-nL,e]
theorem wG{h b:List (By×cC)}(e:dd b=dd h)(k):(cv b k).isSome=(cv h k).isSome:=by
 have:=congrArg Option.isSome (wF e k)
 grind
def BQ{h l:List (By×cC)}(e:dd l=dd h){k:By}{th:cC}(n:cv l k=some th):∃b,cv h k=some b/\b.di=th.di/\b.value=th.value/\b.came=th.came:=by
 have h1:=wF e k;rw[n]at h1;cases m:cv h k with
 |none=>rw[m]at h1;cases h1
 |some b =>
  rw[m]at h1;simp only[R0,Option.some.injEq,cC.mk.injEq]at h1;exact⟨b,rfl,h1.2.1.symm,h1.1.symm,h1.2.2.1.symm⟩
theorem Fk.dd{h l:List (By×cC)}{k:By}{w:Wo}(b:Fk h k w)(e:dd l=dd h):Fk l k w:=⟨λv m=>⟨(b.1 v m).1,by rw[wG e];exact(b.1 v m).2⟩,b.2⟩
def hZ.of{s s':LS}(h:hZ s)(e:dd s'.ct=dd s.ct)(r:∀k l,cK s'.ct k=some l->hY l.dR/\EC l.dR/\∀q∈l.cH,hY q.2)(hd:∀k w,cv s'.done k=some w->Fk s.ct k w):hZ s' where
 val k u b n:=by
  obtain⟨p,m,h1,h2,_⟩:=BQ e b;rw[<-h2];exact h.val k p m (h1.trans n)
 di k u t b n:=by
  obtain⟨p,m,h1,_⟩:=BQ e b;exact h.di k p t m (h1.trans n)
 kept:=r
 done k w b:=(hd k w b).dd e
def FB(j:By->LS->Wo×LS):Prop:=∀k s,hZ s->Fk s.ct k (j k s).1/\hZ (j k s).2/\dd (j k s).2.ct=dd s.ct
section
variable {j:By->LS->Wo×LS}
def DW(b:FB j)(key):∀l s,hZ s->hZ (eC j key l s).2/\dd (eC j key l s).2.ct=dd s.ct
 |[],s,h=>⟨h,rfl⟩
 |(k,w)::r,s,h=>by
  obtain⟨_,h1,h2⟩:=b k s h;unfold eC;split
  ·obtain⟨e,m⟩:=DW b key r _ h1;exact⟨e,m.trans h2⟩
  exact⟨h1,h2⟩
structure BR(h:List (By×cC))(ns:List (By×Wo)):Prop where
 nd:(ns.map (·.1)).Nodup
 fk:∀q∈ns,Fk h q.1 q.2
 key:∀q∈ns,isKey q.1=true
theorem BR.nil(h:List (By×cC)):BR h []:=⟨List.nodup_nil,(λq b=>by cases b),(λq b=>by cases b)⟩
theorem BR.with{h:List (By×cC)}{l:List (By×Wo)}{k:By}{w:Wo}(e:BR h l)(r:Fk h k w)(u:isKey k=true):BR h (ei l k w):=by
 unfold ei;split
 ·exact e
 rename_i n;have n:cv l k=none:=by
  simp_all
 refine⟨?_,ig e.fk (kA r),ig e.key (kA u)⟩;rw[aZ,Sh];refine⟨e.nd,by simp,λa p b m=>?_⟩;obtain⟨q,y,rfl⟩:=aE.1 p;simp at m;rw[m];exact jz.1 n q y
def Kl(D:FB j)(p):∀s b,Ma p->CE p->hZ s->BR s.ct b->(hY (p.run (ep j) (s,b)).1/\EC (p.run (ep j) (s,b)).1)/\hZ (p.run (ep j) (s,b)).2.1/\dd (p.run (ep j) (s,b)).2.1.ct=dd s.ct/\BR s.ct (p.run (ep j) (s,b)).2.2 :=Pg.ind (P:=λp=>∀(s:LS) (b:List (By×Wo)),Ma p->CE p->hZ s->BR s.ct b->(hY (p.run (ep j) (s,b)).1/\EC (p.run (ep j) (s,b)).1)/\hZ (p.run (ep j) (s,b)).2.1/\dd (p.run (ep j) (s,b)).2.1.ct=dd s.ct/\BR s.ct (p.run (ep j) (s,b)).2.2)
  (λa s b e n h r=>⟨⟨e,n⟩,h,rfl,r⟩) (λk c E s b e n h r=>by
   obtain⟨h1,h2,m⟩:=D k s h;have u:=r.with h1 e.1;obtain⟨z,B,C,l⟩:=E (j k s).1 (j k s).2 (ei b k (j k s).1) (e.2 _ h1.fine) (n _ h1.2) h2 ⟨u.nd,λq y=>(u.fk q y).dd m,u.key⟩;exact⟨z,B,C.trans m,⟨l.nd,λq y=>(l.fk q y).dd m.symm,l.key⟩⟩) p
theorem OW(key q)(h:hZ q.2.1)(m:hY q.1/\EC q.1)(u:BR q.2.1.ct q.2.2):hZ (ia key q).2/\dd (ia key q).2.ct=dd q.2.1.ct:=by
 have p:∀(o:Option gl) (t:By),(∀l,o=some l->hY _/\EC _/\∀r∈l.cH,hY r.2)->hZ ({q.2.1 with ct:=da q.2.1.ct key o}.write t)/\dd (({q.2.1 with ct:=da _ key o}:LS).write t).ct=dd _:=λo t y=>by
  have e:dd (({q.2.1 with ct:=da _ key o}:LS).write t).ct=dd q.2.1.ct:=gS _ _ _;refine⟨h.of e (λk l b=>?_) (λk w B=>h.done k w B),e⟩;have b:cK (da q.2.1.ct key o) k=some l:=b;rw[ez]at b;split at b
  ·cases n:cv _ k with
   |none=>rw[n]at b;cases b
   |some C=>rw[n]at b;exact y l b
  exact h.kept k l b
 unfold ia;split
 ·split
  ·exact p none _ (λl b=>by cases b)
  grind
 exact p _ _ (λl b=>by cases b;exact⟨m.1,m.2,λr z=>(u.fk r z).fine⟩)
def MY(u:FB j){key:By}{t:T}{s:LS}{o:Option gl}(h:hZ s)(G:LA t)(z:(cv s.ct key).isSome=true)(B:∀b,o=some b->hY b.dR/\EC b.dR):Fk s.ct key (fg j key t o s).1/\hZ (fg j key t o s).2/\dd (fg j key t o s).2.ct=dd s.ct:=by
 have C:∀(y:rS) (e:LS),hZ e->dd e.ct=dd s.ct->Fk s.ct key (f_ j key t y e).1/\hZ (f_ j key t y e).2/\dd (f_ j key t y e).2.ct=dd s.ct:=λy e h1 D=>by
  obtain⟨l,E,p,m⟩:=Kl u _ {e with du:=e.du++[y]} [] (vC (G _)) (zX t) ⟨h1.val,h1.di,h1.kept,h1.done⟩ (BR.nil _);have r:=OW key _ E l ⟨m.nd,λq F=>(m.fk q F).dd p,m.key⟩;exact⟨⟨λv n=>⟨l.1 v n,z⟩,l.2⟩,r.1,r.2.trans (p.trans D)⟩
 cases o with
 |none=>exact C _ s h rfl
 |some b =>
  obtain⟨h1,h2⟩:=DW u key _ s h;show Fk s.ct key (match eC j key _ s with|(.none,s)=>(b.dR,s)|(.some y,s)=>f_ j key t y s).1/\hZ (match eC j key _ s with|(.none,s)=>(b.dR,s)|(.some y,s)=>f_ j key t y s).2/\dd (match eC j key _ s with|(.none,s)=>(b.dR,s)|(.some y,s)=>f_ j key t y s).2.ct=dd s.ct;rcases hd:eC j key _ s with⟨_|y,I⟩
  ·rw[hd]at h1 h2;exact⟨⟨λv n=>⟨(B b rfl).1 v n,z⟩,(B b rfl).2⟩,h1,h2⟩
  rw[hd]at h1 h2;exact C y I h1 h2
def MZ(p:FB j)(key s)(h:hZ s):Fk s.ct key (dE j key s).1/\hZ (dE j key s).2/\dd (dE j key s).2.ct=dd s.ct:=by
 unfold dE;cases b:cv s.ct key with
 |none=>exact⟨wE _ _ R5,h,rfl⟩
 |some l =>
  cases e:l.di with
  |none=>simp only[e];exact⟨⟨λv r=>(by cases r;exact⟨h.val key l b e,by rw[b];rfl⟩),iC _⟩,h,trivial⟩
  |some t =>
   simp only[e];exact MY p h (h.di key l t b e) (by rw[b];rfl) (λn m=>⟨(h.kept key n (by unfold cK;rw[b];exact m)).1,(h.kept key n (by unfold cK;rw[b];exact m)).2.1⟩)
end
def yt{m:By->LS->Wo×LS}(p:∀b s,hZ s->Fk s.ct b (m b s).1/\hZ (m b s).2/\dd (m b s).2.ct=dd s.ct):FB (eY m):=λb s h=>by
 unfold eY;split
 ·rename_i w l;exact⟨h.done b w l,h,rfl⟩
 split
 ·refine⟨wE _ _ R5,?_⟩;show hZ (s.meet b)/\dd (s.meet b).ct=dd s.ct;unfold LS.meet;split
  ·exact⟨⟨h.val,h.di,h.kept,h.done⟩,rfl⟩
  exact⟨h,rfl⟩
 obtain⟨h1,h2,n⟩:=p b {s with cm:=s.cm++[b]} ⟨h.val,h.di,h.kept,h.done⟩;refine⟨h1,h2.of rfl h2.kept (λk w l=>?_),n⟩;have l:cv (put _ b _) k=some w:=l;rw[eG]at l;split at l
 ·rename_i e;cases l;rw[<-e];exact h1.dd n
 exact h2.done k w l
def pA:∀n,FB (cG n)
 |0=>yt (λb s h=>⟨wE _ _ R5,h,rfl⟩)
 |n+1=>yt (MZ (pA n))
/-! How long lines are. -/
def iK{m:Nat}:∀(l:List By),(∀x∈l,x.length<=m)->(cS l).length<=l.length*(m+1)
 |[],_=>ar _
 |[a],h=>by have:=h a (Q_.2 rfl);show a.length<=_;simp;omega
 |a::b::r,h=>by
  have h1:=h a Rg;have h2:=iK (b::r) (λx hx=>h x (aS _ hx));show(a++44::cS (b::r)).length<=_;rw[aj,aM,aM,SU,Nat.one_mul];omega
def wl:Nat->Nat
 |0=>32
 |n+1=>12*(wl n+1)+2
def Km:∀n,32<=wl n
 |0=>af _
 |n+1=>by have:=Km n;unfold wl;omega
def uP:∀n v,iX n v->(wr n v).length<=wl n
 |n,⟨.inl i⟩,h=>by
  have h:-9223372036854775808<=i/\i<=9223372036854775807:=by unfold iX at h;exact h
  have:=nK h.1 h.2;have e:wr n ⟨.inl i⟩=Lib.itoa i:=Tp;have:=Km n;rw[e];omega
 |n,⟨.inr (.inl b)⟩,h=>by
  have h:b.length<=30:=by unfold iX at h;exact h.1
  have e:wr n ⟨.inr (.inl b)⟩=39::(b++[39]):=Tp;have:=Km n;rw[e];simp;omega
 |0,⟨.inr (.inr l)⟩,h=>by unfold iX at h;cases h
 |n+1,⟨.inr (.inr l)⟩,h=>by
  unfold iX at h;have h2:=iK (m:=wl n) (l.map (wr n)) (λx hx=>by
   obtain⟨u,hu,rfl⟩:=aE.1 hx;exact uP n u (h.2 u hu))
  rw[aH]at h2;have m:=Rt (wl n+1) h.1;show(123::(cS (l.map (wr n))++[125])).length<=12*(wl n+1)+2;simp;omega
def rJ{v:V}(h:L3 v):(wr 3 v).length<=57500:=ah (uP 3 v h) S4
def DX(c):(ld c).length<=6:=by
 unfold ld
 repeat' split
 all_goals decide
theorem Kn{l:By}(h:(tok l).1=4):(tok l).2<=8:=by
 cases l with
 |nil=>cases h
 |cons c r =>
  rw[gy _ c r rfl]at h ⊢;by_cases h1:dH c=true
  ·rw[ag h1]at h;split at h<;>cases h
  rw[ae h1]at h ⊢;by_cases h2:eE c=true
  ·rw[ag h2]at h ⊢;split at h
   ·cases h
   rename_i b;rw[ae b];split at h
   ·cases h
   rename_i e;rw[ae e];show dJ eM _<=8;omega
  rw[ae h2]at h;split at h
  ·unfold fh at h;split at h<;>cases h
  split at h<;>cases h
theorem E_{k:By}(h:isKey k=true):k.length<=31:=by
 unfold isKey at h;rw[Rv]at h;rcases h with h|h
 ·grind [dB,Kn]
 simp at h;obtain⟨h1,h2⟩:=h;cases k with
 |nil=>cases h1
 |cons c r =>
  simp at h2;obtain⟨i,hi⟩:=Su.1 h2;obtain⟨e,l⟩:=js hi;have b:=iF _ _ l;have:=nK b.1 b.2;rw[e]at this;simp;omega
def few{α:Type}:∀(h:List (By×α)) (b:List By),b.Nodup->(∀k∈b,(cv h k).isSome=true)->b.length<=h.length
 |[],b,_,l=>by
  cases b with
  |nil=>exact af _
  |cons k r=>have:=l k Rg;cases this
 |p::h,b,m,l=>by
  have h1:=few h (b.erase p.1) (m.erase _) (λk u=>by
   obtain⟨h2,n⟩:=(m.mem_erase_iff).1 u;have:=l k n;rw[ee,ae (λe=>h2 e.symm)]at this;exact this)
  rw[List.length_erase]at h1;split at h1
  ·simp only[aM];omega
  simp only[aM];omega
def M0(w:Wo):Bool:=match w with|.ok _=>true|.error _=>false
theorem Ko{w:Wo}(h:hY w):(gO w).length<=6+if M0 w=true then 57500 else 0:=by
 cases w with
 |ok v=>have:=rJ (h v rfl);show(wr 3 v).length<=6+57500;omega
 |error c=>exact DX c
def lB{h:List (By×cC)}:∀(l:List (By×Wo)),(∀q∈l,Fk h q.1 q.2)->(∀q∈l,isKey q.1=true)->(l.flatMap g_).length<=l.length*39+(l.filter λq=>M0 q.2).length*57500
 |[],_,_=>ar _
 |q::r,h1,h2=>by
  have n:=lB r (λx hx=>h1 x (aS _ hx)) (λx hx=>h2 x (aS _ hx));have a:=Ko (h1 q Rg).fine;have b:=E_ (h2 q Rg);have e:(g_ q).length=2+q.1.length+(gO q.2).length:=by unfold g_;simp;omega
  rw[Q7,aj,aM,R_];split
  ·rename_i m;rw[ag m]at a;rw[aM];omega
  rename_i m;rw[ae m]at a;omega
theorem BS{h:List (By×cC)}{kY:By}{w:Wo}{b:List (By×Wo)}(m:kY.length<=200)(l:hY w)(e:BR h b)(y:h.length<=40)(u:b.length<=401):(dA kY ⟨w,b⟩).length<=3000000:=by
 have h1:=lB b e.fk e.key;have h2:(b.filter λq=>M0 q.2).length<=40:=by
  have:=few h ((b.filter λq=>M0 q.2).map (·.1)) (e.nd.sublist (SM.map _)) (λk m=>by
   obtain⟨q,p,rfl⟩:=aE.1 m;obtain⟨r,n⟩:=Sj.1 p;cases l:q.2 with
   |ok v=>exact((e.fk q r).1 v l).2
   |error c=>rw[l]at n;cases n)
  grind
 grind [dA,Ko]
def LN:Nat:=5000000
def Ph(s:LS):Nat:=(s.jr.flatMap line).length+LN*Rs s
structure HL(h:List (By×cC)):Prop where
 len:h.length<=40
 key:∀k,(cv h k).isSome=true->k.length<=8
theorem HL.dd{h b:List (By×cC)}(l:HL h)(e:dd b=dd h):HL b:=⟨by rw[yi e];exact l.len,λk m=>l.key k (by rw[<-wG e];exact m)⟩
theorem Kp(n):(xg n).length=8:=by
 grind [xg]
theorem jC(t):(line t).length=t.length+10:=by
 grind [line,Kp]
section
variable {j:By->LS->Wo×LS}
def Kq(m:FB j)(n:∀k s,KB s.ct->jk s (j k s).2 1)(p:∀k s,hZ s->KB s.ct->HL s.ct->Ph (j k s).2<=Ph s)(key):∀l s,hZ s->KB s.ct->HL s.ct->Ph (eC j key l s).2<=Ph s
 |[],s,_,_,_=>af _
 |(k,w)::r,s,h,b,u=>by
  obtain⟨_,h1,h2⟩:=m k s h;have e:=p k s h b u;unfold eC;split
  ·exact ah (Kq m n p key r _ h1 ((n k s b).kb b) (u.dd h2)) e
  exact e
def OX(l:FB j)(n:∀k s,KB s.ct->jk s (j k s).2 1)(r:∀k s,hZ s->KB s.ct->HL s.ct->Ph (j k s).2<=Ph s)(p:Pg Wo):∀s b,hZ s->KB s.ct->HL s.ct->Ph (p.run (ep j) (s,b)).2.1<=Ph s :=Pg.ind (P:=λp=>∀(s:LS) (b:List (By×Wo)),hZ s->KB s.ct->HL s.ct->Ph (p.run (ep j) (s,b)).2.1<=Ph s) (λa s b _ _ _=>af _)
  (λk c u s b h e m=>ah (u _ _ _ (l k s h).2.1 ((n k s e).kb e) (m.dd (l k s h).2.2)) (r k s h e m)) p
theorem OY(key q)(n:key.length<=200)(m:hY q.1)(r:BR q.2.1.ct q.2.2)(p:HL q.2.1.ct)(l:q.2.2.length<=401):Ph (ia key q).2<=Ph q.2.1+LN:=by
 have b:∀(o:Option gl) (t:By),t.length<=4000000->Ph ({q.2.1 with ct:=da q.2.1.ct key o}.write t)<=Ph q.2.1+LN:=λo t u=>by
  have e:Rs ({q.2.1 with ct:=da _ key o}.write t)=Rs q.2.1:=nM (gS _ _ _) rfl;unfold Ph;rw[e];show((q.2.1.jr++[t]).flatMap line).length+_<=_;rw[Rm,aj]
  grind [LN,jC]
 unfold ia;split
 ·split
  ·exact b none _ Tc
  grind
 exact b _ _ (ah (BS n m r p.len l) S4)
def M3(m:FB j)(n:∀k s,KB s.ct->jk s (j k s).2 1)(D:∀k s,hZ s->KB s.ct->HL s.ct->Ph (j k s).2<=Ph s){key:By}{t:T}{s:LS}{o:Option gl}(h:hZ s)(p:KB s.ct)(z:HL s.ct)(L:LA t)(J:key.length<=200)(O:∀e,o=some e->e.cH.length<=401):Ph (fg j key t o s).2<=Ph s+LN:=by
 have E:∀(y:rS) (b:LS),hZ b->KB b.ct->HL b.ct->Ph (f_ j key t y b).2<=Ph b+LN:=λy b h1 k1 F=>by
  have f1:hZ {b with du:=b.du++[y]}:=⟨h1.val,h1.di,h1.kept,h1.done⟩;obtain⟨G,N,B,r⟩:=Kl m _ {b with du:=b.du++[y]} [] (vC (L _)) (zX t) f1 (BR.nil _);have I:=OX m n D (prog t) {b with du:=b.du++[y]} [] f1 k1 F;obtain⟨_,u⟩:=uf n _ 400 {b with du:=b.du++[y]} [] k1 (mu _ _ _ _);have u:((prog t).run _ ({b with du:=b.du++[y]},[])).2.2.length<=_:=u;have:=OY key _ J G.1 ⟨r.nd,λq K=>(r.fk q K).dd B,r.key⟩ (F.dd B) (by simp at u;omega);exact ah this (SF I _)
 cases o with
 |none=>exact E _ s h p z
 |some e =>
  obtain⟨h1,h2⟩:=DW m key _ s h;have l:=Kq m n D key e.cH s h p z;have C:=(ue n key e.cH s p).kb p;show Ph (match eC j key _ s with|(.none,s)=>(e.dR,s)|(.some y,s)=>f_ j key t y s).2<=_;rcases hd:eC j key _ s with⟨_|y,M⟩
  ·rw[hd]at l;exact ah l (aI _ _)
  rw[hd]at h1 h2 l C;exact ah (E y M h1 C (z.dd h2)) (SF l _)
end
theorem rK:∀n key s,hZ s->KB s.ct->HL s.ct->Ph (cG n key s).2<=Ph s
 |0,key,s,h,y,B=>by
  show Ph (eY _ key s).2<=_;unfold eY;split
  ·exact af _
  split
  ·show Ph (s.meet key)<=_;unfold LS.meet;split<;>exact af _
  have:=zE s key (.error 11);have h2:=RW LN this;exact SQ h2 _
 |n+1,key,s,h,y,B=>by
  show Ph (eY _ key s).2<=_;unfold eY;split
  ·exact af _
  rename_i F;split
  ·show Ph (s.meet key)<=_;unfold LS.meet;split<;>exact af _
  have D:∀(u:LS) (b:List By) (r:Wo),Ph {u with cm:=b,done:=put u.done key r}<=Ph u:=λu b r=>SQ (RW LN (zE u key r)) _;have G:hZ {s with cm:=s.cm++[key]}:=⟨h.val,h.di,h.kept,h.done⟩;cases l:cv s.ct key with
  |none =>
   have e:dE (cG n) key {s with cm:=s.cm++[key]}=(.error 7,{s with cm:=s.cm++[key]}):=by unfold dE;simp only[l]
   rw[e];exact D _ _ _
  |some m =>
   cases p:m.di with
   |none =>
    have e:dE (cG n) key {s with cm:=s.cm++[key]}=(.ok m.value,{s with cm:=s.cm++[key]}):=by unfold dE;simp only[l,p]
    rw[e];exact D _ _ _
   |some t =>
    have e:dE (cG n) key {s with cm:=s.cm++[key]}=fg (cG n) key t m.kept {s with cm:=s.cm++[key]}:=by unfold dE;simp only[l,p]
    have z:=ry n key {s with cm:=s.cm++[key]} y l p;have C:=M3 (pA n) (jA n) (rK n) G y B (h.di key m t l p) (ah (B.key key (by rw[l];rfl)) S4) (o:=m.kept) (λK I=>y _ (kj l) K I);rw[e]at z ⊢;generalize fg (cG n) key t m.kept {s with cm:=s.cm++[key]}=q at z C;have E:cv q.2.done key=none:=(z.dn key S5).trans F;have J:key∈dK q.2.ct:=by
     rw[<-eL,z.dd,eL];exact iq l (by rw[p];rfl)
    have h2:=RW LN (sC q.2 key q.1 J E);rw[Nat.mul_add,Rh]at h2;refine ah (SQ (m:=LN*(Rs q.2)-LN) ?_ _) ?_
    ·exact Nat.le_sub_of_add_le h2
    have L:Ph q.2<=Ph s+LN:=C;have M:Ph q.2=(q.2.jr.flatMap line).length+LN*Rs q.2:=rfl
    grind
theorem M5{s:LS}(h:hZ s.fresh)(e:KB s.ct)(b:HL s.ct)(key):((s.ask key).2.jr.flatMap line).length<=(s.jr.flatMap line).length+200000000:=by
 have h1:=rK 42 key _ h e b;have h2:Rs s.fresh<=40:=by
  have:=b.len;unfold Rs;refine ah (Te _ _) (ah ?_ this);show(dK s.ct).length<=_
  grind [dK]
 have l:=RW LN h2;have m:Ph s.fresh=(s.jr.flatMap line).length+LN*Rs _:=rfl;have n:LN*40=200000000:=rfl;have p:((s.ask key).2.jr.flatMap line).length<=Ph (s.ask key).2:=aI _ _;have r:Ph (s.ask key).2<=Ph _:=h1;omega
end bY
namespace bY
variable{n f:Nat}{t:T}{it:Option V}{b:Bool}
def BT(n:Nat)(t:T)(it:Option V)(f:Nat):Pe V :=if t.cu=2 then .ret ((match t.is with|some v=>.ok v|.none=>.error 11),f)
 else if t.cu=3 then kJ t.name f
 else if t.cu=4 then .ret ((match it with|some v=>.ok v|.none=>.error 11),f)
 else if t.cu=14 then p5 (tr n (t.cM 0) it f) λf=>tr n (t.cM 1) it f
 else if t.cu=15 then eT (tr n (t.cM 0) it f) λv f =>
  (match eS v with
  |.ok l=>oP (λu f=>tr n (t.cM 1) (some u) f) l [] f
  |.error e=>.ret (.error e,f))
 else if t.cu=16 then eT (tr n (t.cM 0) it f) λv f =>
  (match eS v with
  |.ok l=>lK (λu f=>tr n (t.cM 1) (some u) f) l [] f
  |.error e=>.ret (.error e,f))
 else if t.cu=8 then oP (λu f=>tr n u it f) t.parts [] f
 else fx (λu f=>tr n u it f) t f
def QB(h:t.cu≠1)(it f):tr (n+1) t it f=if f=0 then .ret (.error 11,f)else BT n t it (f-1):=by
 unfold tr;rw[ae h];rfl
structure pC(p:Nat->Pe V)(d:Nat):Prop where
 sp:∀f,Sp (p f) (f+d)
 pp:∀f,PP L3 (p f)
 pe:∀f,PE (p f)
def nX(n)(e:LA t)(hit:∀v,it=some v->L3 v):pC (tr n t it) 0:=⟨λf=>mu _ _ _ _,λf=>Ba _ _ _ _ (e _) hit,λf=>BN _ _ _ _⟩
theorem BU{α β σ:Type}(N p)(k:α->Nat->Pe β)(s:σ):(eT p k).run N s=(match (p.run N s).1.1 with|.ok a=>k a (p.run N s).1.2|.error e=>.ret (.error e,(p.run N s).1.2)).run N (p.run N s).2:=by
 unfold eT;rw[Pg.run_bind]
 grind
def fT{α β σ:Type}{N:By->σ->Wo×σ}{p:Pe α}{k:α->Nat->Pe β}{s e:σ}{a:α}(h:p.run N s=((.ok a,f),e)):(eT p k).run N s=(k a f).run N e:=by
 rw[BU,h]
def fN{α β σ:Type}{N:By->σ->Wo×σ}{p:Pe α}{k:α->Nat->Pe β}{s j:σ}{e:Nat}(h:p.run N s=((.error e,f),j)):(eT p k).run N s=((.error e,f),j):=by
 rw[BU,h];rfl
theorem BV(h:iy (n+1) b t=true):1<=t.cu/\t.cu<=16/\(t.cu=8\/t.parts.length=jH t.cu)/\t.parts.length<=200/\(t.cu=1->t.op∈[43,45,42,47,60,61])/\(t.cu=13->t.op∈[109,120,64])/\(t.cu=2->t.is.isSome=true)/\(t.cu=4->b=true):=by
 grind [iy]
theorem zY(h:iy (n+1) b t=true)(e:¬(t.cu=15\/t.cu=16)):∀u∈t.parts,iy n b u=true:=by
 grind [iy]
theorem Kr(h:iy (n+1) b t=true)(e:t.cu=15\/t.cu=16):iy n b (t.cM 0)=true/\iy n true (t.cM 1)=true:=by
 grind [iy]
theorem jO{i:Nat}(h:i<t.parts.length):t.cM i∈t.parts:=by
 grind [T.cM]
theorem LA.cM(h:LA t){u:T}(hu:u∈t.parts):LA u:=λn=>(h (n+1)).2 u hu
end bY
namespace bY
def Kb(x:By->Prop)(s s':LS):Prop:=s'.cm=s.cm/\∀k∈s.cm,x k->cK s'.ct k=cK s.ct k
def Kb.refl(x s):Kb x s s:=⟨rfl,λ_ _ _=>rfl⟩
def Kb.trans{x:By->Prop}{a b c:LS}(h:Kb x a b)(e:Kb x b c):Kb x a c:=⟨e.1.trans h.1,λk l hx=>(e.2 k (by rw[h.1];exact l) hx).trans (h.2 k l hx)⟩
def Kb.mono{x y:By->Prop}{a b:LS}(h:Kb x a b)(l:∀k,y k->x k):Kb y a b:=⟨h.1,λk e hx=>h.2 k e (l k hx)⟩
section
variable {j:By->LS->Wo×LS}
def KA(b:∀k s,Kb (λ_=>True) s (j k s).2)(key):∀l s,Kb (λ_=>True) s (eC j key l s).2
 |[],s=>Kb.refl _ _
 |(k,w)::r,s=>by
  unfold eC;split
  ·exact(b k s).trans (KA b key r _)
  exact b k s
def KD(e:∀k s,Kb (λ_=>True) s (j k s).2){α:Type}(p:Pg α):∀s b,Kb (λ_=>True) s (p.run (ep j) (s,b)).2.1 :=Pg.ind (P:=λp=>∀(s:LS) (b:List (By×Wo)),Kb (λ_=>True) s (p.run (ep j) (s,b)).2.1) (λa s b=>Kb.refl _ _)
  (λk c l s b=>(e k s).trans (l _ _ _)) p
def Fe(n:∀k s,Kb (λ_=>True) s (j k s).2)(key t y s):Kb (λk=>k≠key) s (f_ j key t y s).2:=by
 have h:=KD n (prog t) {s with du:=s.du++[y]} [];have m:Kb (λk=>k≠key) s ((prog t).run (ep j) ({s with du:=s.du++[y]},[])).2.1:=⟨h.1,λk b _=>h.2 k b trivial⟩;refine m.trans ?_;unfold f_;generalize (prog t).run (ep j) ({s with du:=s.du++[y]},[])=q;have l:∀(o:Option gl) (u:By),Kb (λk=>k≠key) q.2.1 ({q.2.1 with ct:=da q.2.1.ct key o}.write u):=λo u=>⟨rfl,λk b hx=>by
  show cK (da q.2.1.ct key o) k=_;rw[ez,ae (λe=>hx e.symm)]⟩
 unfold ia;split
 ·split
  ·exact l _ _
  exact Kb.refl _ _
 exact l _ _
def z7(l:∀k s,Kb (λ_=>True) s (j k s).2)(key s):Kb (λk=>k≠key) s (dE j key s).2:=by
 unfold dE;split
 ·exact Kb.refl _ _
 split
 ·exact Kb.refl _ _
 rename_i n _ _ t _;cases n.kept with
 |none=>exact Fe l key t _ s
 |some e =>
  have b:=KA l key e.cH s;show Kb _ s (match eC j key e.cH s with|(.none,s)=>(e.dR,s)|(.some y,s)=>f_ j key t y s).2;rcases hd:eC j key e.cH s with⟨_|y,m⟩
  ·rw[hd]at b;exact b.mono (λ_ _=>trivial)
  rw[hd]at b;exact(b.mono (λ_ _=>trivial)).trans (Fe l key t y m)
end
theorem yB{b:By->LS->Wo×LS}(l:∀key s,Kb (λk=>k≠key) s (b key s).2)(key s):Kb (λ_=>True) s (eY b key s).2:=by
 unfold eY;split
 ·exact Kb.refl _ _
 split
 ·show Kb _ s (s.meet key);unfold LS.meet;split
  ·exact⟨rfl,λ_ _ _=>rfl⟩
  exact Kb.refl _ _
 rename_i m;have h:=l key {s with cm:=s.cm++[key]};refine⟨?_,λk n _=>?_⟩
 ·show(b key {s with cm:=s.cm++[key]}).2.cm.dropLast=_;rw[h.1];simp
 refine h.2 k (RB _ n) (λe=>m ?_)
 grind
def pD:∀n b s,Kb (λ_=>True) s (cG n b s).2
 |0,b,s=>yB (λ_ s=>Kb.refl _ s) b s
 |n+1,b,s=>yB (λb s=>z7 (pD n) b s) b s
end bY
end
namespace bY
/-! What is kept. -/
def Sound.lX{s:LS}(h:Sound s)(key:By):Sound (s.lX key) where
 ef:=by
  show EF (fR (da s.ct key none));rw[kC];exact h.ef
 iE k t b h1 h2:=by
  have h1:fR (da s.ct key none) k=_:=h1;have h2:cK (da s.ct key none) k=_:=h2;rw[kC]at h1;rw[ez]at h2;split at h2
  ·cases j:cv s.ct k<;>rw[j]at h2<;>cases h2
  exact h.iE k t b h1 h2
 only k b h2:=by
  have h2:cK (da s.ct key none) k=_:=h2;show ∃t,fR (da s.ct key none) k=_;rw[kC];rw[ez]at h2;split at h2
  ·cases j:cv s.ct k<;>rw[j]at h2<;>cases h2
  exact h.only k b h2
 fine k b h2:=by
  have h2:cK (da s.ct key none) k=_:=h2;rw[ez]at h2;split at h2
  ·cases j:cv s.ct k<;>rw[j]at h2<;>cases h2
  exact h.fine k b h2
 cm:=h.cm
 kb:=qD h.kb (λb e=>by cases e)
 len:=by
  show(da s.ct key none).length<=40;unfold da;rw[aH];exact h.len
end bY
