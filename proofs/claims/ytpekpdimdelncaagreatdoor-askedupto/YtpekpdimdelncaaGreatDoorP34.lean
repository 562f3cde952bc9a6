/- Out of Y12. -/
import Derived.Test.YtpekpdimdelncaaGreatDoorP33
set_option linter.unusedVariables false
set_option linter.unusedSimpArgs false
set_option maxRecDepth 100000
set_option maxHeartbeats 2000000
set_option linter.defProp false
namespace Go.Proofs.YtpekpdimdelncaaGreatDoor
open Go.RowKit Go.Shelf
section
open bY
open Tryz
namespace Ref
variable{ns:List Nd}{u:Xa}
def Jn(l:a_):(bY.tok l).1=0↔l=[]:=by
 cases l with
 |nil=>simp[bY.tok]
 |cons c r =>
  rw[fZ (c :: r) c r rfl];constructor
  ·intro h;exfalso;split at h
   ·split at h<;>simp at h
   split at h
   ·split at h
    ·simp at h
    split at h<;>simp at h
   split at h
   ·cases b:dM (c :: r) with
    |none=>rw[b]at h;simp[fa]at h
    |some n=>rw[b]at h;simp[fa]at h
   split at h<;>simp at h
  intro h;cases h
def LR(c:UInt8)(r:a_):1<=jq (c :: r):=by
 show 1<=if c=39 then max (fw (c :: r)) 1 else if eo c=true then dC eF (c :: r)else if dA c=true then dC dA (c :: r)else 1
 split
 ·omega
 split
 ·rename_i h;exact ko eF c r (by rw[qA,h];rfl)
 split
 ·rename_i h;exact ko dA c r h
 exact af _
def Jo(s:ba)(j:Nat):((s.extract j (j+jq (s.1.1.drop j))).toList==[])=decide ((bY.tok (s.1.1.drop j)).1=0):=by
 rw[UC,kq,QE,P',QF,Jn];unfold Ko;cases hl:s.1.1.drop j with
 |nil=>simp
 |cons c r =>
  have:=LR c r;constructor
  ·intro h;exfalso;obtain⟨m,b⟩:∃m,jq (c :: r)=m+1:=⟨jq (c :: r)-1,by omega⟩;rw[b]at h;cases h
  intro h;cases h
def vE{α:Type}(F:α->List Xa)(m:Nat)(hF:∀a,(F a).length=m):∀(l:List α) (k:Nat) (a:α) (j:Nat) (u:Xa),l[k]?=some a->(F a)[j]?=some u->(l.flatMap F)[k*m+j]?=some u
 |[],k,a,j,u,h,_=>by cases h
 |e :: r,0,a,j,u,h,hu=>by
  have h:e=a:=aB h;rw[<-h]at hu;have:j<(F e).length:=(az.1 hu).1;rw[P9,Q6,aI,aU this];exact hu
 |e :: r,k+1,a,j,u,h,hu=>by
  have e0:=hF e;rw[P9,Nat.succ_mul,aY RM];have e1:k*m+m+j-(F e).length=k*m+j:=RM;rw[e1];exact vE F m hF r k a j u h hu
def kX{w:QV}{b g e:Nat}{k j:Nat}{d:Nd}(h:w.ownsRow b 147 6 (.slice (some ⟨g,0,none⟩) ns.length e) ns.length (ns.flatMap Nd.cells))(hd:ns[k]?=some d)(hu:d.cells[j]?=some u):w.cell? ⟨g,k*6+j,none⟩=some u:=by
 have:=h.cells (g:=g) rfl _ u (vE Nd.cells 6 (λ_=>rfl) ns k d j u hd hu);rw[addr_add,aI]at this;exact this
structure wN(w:QV)(base:Nat)(v:Xa)(ns:List Nd):Prop where
 row:w.ownsRow base 147 6 v ns.length (ns.flatMap Nd.cells)
 all:∀d∈ns,d.pn=d.all.length/\w.ownsRow base 3 1 (.slice d.p d.pn d.pc) d.all.length (d.all.map λa=>.int .i64 a)
def Jp(l:a_)(w:QV)(c i:Nat)(e:Ending)(w':QV):Prop :=(∃p n k,e=.returned (.tuple #[.slice p n k,.int .i64 (c:Int),.int .i64 (i:Int)])/\(c=0->∃(ns:List Nd) (m:Nat),n=ns.length/\ns.length<=2000/\wN w' w.1.size (.slice p n k) ns/\nB ns m (ns.length-1) (gG l)/\0<ns.length))/\Xb w w'
def FV(s:ba)(w:QV)(hs:200<s.size)(b:s.size<=9223372036854775807):Calls prog 38 #[.string s] w (Jp s.1.1 w 2 0):=by
 have e:(200:Int)<(s.size:Int):=RM;go_enter func38,ntmps38;go_wp2_with fail;exact UA (UQ rfl _ _ _) rfl ⟨⟨none,0,0,rfl,λh=>Sa⟩,Uz _ _⟩
def below_drewN{b:Nat}{w w':QV}(h:Below b w w')(n:Nat):Below b w (w'.drewN n):=⟨h.os,h.tape,h.output,h.size,h.block⟩
def RF.below{w w':QV}{o:Obj}(h:RF w.1.size (w.1.size+1) (w.alloc o) w'):Xb w w' :=⟨h.os,h.tape,h.output,by have:=h.size;simp at this;omega,λk b=>(h.low k RM R5 RM).trans (UE w o k b)⟩
def Db(s:ba)(w:QV)(hs:s.size<=200):Calls prog 38 #[.string s] w (Jp s.1.1 w (bY.check s.1.1).1 (bY.check s.1.1).2):=by
 have br:¬(200:Int)<(s.size:Int):=RM;have a0:bY.skip s.1.1 0<=s.size:=by have:=pj s.1.1 0 (au _);simpa using this
 have l:bY.check s.1.1=wR s.1.1 (bY.P s.1.1 (8*s.1.1.length+5) 0 0 0 (bY.skip s.1.1 0)):=by
  rw[bY.check,ae R5]
 generalize T:bY.skip s.1.1 0=b at a0 l;have aC:Good s b (.ok b):=λa ha=>by cases ha;exact⟨af _,a0⟩
 have bq:i_ s (.ok b)<=800:=Ti;have Y:=λw1 (k1:RX s w.1.size (w.1.size+1) 0 [] (.ok b) w1)=>(A3 s w.1.size (w.1.size+1) hs (8*s.1.1.length+5)).1 0 0 b (.ok b) w1 [] RM (af _) R8 aC k1 (by simp only[P6];omega);have a7:∀j t,PT s.1.1 (8*s.1.1.length+5) 0 0 0 b []=.ok (j,[t])->gG s.1.1=t:=λj t h=>by
  unfold gG;rw[T,h];rfl
 have ak:=bZ a7;clear a7;have E:bY.check s.1.1=wR s.1.1 (bY.andThen (.ok b) (bY.P s.1.1 (8*s.1.1.length+5) 0 0 0)):=l;have a4:=aC.P (8*s.1.1.length+5) 0 0 0;generalize bY.andThen (.ok b) (bY.P s.1.1 (8*s.1.1.length+5) 0 0 0)=r at E Y a4;generalize bY.check s.1.1=D at E;have J:=bZ E;have ad:=bZ Y;have R:gX (w.alloc (.cells #[.string s,.int .i64 0,.string ⟨#[]⟩,.int .i64 0,.int .i64 0,.int .i64 0,.slice none 0 0] 142)) s w.1.size 0 ⟨#[]⟩ 0 0 0 (.slice none 0 0):=heap_alloc_new _ _;have V:=zR s w.1.size 0 ⟨#[]⟩ 0 0 0 (.slice none 0 0) _ R RM (by show 0+0<=s.size;omega);rw[show 0+(⟨#[]⟩:ba).size=0 from rfl,T]at V;have ab:=bZ V;clear l E Y T V R;go_enter func38,ntmps38;go_wp2_with fail;refine ab.Z.mono ?_;rintro e w1⟨rfl,B,f1⟩;have k1:RX s w.1.size (w.1.size+1) 0 [] (.ok b) w1:=RX.jo B ⟨⟨rfl,Or.inl ⟨rfl,rfl⟩⟩,λd hd=>by cases hd⟩ RM (by have:=f1.size;simpa using this);have r1:RF w.1.size (w.1.size+1) _ w1:=RF.rj f1;clear ab B f1;go_wp2_with fail;refine(ad.Z w1 k1).mono ?_;rintro e w2⟨x2,z,rfl,k2,r2,b2,_,xk⟩;have K:=r1.trans r2;have a9:=K.below;clear ad k1 r1 r2;cases r with
 |error y =>
  have l:D=y:=J.Z;subst l;obtain⟨hy,v,i1,t1,B,I⟩:=k2.err;obtain⟨L,c1,c2,M,N,O,P,cf⟩:=B.cells;have bt:((D.1:Int)==0)=false:=R7;have bu:((D.1:Int) != 0)=true:=Sm;go_wp2_with fail
  go_quiet (fail)
  go_wp2_with fail;exact UA (UQ rfl _ _ _) rfl ⟨⟨none,0,0,rfl,λh=>(hy h).elim⟩,below_drewN a9 _⟩
 |ok j =>
  have hj:=a4 j rfl;have a5:=Jo s j;have l:D=if(bY.tok (s.1.1.drop j)).1=0 then(0,0) else(3,j):=J.Z;obtain⟨v,p,B,I⟩:=k2.ok;obtain⟨L,c1,c2,M,N,O,P,cf⟩:=B.cells;clear J;by_cases F:(bY.tok (s.1.1.drop j)).1=0
  ·rw[ag F]at l;rw[aS F]at a5;subst l;obtain⟨k,rfl,bf,av⟩:=xk j rfl;obtain⟨t,m,ax,a3⟩:=av b rfl;have a6:=ak.Z j t ax;have ai:=bZ (And.intro a6 a3);clear a6 a3 ax av ak;have C:=aq bf;generalize z[k]=d at C;obtain⟨a2,ay⟩:=I.all d (aL C);have X:=I.own;rcases X.2 with⟨_,R⟩|⟨g,bk,bl,rfl,bm,bc,bn,bo,bd,bg⟩
   ·omega
   have bp:(k:Int)<(z.length:Int):=RM;have hcell:=λ(j:Nat) (u:Xa) (hu:d.cells[j]?=some u)=>kX X C hu;have z0:=hcell 0 _ rfl;have z1:=hcell 1 _ rfl;have z2:=hcell 2 _ rfl;have z3:=hcell 3 _ rfl;have z4:=hcell 4 _ rfl;have z5:=hcell 5 _ rfl;simp only[Qc]at z0;have a8:=bZ C;have aa:=bZ (And.intro a2 ay);clear hcell bc bd bg X I a2 ay;obtain⟨am,ds,dx,dy,dz,dp,ap,ao,Q⟩:=d;simp only at z0 z1 z2 z3 z4 z5;clear C;go_wp2_with fail;refine(I_ s w.1.size (w.1.size+1) 0 z (.ok j) w2 k2 _ _ _ _ _ _ _ _ Q (by simp at b2;omega) aa.Z.1 aa.Z.2).mono ?_;rintro e w3⟨rfl,k3,r3⟩;have S:=(K.trans r3).below;obtain⟨v3,p3,Z,q4⟩:=k3.ok;obtain⟨d0,d1,d2,d3,d4,d5,d6,df⟩:=Z.cells;have G:=q4.own;have U:(z++[(⟨am,ds,dx,dy,dz,dp,ap,ao,Q⟩:Nd)]).length=z.length+1:=R2;rw[U]at G;obtain⟨bj,bh,rfl⟩:=dP G;have n:=bZ (And.intro G (And.intro q4.all U));clear U;clear L c1 c2 M N O P cf z0 z1 z2 z3 z4 z5 G q4;go_wp2_with fail;refine UA (UQ rfl _ _ _) rfl ⟨⟨bj,z.length+1,bh,rfl,λ_=>⟨z++[⟨am,ds,dx,dy,dz,dp,ap,ao,Q⟩],m,n.Z.2.2.symm,by rw[n.Z.2.2];simp at b2;omega,⟨by rw[n.Z.2.2];exact vt n.Z.1 RM,λd hd=>⟨(n.Z.2.1 d hd).1,vt (n.Z.2.1 d hd).2 RM⟩⟩,?_,by rw[n.Z.2.2];omega⟩⟩,S⟩;rw[n.Z.2.2,Nat.add_sub_cancel,ai.Z.1];exact ai.Z.2.again a8.Z
  rw[ae F]at l;rw[aF F]at a5;subst l;have HF:=bZ (qC s w.1.size j _ p 0 3 v w2 B);go_wp2_with fail;refine HF.Z.mono ?_;rintro e w3⟨rfl,Z,f3⟩;have S:=(K.fr f3).below;obtain⟨d0,d1,d2,d3,d4,d5,d6,df⟩:=Z.cells;clear L c1 c2 M N O P cf;go_wp2_with fail
  go_quiet (fail)
  go_wp2_with fail;exact UA (UQ rfl _ _ _) rfl ⟨⟨none,0,0,rfl,λh=>Sa⟩,below_drewN S _⟩
end Ref
end
section
open bY
namespace Ref
def eX(S:QV->(Nat->Prop)->Prop)(w:QV)(L:Nat->Prop)(w':QV):Prop :=∃L',S w' L'/\(∀k,L' k->L k\/w.1.size<=k)/\(∀k,L k->L' k)/\ed L w w'
def eX.refl{S:QV->(Nat->Prop)->Prop}{w:QV}{L:Nat->Prop}(h:S w L):eX S w L w:=⟨L,h,λ_ h=>.inl h,λ_ h=>h,ed.refl _ _⟩
def eX.trans{S j:QV->(Nat->Prop)->Prop}{a b c:QV}{L:Nat->Prop}(h:eX S a L b)(h':∀L',S b L'->eX j b L' c):eX j a L c:=by
 obtain⟨m,h1,h2,z,l⟩:=h;obtain⟨n,p,r,u,y⟩:=h' m h1;refine⟨n,p,λk e=>?_,λk e=>u k (z k e),l.trans y h2⟩;rcases r k e with h|h
 ·exact h2 k h
 have:=l.size;exact .inr RM
def eX.pre{S:QV->(Nat->Prop)->Prop}{a b c:QV}{L:Nat->Prop}(j:Xb a b)(h:eX S b L c):eX S a L c:=by
 obtain⟨l,h1,h2,m,n⟩:=h;refine⟨l,h1,λk e=>?_,m,(ed.below j).trans n (λk e=>.inl e)⟩;rcases h2 k e with h|h
 ·exact .inl h
 have:=j.size;exact .inr RM
def eX.imp{S j:QV->(Nat->Prop)->Prop}{a b:QV}{L:Nat->Prop}(h:eX S a L b)(h':∀L',S b L'->j b L'):eX j a L b:=by
 obtain⟨e,h1,h2⟩:=h;exact⟨e,h' e h1,h2⟩
def L8(t:TypeId):Prop:=t=101\/t=168\/t=204\/t=199\/t=9\/t=287
def Po(t:TypeId):Prop:=t=147\/t=3
def L8.no{t:TypeId}(h:L8 t):¬Po t:=by
 rcases h with rfl|rfl|rfl|rfl|rfl|rfl<;>(rintro(h|h)<;>cases h)
def L8.Pp{t:TypeId}(h:L8 t):t≠166:=by
 rcases h with rfl|rfl|rfl|rfl|rfl|rfl<;>(intro h;cases h)
def KN(w w':QV):Prop:=∀(k:Nat) (cs:Array Xa) (t:TypeId) (fz:Nat×Nat),w.1[k]?=some (.cells cs t fz)->Po t->w'.1[k]?=some (.cells cs t fz)
def KN.refl(w:QV):KN w w:=λ_ _ _ _ h _=>h
def KN.trans{a b c:QV}(h:KN a b)(h':KN b c):KN a c:=λk cs t fz j e=>h' k cs t fz (h k cs t fz j e) e
def KN.below{w w':QV}(h:Xb w w'):KN w w':=λk cs t fz b _=>(h.block k (cj b)).trans b
def Typed(w:QV)(L:Nat->Prop):Prop:=∀k,L k->8<=k/\∃cs t fz,w.1[k]?=some (.cells cs t fz)/\L8 t
def KN.ot{w w':QV}{L:Nat->Prop}(j:Typed w L)(hf:ed L w w'):KN w w':=λk cs t fz b e=>by
 by_cases hl:L k
 ·obtain⟨_,cs',t',l,h1,h2⟩:=j k hl;rw[b]at h1;cases h1;exact(h2.no e).elim
 exact(hf.block k (cj b) hl).trans b
def wN.st{w w':QV}{b:Nat}{v:Xa}{ns:List Nd}(h:wN w b v ns)(e:KN w w'):wN w' b v ns :=⟨cD h.row (λg _ cs fz hb=>e g cs _ fz hb (.inl rfl)),λd hd=>⟨(h.all d hd).1,cD (h.all d hd).2 (λg _ cs fz hb=>e g cs _ fz hb (.inr rfl))⟩⟩
structure En where
 key:a_
 text:a_
 eY:Xa
 kept:Bool
 np:Xa
 w:Wo
def En.cells(e:En):List Xa:=str e.key :: str e.text :: e.eY :: .bool e.kept :: e.np :: ei e.w
def eA(q:a_×Wo):List Xa:=str q.1 :: ei q.2
def KeptAt(w:QV)(L:Nat->Prop)(o:Option fM)(e:En):Prop :=(o=none/\e.kept=false/\e.np=.slice none 0 0)\/∃kp,o=some kp/\e.kept=true/\e.w=kp.dQ/\w.ownsRow 8 204 3 e.np kp.cO.length (kp.cO.flatMap eA)/\(∀g,e.np.ownBlock=some g->L g)/\kp.cO.length<=401
def ka(w:QV)(th:cu)(e:En):Prop :=(th.dc=none/\e.text=wr 3 th.value/\e.eY=.slice none 0 0) \/∃t ns m o c,th.dc=some t/\e.text=th.came/\e.eY=.slice (some o) ns.length c/\wN w 8 e.eY ns/\nB ns m (ns.length-1) t/\0<ns.length/\ns.length<=2000/\ib (hM t) false t=true
structure o_(w:QV)(L:Nat->Prop)(rn:List (a_))(p:a_×cu)(e:En):Prop where
 key:e.key=p.1
 eY:ka w p.2 e
 kept:KeptAt w L (if p.1∈rn then none else p.2.kept) e
structure qi(s:LS)(fl:List (a_×Wo)):Prop where
 dE:∀k,k∈bY.dE s.cm->bY.cr fl k=bY.cr s.done k
 len:fl.length<=s.done.length
 base:∀k w,bY.cr s.done k=some w->k∉bY.dE s.cm->w=match bY.cr s.cm k with|none=>.error 7|some th=>.ok th.value
structure fW(w:QV)(rb:Nat)(s:LS)(rn:List (a_))(L:Nat->Prop)(es:List En)(fl:List (a_×Wo))(vA vF vB vR vN:Xa):Prop where
 eb:w.1[rb]?=some (.cells #[vA,str (cW s.jr),vF,vB,vR,vN] 101 (0,0))
 here:L rb
 all:w.ownsRow 8 168 7 vA es.length (es.flatMap En.cells)
 kE:es.length=s.cm.length
 pO:∀(i:Nat) (p:a_×cu) (e:En),s.cm[i]?=some p->es[i]?=some e->o_ w L rn p e
 fresh:w.ownsRow 8 204 3 vF fl.length (fl.flatMap eA)
 fr:qi s fl
 b_:dm w vB s.b_
 cE:dm w vR s.cE
 runs:w.ownsRow 8 199 6 vN s.du.length (s.du.flatMap dB)
 dK:∀g,vA.ownBlock=some g\/vF.ownBlock=some g\/vB.ownBlock=some g\/vR.ownBlock=some g\/vN.ownBlock=some g->L g
 apart:∀g,vB.ownBlock=some g->vR.ownBlock≠some g
 eV:∀e∈es,∀g,e.np.ownBlock=some g->vF.ownBlock≠some g
 nodup:(s.cm.map (·.1)).Nodup
 ct:Typed w L
def fA(e:Nat)(s:LS)(rn:List (a_))(w:QV)(L:Nat->Prop):Prop:=∃es b j m l p n,fW w e s rn L es b j m l p n
def KeptAt.st{w w':QV}{L:Nat->Prop}{o:Option fM}{e:En}(h:KeptAt w L o e)(hs:∀g,e.np.ownBlock=some g->L g->w'.1[g]?=w.1[g]?):KeptAt w' L o e:=by
 rcases h with h|⟨kp,h1,h2,l,m,b,n⟩
 ·exact .inl h
 exact .inr ⟨kp,h1,h2,l,cD m (λg j cs fz hb=>(hs g j (b g j)).trans hb),b,n⟩
def ka.st{w w':QV}{th:cu}{e:En}(h:ka w th e)(n:KN w w'):ka w' th e:=by
 rcases h with h|⟨t,ns,m,o,c,h1,h2,b,j,l⟩
 ·exact .inl h
 exact .inr ⟨t,ns,m,o,c,h1,h2,b,j.st n,l⟩
def KeptAt.mono{w:QV}{L L':Nat->Prop}{o:Option fM}{e:En}(h:KeptAt w L o e)(n:∀k,L k->L' k):KeptAt w L' o e:=by
 rcases h with h|⟨kp,h1,h2,b,j,l,m⟩
 ·exact .inl h
 exact .inr ⟨kp,h1,h2,b,j,λg p=>n g (l g p),m⟩
def o_.st{w w':QV}{L L':Nat->Prop}{rn:List (a_)}{p:a_×cu}{e:En}(h:o_ w L rn p e)(hs:∀g,e.np.ownBlock=some g->L g->w'.1[g]?=w.1[g]?)(j:KN w w')(b:∀k,L k->L' k):o_ w' L' rn p e :=⟨h.key,h.eY.st j,(h.kept.st hs).mono b⟩
def Typed.st{w w':QV}{L:Nat->Prop}(h:Typed w L)(hs:∀k,L k->w'.1[k]?=w.1[k]?):Typed w' L:=λk b=>by rw[hs k b];exact h k b
def Typed.lt{w:QV}{L:Nat->Prop}(h:Typed w L){k:Nat}(b:L k):k<w.1.size:=by
 obtain⟨_,cs,t,fz,h1,_⟩:=h k b;exact cj h1
def fW.st{w w':QV}{j:Nat}{s:LS}{rn:List (a_)}{L:Nat->Prop}{es:List En}{l:List (a_×Wo)}{m r n y u:Xa}(h:fW w j s rn L es l m r n y u)(hs:∀k,L k->w'.1[k]?=w.1[k]?)(B:KN w w'):fW w' j s rn L es l m r n y u where
 eb:=(hs j h.here).trans h.eb
 here:=h.here
 all:=cD h.all (λg b cs fz hb=>(hs g (h.dK g (.inl b))).trans hb)
 kE:=h.kE
 pO i p e C z:=(h.pO i p e C z).st (λg _ b=>hs g b) B (λ_ h=>h)
 fresh:=cD h.fresh (λg b cs fz hb=>(hs g (h.dK g (.inr (.inl b)))).trans hb)
 fr:=h.fr
 b_:=cD h.b_ (λg b cs fz hb=>(hs g (h.dK g (.inr (.inr (.inl b))))).trans hb)
 cE:=cD h.cE (λg b cs fz hb=>(hs g (h.dK g (.inr (.inr (.inr (.inl b)))))).trans hb)
 runs:=cD h.runs (λg b cs fz hb=>(hs g (h.dK g (.inr (.inr (.inr (.inr b)))))).trans hb)
 dK:=h.dK
 apart:=h.apart
 eV:=h.eV
 nodup:=h.nodup
 ct:=h.ct.st hs
def fA.st{w w':QV}{b:Nat}{s:LS}{rn:List (a_)}{L:Nat->Prop}(h:fA b s rn w L)(hs:∀k,L k->w'.1[k]?=w.1[k]?)(j:KN w w'):fA b s rn w' L:=by
 obtain⟨es,e,l,n,m,r,p,h⟩:=h;exact⟨es,e,l,n,m,r,p,h.st hs j⟩
def fA.ct{w:QV}{b:Nat}{s:LS}{rn:List (a_)}{L:Nat->Prop}(h:fA b s rn w L):Typed w L:=by
 obtain⟨es,e,j,m,l,p,n,h⟩:=h;exact h.ct
def fA.below{w w':QV}{e:Nat}{s:LS}{rn:List (a_)}{L:Nat->Prop}(h:fA e s rn w L)(b:Xb w w'):fA e s rn w' L :=h.st (λk j=>b.block k (h.ct.lt j)) (KN.below b)
structure Bx(base:Nat)(w w':QV):Prop where
 os:w'.os=w.os
 tape:w'.tape=w.tape
 output:w'.output=w.output
 size:w.1.size<=w'.1.size
 block:∀(k:Nat) (o:Obj),w.1[k]?=some o->(k<base\/∀(cs:Array Xa) (fz:Nat×Nat),o≠.cells cs 166 fz)->w'.1[k]?=some o
def Bx.refl(b:Nat)(w:QV):Bx b w w:=⟨rfl,rfl,rfl,af _,λ_ _ h _=>h⟩
def Bx.trans{b:Nat}{w1 w2 w3:QV}(h:Bx b w1 w2)(h':Bx b w2 w3):Bx b w1 w3:=⟨h'.os.trans h.os,h'.tape.trans h.tape,h'.output.trans h.output,ah h.size h'.size,λk o e hc=>h'.block k o (h.block k o e hc) hc⟩
def Bx.below{b:Nat}{w w':QV}(h:Xb w w'):Bx b w w':=⟨h.os,h.tape,h.output,h.size,λk o e _=>(h.block k (cj e)).trans e⟩
def Bx.set{b:Nat}{w:QV}{k o:Nat}{cs:Array Xa}{fz:Nat×Nat}(hb:b<=k)(h:w.1[k]?=some (.cells cs 166 fz))(v:Xa):Bx b w (w.setCell ⟨k,o,none⟩ v) :=⟨rfl,rfl,rfl,by simp,λj x hj hc=>by
  by_cases e:j=k
  ·subst e;rw[h]at hj;rcases hc with hc|hc
   ·omega
   exact(hc _ _ (aB hj).symm).elim
  ·rw[UI w ⟨k,o,none⟩ j v e];exact hj⟩
def Bx.kn{b:Nat}{w w':QV}(h:Bx b w w'):KN w w':=λk cs t fz j l=>h.block k _ j (.inr (λcs' m e=>by
 injection e with _ e _
 rcases l with rfl|rfl<;>cases e))
def Bx.dK{b:Nat}{w w':QV}(h:Bx b w w'){L:Nat->Prop}(l:Typed w L):∀k,L k->w'.1[k]?=w.1[k]? := λk j=>by
 obtain⟨_,cs,t,fz,h1,h2⟩:=l k j;rw[h1];exact h.block k _ h1 (.inr (λcs' m e=>by injection e with _ e _;exact h2.Pp e))
def eX.post{S:QV->(Nat->Prop)->Prop}{a b c:QV}{L:Nat->Prop}(h:eX S a L b)(hx:Bx a.1.size b c)(hS:∀L',S b L'->S c L'):eX S a L c:=by
 obtain⟨l,h1,h2,n,e⟩:=h;refine⟨l,hS l h1,h2,n,⟨hx.os.trans e.os,hx.tape.trans e.tape,hx.output.trans e.output,ah e.size hx.size,λk j u=>?_⟩⟩;have p:=e.block k j u;have m:=aA j e.size;have r:=hx.block k _ (QS m) (.inl j);rw[<-p,r,QS m]
def fA.bx{b:Nat}{w w':QV}{e:Nat}{s:LS}{rn:List (a_)}{L:Nat->Prop}(h:fA e s rn w L)(hx:Bx b w w'):fA e s rn w' L:=h.st (hx.dK h.ct) hx.kn
end Ref
end
section
open bY
namespace Ref
structure vM(n:Nat)(s:LS):Prop where
 kb:KB s.cm
 un:Un s<n
 b_:s.b_.length+n<=200
 mM:s.done.length+1000*Rs s+1000*n<=1000000
 du:s.du.length+Rs s+n<=1000
 fs:gn s
 hl:HL s.cm
 ph:Ph s<=1000000000000000000
 br:∀k∈s.b_,k∈bY.dE s.cm
def vP(j n:Nat):Prop :=∀(w:QV) (s:LS) (rn:List (a_)) (L:Nat->Prop) (b:ba),fA j s rn w L->vM n s->(∀k∈rn,k∈s.b_) ->Calls Tryz.prog 109 #[ptr j,.string b] w λe w'=>e=.returned (dw (cC n b.1.1 s).1)/\eX (fA j (cC n b.1.1 s).2 rn) w L w'
structure Cx where
 rb:Nat
 qb:Nat
 rn:List (a_)
 JA:Xa
 ns:List Nd
 s0:LS
 n:Nat
 says:vP rb n
 pre:∀s' c,jg s0 s' c->c<=400->gn s'->Ph s'<=Ph s0->vM n s'
 run:∀k∈rn,k∈s0.b_
def ES(c:Cx)(s:LS)(nd:List (a_×Wo))(f:Nat)(e:Xa)(w:QV)(M:Nat->Prop):Prop :=∃L b,fA c.rb s c.rn w L/\(∀k,L k->M k)/\M c.qb/\¬L c.qb/\(∀g,b.ownBlock=some g->M g/\¬L g)/\Typed w M /\w.1[c.qb]?=some (.cells #[c.JA,b,.int .i64 (400-f:Int),e] 287 (0,0))/\f<=400 /\w.ownsRow 8 204 3 b nd.length (nd.flatMap eA)/\wN w 8 c.JA c.ns
structure Pu(c:Cx)(s:LS)(nd:List (a_×Wo))(g:Nat):Prop where
 p8:∃kO,jg c.s0 s kO/\kO+g<=400/\nd.length<=kO
 fs:gn s
 ph:Ph s<=Ph c.s0
 Pr:A_ s.cm nd
def Pu.le{c:Cx}{s:LS}{nd:List (a_×Wo)}{g g':Nat}(h:Pu c s nd g)(j:g'<=g):Pu c s nd g':=by
 obtain⟨e,h1,h2,b⟩:=h.p8;exact⟨⟨e,h1,by omega,b⟩,h.fs,h.ph,h.Pr⟩
def Pu.pre{c:Cx}{s:LS}{nd:List (a_×Wo)}{g:Nat}(h:Pu c s nd g):vM c.n s:=by
 obtain⟨b,h1,h2,e⟩:=h.p8;exact c.pre s b h1 RM h.fs h.ph
abbrev Nn(c:Cx):=d_ (cC c.n)
def Pu.need{c:Cx}{s:LS}{nd:List (a_×Wo)}{g:Nat}{k:a_}(h:Pu c s nd (g+1))(j:isKey k=true):Pu c (Nn c k (s,nd)).2.1 (Nn c k (s,nd)).2.2 g/\gK (Nn c k (s,nd)).1/\EC (Nn c k (s,nd)).1:=by
 have e:=h.pre;obtain⟨m,h1,h2,n⟩:=h.p8;obtain⟨f1,f2,f3⟩:=oZ c.n k s h.fs;have b:=h.Pr.with f1 j;have hl:=nr nd k (cC c.n k s).1;exact⟨⟨⟨m+1,h1.trans (gM c.n k s e.kb),by omega,ah hl RM⟩,f2,ah (rq c.n k s h.fs e.kb e.hl) h.ph,⟨b.nd,λq l=>(b.fk q l).cX f3,b.key⟩⟩,f1.fine,f1.2⟩
def sh{α:Type}{A:α->Prop}(c:Cx)(d:Nat):∀(p:Pe α) (f:Nat) (s:LS) (nd:List (a_×Wo)),Pu c s nd (f+d)->Sp p f->PP A p->PE p->Pu c (p.run (Nn c) (s,nd)).2.1 (p.run (Nn c) (s,nd)).2.2 ((p.run (Nn c) (s,nd)).1.2+d)/\(∀v,(p.run (Nn c) (s,nd)).1.1=.ok v->A v)/\(p.run (Nn c) (s,nd)).1.2<=f/\EC (p.run (Nn c) (s,nd)).1.1
 |⟨.inl q⟩,f,s,nd,h,hs,b,j=>by
  have hs:q.2<=f:=hs;exact⟨h.le (by show q.2+d<=_;omega),b,hs,j⟩
 |⟨.inr (k,e)⟩,f,s,nd,h,hs,b,j=>by
  obtain⟨h1,h2⟩:=hs;obtain⟨f',rfl⟩:∃f',f=f'+1:=⟨f-1,by omega⟩;obtain⟨l,m,n⟩:=Pu.need (g:=f'+d) (by rw[show f'+d+1=f'+1+d by omega];exact h) b.1;obtain⟨r,u,y,z⟩:=sh c d (e (Nn c k (s,nd)).1) f' _ _ l (h2 _) (b.2 _ m) (j _ n);exact⟨r,u,Nat.le_succ_of_le y,z⟩
def ql(c:Cx)(p:Pe V)(s:LS)(nd:List (a_×Wo))(b:Xa)(w:QV)(M:Nat->Prop)(e:Ending)(w':QV):Prop :=e=.returned (dw (p.run (Nn c) (s,nd)).1.1)/\eX (ES c (p.run (Nn c) (s,nd)).2.1 (p.run (Nn c) (s,nd)).2.2 (p.run (Nn c) (s,nd)).1.2 b) w M w'
def jF(w:QV)(M:Nat->Prop)(b:Xa)(it:Option V)(f:Nat):Prop :=∃l:List (a_),dm w b l/\(∀g,b.ownBlock=some g->¬M g)/\l.length+f<=400/\∀u,it=some u->L3 u/\∃e,l=e++[wr 3 u]
def ES.ct{c:Cx}{s:LS}{nd:List (a_×Wo)}{f:Nat}{b:Xa}{w:QV}{M:Nat->Prop}(h:ES c s nd f b w M):Typed w M:=by
 obtain⟨L,e,_,_,_,_,_,h,_⟩:=h;exact h
def ES.st{c:Cx}{s:LS}{nd:List (a_×Wo)}{f:Nat}{l:Xa}{w w':QV}{M:Nat->Prop}(h:ES c s nd f l w M)(hs:∀k,M k->w'.1[k]?=w.1[k]?)(b:KN w w'):ES c s nd f l w' M:=by
 obtain⟨L,B,h1,h2,e,n,j,p,r,u,y,m⟩:=h;exact⟨L,B,h1.st (λk b=>hs k (h2 k b)) b,h2,e,n,j,p.st hs,(hs _ e).trans r,u,cD y (λg z cs fz hb=>(hs g (j g z).1).trans hb),m.st b⟩
def ES.below{c:Cx}{s:LS}{nd:List (a_×Wo)}{f:Nat}{e:Xa}{w w':QV}{M:Nat->Prop}(h:ES c s nd f e w M)(b:Xb w w'):ES c s nd f e w' M :=h.st (λk j=>b.block k (h.ct.lt j)) (KN.below b)
def ES.bx{b:Nat}{c:Cx}{s:LS}{nd:List (a_×Wo)}{f:Nat}{e:Xa}{w w':QV}{M:Nat->Prop}(h:ES c s nd f e w M)(hx:Bx b w w'):ES c s nd f e w' M:=h.st (hx.dK h.ct) hx.kn
def jF.st{w w':QV}{M e:Nat->Prop}{j:Xa}{it:Option V}{f f':Nat}(h:jF w M j it f)(hf:ed M w w')(hM:∀k,e k->M k\/w.1.size<=k)(r:f'<=f):jF w' e j it f':=by
 obtain⟨l,h1,h2,p,m⟩:=h;refine⟨l,cD h1 (λg b cs fz hb=>(hf.block g (cj hb) (h2 g b)).trans hb),λg b n=>?_,by omega,m⟩;rcases hM g n with h|h
 ·exact h2 g b h
 have:=(UH h1 g b).2;omega
def jF.below{w w':QV}{M:Nat->Prop}{b:Xa}{it:Option V}{f:Nat}(h:jF w M b it f)(e:Xb w w'):jF w' M b it f:=h.st (ed.below e) (λ_ h=>.inl h) (af _)
def nF(c:Cx)(x:Nat)(it:Option V)(p:Nat->Pe V)(d0:Nat):Prop :=∀(w:QV) (M:Nat->Prop) (s:LS) (nd:List (a_×Wo)) (f d:Nat) (b:Xa),ES c s nd f b w M->d0<=d->Pu c s nd (f+d)->jF w M b it (f+d) ->Calls Tryz.prog 196 #[ptr c.rb,ptr c.qb,.int .i64 (x:Int)] w (ql c (p f) s nd b w M)
def ES.cells{c:Cx}{s:LS}{nd:List (a_×Wo)}{f:Nat}{n:Xa}{w:QV}{M:Nat->Prop}(h:ES c s nd f n w M){x:Nat}{d:Nd}(hd:c.ns[x]?=some d):∃g b,c.JA=.slice (some ⟨g,0,none⟩) c.ns.length b/\g<w.1.size/\c.qb<w.1.size/\w.cell? ⟨c.qb,0,none⟩=some c.JA/\(x:Int)<(c.ns.length:Int) /\∀j u,d.cells[j]?=some u->w.cell? ⟨g,x*6+j,none⟩=some u:=by
 obtain⟨L,F,h1,h2,y,z,B,C,m,D,E,l⟩:=h;have hx:=(az.1 hd).1;rcases l.row.2 with⟨_,r⟩|⟨g,b,p,e,_,hb,_⟩
 ·omega
 refine⟨g,b,e,cj hb,cj m,by simp[World.cell?,m],by omega,λj u hu=>?_⟩;exact kX (by have:=l.row;rw[e]at this;exact this) hd hu
end Ref
end
section
open bY
namespace Ref
variable{v y B z D C:Xa}{r:Nat}{s:LS}{rn:List (a_)}{L:Nat->Prop}{E:List (a_×Wo)}{p:a_×cu}
def nG(e:En):e.cells.length=7:=by
 obtain⟨_,_,_,_,_,w⟩:=e;cases w<;>rfl
def xS(q:a_×Wo):(eA q).length=3:=by
 obtain⟨_,w⟩:=q;cases w<;>rfl
def iI{w:QV}{e:TypeId}{m n:Nat}{α:Type}{F:α->List Xa}{l:List α}(hF:∀a,(F a).length=m)(J:0<m)(h:w.ownsRow 8 e m v n (l.flatMap F)){k:Nat}{a:α}(G:l[k]?=some a):∃g b,v=.slice (some ⟨g,0,none⟩) n b/\g<w.1.size/\∀j u,(F a)[j]?=some u->w.cell? ⟨g,k*m+j,none⟩=some u:=by
 rcases h.2 with⟨rfl,rfl⟩|⟨g,b,I,rfl,_,hb,_⟩
 ·have h1:=h.1;rw[Q6,QG,List.flatMap_eq_nil_iff]at h1;have h2:=hF a;rw[h1 a (aL G)]at h2;simp at h2;omega
 refine⟨g,b,rfl,cj hb,λj u hu=>?_⟩;have:=h.cells (g:=g) rfl _ u (vE F m hF l k a j u G hu);rw[addr_add,aI]at this;exact this
def fW.entry{w:QV}{es:List En}(h:fW w r s rn L es E y B z D C){i:Nat}(m:s.cm[i]?=some p):∃e g b,es[i]?=some e/\o_ w L rn p e/\y=.slice (some ⟨g,0,none⟩) s.cm.length b/\g<w.1.size/\∀j u,e.cells[j]?=some u->w.cell? ⟨g,i*7+j,none⟩=some u:=by
 have hi:=(az.1 m).1;have hi:i<es.length:=by rw[h.kE];exact hi
 have l:es[i]?=some es[i]:=aq hi;obtain⟨g,b,h1,h2,n⟩:=iI nG RZ h.all l;rw[h.kE]at h1;exact⟨_,g,b,l,h.pO i p _ m l,h1,h2,n⟩
def fW.cells{w:QV}{es:List En}(h:fW w r s rn L es E y B z D C):w.cell? ⟨r,0,none⟩=some y/\w.cell? ⟨r,1,none⟩=some (str (cW s.jr))/\w.cell? ⟨r,2,none⟩=some B/\w.cell? ⟨r,3,none⟩=some z/\w.cell? ⟨r,4,none⟩=some D/\w.cell? ⟨r,5,none⟩=some C/\∀o,w.frozen? ⟨r,o,none⟩=false:=by
 have hb:=h.eb;refine⟨?_,?_,?_,?_,?_,?_,λo=>?_⟩
 all_goals simp[World.cell?,World.frozen?,hb]
def fW.L9{w:QV}{es:List En}(h:fW w r s rn L es E y B z D C):∃o c,y=.slice o s.cm.length c:=by
 obtain⟨o,c,e⟩:=dP h.all;rw[h.kE]at e;exact⟨o,c,e⟩
def jb(a b:ba):(a.toList==b.toList)=decide (a.1.1=b.1.1):=by
 rw[UC,UC,QE,P',QF]
def mI(w:QV)(r:Nat)(s:LS)(rn:List (a_))(L:Nat->Prop)(key:ba)(h:fA r s rn w L)(hl:s.cm.length<=1000):Calls Tryz.prog 149 #[ptr r,.string key] w λe w'=>w'=w/\((bY.cr s.cm key.1.1=none/\e=.returned (.int .i64 (-1)))\/∃(i:Nat) (th:cu),s.cm[i]?=some (key.1.1,th)/\bY.cr s.cm key.1.1=some th/\e=.returned (.int .i64 (i:Int))):=by
 obtain⟨es,E,y,B,z,D,C,h⟩:=h;obtain⟨N,_,_,_,_,_,_⟩:=h.cells;obtain⟨o,c,rfl⟩:=h.L9;have I:=bZ h;clear h;unfold ptr;go_enter Tryz.func149,Tryz.ntmps149;go_wp2_with fail
 go_loopw [5] (λiv wr=>∃i:Nat,iv=.int .i64 (i:Int)/\i<=s.cm.length/\wr=w/\Hid (bY.cr s.cm key.1.1=bY.cr (s.cm.drop i) key.1.1)) (λiv _=>s.cm.length-(intOf iv).toNat)
 case atStart=>exact⟨0,rfl,au _,rfl,bZ rfl⟩
 case round =>
  obtain⟨i,rfl,hi,rfl,HL⟩:=hrel;by_cases G:i<s.cm.length
  ·have M:(i:Int)<(s.cm.length:Int):=RM;have j:=aq G;have n:=aR G;generalize s.cm[i]=p at j n;obtain⟨e,g,O,K,u,hv,P,hc⟩:=I.Z.entry j;cases hv;have z0:=hc 0 _ rfl;simp only[Qc]at z0;rw[u.key]at z0;unfold str at z0;obtain⟨x,hx⟩:∃x:ba,(⟨p.1.toArray⟩:ba)=x:=⟨_,rfl⟩;have l:x.1.1=p.1:=Ss;rw[hx]at z0;have F:=jb x key;have m:=bZ (And.intro j n);clear j n u hc K hx;by_cases heq:x.1.1=key.1.1
   ·rw[aS heq]at F;have b:Hid (p.1=key.1.1):=bZ (l.symm.trans heq);clear heq l;go_wp2_with fail;go_ret;refine⟨rfl,.inr ⟨i,p.2,by rw[<-b.Z];exact m.Z.1,?_,rfl⟩⟩;rw[HL.Z,m.Z.2,dV,ag b.Z]
   rw[aF heq]at F;have b:Hid (¬p.1=key.1.1):=bZ (λe=>heq (l.trans e));clear heq l;go_wp2_with fail;refine⟨⟨i+1,by go_num,by omega,by first|rfl|trivial,bZ (by rw[HL.Z,m.Z.2,dV,ae b.Z])⟩,?_⟩;simp[intOf];omega
  have M:¬(i:Int)<(s.cm.length:Int):=RM;have J:Hid (bY.cr s.cm key.1.1=none):=bZ (by rw[HL.Z,aQ RM];rfl);go_wp2_with fail;go_ret;exact⟨rfl,.inl ⟨J.Z,rfl⟩⟩
end Ref
end
section
namespace Ref
section
variable {w w':QV} {b:Nat} {s s':bY.LS} {rn:List (a_)} {L L':Nat->Prop} {es:List En} {B fl':List (a_×bY.Wo)} {j r l z y vF' vB' vR' vN':Xa}
def fW.turn(h:fW w b s rn L es B j r l z y)(u:s'.cm=s.cm)(G:KN w w')(I:∀e∈es,∀g,e.np.ownBlock=some g->w'.1[g]?=w.1[g]?)(E:∀g,j.ownBlock=some g->w'.1[g]?=w.1[g]?)
  (F:w'.1[b]?=some (.cells #[j,str (cW s'.jr),vF',vB',vR',vN'] 101 (0,0))) (n:∀k,L k->L' k) (fresh:w'.ownsRow 8 204 3 vF' fl'.length (fl'.flatMap eA)) (fr:qi s' fl') (b_:dm w' vB' s'.b_) (cE:dm w' vR' s'.cE) (runs:w'.ownsRow 8 199 6 vN' s'.du.length (s'.du.flatMap dB))
  (dK:∀g,vF'.ownBlock=some g\/vB'.ownBlock=some g\/vR'.ownBlock=some g\/vN'.ownBlock=some g->L' g) (apart:∀g,vB'.ownBlock=some g->vR'.ownBlock≠some g) (eV:∀e∈es,∀g,e.np.ownBlock=some g->vF'.ownBlock≠some g) (ct:Typed w' L'):fW w' b s' rn L' es fl' j vF' vB' vR' vN' where
 eb:=F
 here:=n _ h.here
 all:=cD h.all (λg m cs fz hb=>(E g m).trans hb)
 kE:=by rw[u];exact h.kE
 pO i p e D C:=by
  rw[u]at D;exact(h.pO i p e D C).st (λg m _=>I e (aL C) g m) G n
 fresh:=fresh
 fr:=fr
 b_:=b_
 cE:=cE
 runs:=runs
 dK g m:=by
  rcases m with m|m
  ·exact n g (h.dK g (.inl m))
  exact dK g m
 apart:=apart
 eV:=eV
 nodup:=by rw[u];exact h.nodup
 ct:=ct
def fW.Bf(h:fW w b s rn L es B j r l z y):∀e∈es,∀g,e.np.ownBlock=some g->∃cs fz,w.1[g]?=some (.cells cs 204 fz):=λe u g m=>by
 obtain⟨i,hi⟩:=QZ u;have n:=(az.1 hi).1;rw[h.kE]at n;rcases(h.pO i _ e (aq n) hi).kept with⟨_,_,e0⟩|⟨kp,_,_,_,p,_⟩
 ·rw[e0]at m;cases m
 exact cz p m
def fT{k g:Nat}{cs cs':Array Xa}{t t':TypeId}{fz m:Nat×Nat}(h:w.1[k]?=some (.cells cs t fz))(h':w.1[g]?=some (.cells cs' t' m))(n:t≠t'):k≠g:=λe=>by
 rw[e,h']at h;cases h;exact n rfl
def fW.cellOf(h:fW w b s rn L es B j r l z y)(i:Nat)(v:Xa)(J:s'.cm=s.cm)(hcs:(#[j,str (cW s.jr),r,l,z,y]:Array Xa).setIfInBounds i v=#[j,str (cW s'.jr),vF',vB',vR',vN'])
  (fresh:w.ownsRow 8 204 3 vF' fl'.length (fl'.flatMap eA)) (fr:qi s' fl') (b_:dm w vB' s'.b_) (cE:dm w vR' s'.cE) (runs:w.ownsRow 8 199 6 vN' s'.du.length (s'.du.flatMap dB))
  (dK:∀g,vF'.ownBlock=some g\/vB'.ownBlock=some g\/vR'.ownBlock=some g\/vN'.ownBlock=some g->L g) (apart:∀g,vB'.ownBlock=some g->vR'.ownBlock≠some g) (eV:∀e∈es,∀g,e.np.ownBlock=some g->vF'.ownBlock≠some g) :
  fW (w.setCell ⟨b,i,none⟩ v) b s' rn L es fl' j vF' vB' vR' vN'/\ed L w (w.setCell ⟨b,i,none⟩ v):=by
 have F:∀k,k≠b->(w.setCell ⟨b,i,none⟩ v).1[k]?=w.1[k]? := λk p=>UI w ⟨b,i,none⟩ k _ p;have hb:=heap_setCell_same w b i _ _ v h.eb;rw[hcs]at hb;have hty:∀(k:Nat) (cs:Array Xa) (t:TypeId) (fz:Nat×Nat),w.1[k]?=some (.cells cs t fz)->t≠101->(w.setCell ⟨b,i,none⟩ v).1[k]?=w.1[k]? := λk cs t fz p G=>F k (fT p h.eb G);have D:∀{e:TypeId} {m n:Nat} {u:Xa} {xs:List Xa},e≠101->w.ownsRow 8 e m u n xs->(w.setCell ⟨b,i,none⟩ v).ownsRow 8 e m u n xs:=λE M=>cD M (λg C cs fz p=>(hty g _ _ _ p E).trans p);refine⟨h.turn J (λk cs t fz p G=>(hty k cs t fz p (λe=>by rcases G with rfl|rfl<;>cases e)).trans p) (λe E g C=>?_) (λg C=>?_) hb (λ_ h=>h) (D RZ fresh) fr (D RZ b_) (D RZ cE) (D RZ runs) dK apart eV (λk p=>?_),⟨rfl,rfl,rfl,by simp,λk p K=>F k (λe=>K (e▸h.here))⟩⟩
 ·obtain⟨cs,fz,p⟩:=h.Bf e E g C;exact hty g _ _ _ p RZ
 ·obtain⟨cs,fz,p⟩:=cz h.all C;exact hty g _ _ _ p RZ
 by_cases I:k=b
 ·subst I;exact⟨(h.ct k p).1,_,_,_,hb,.inl rfl⟩
 rw[F k I];exact h.ct k p
end
theorem fW.line{w:QV}{b:Nat}{s:bY.LS}{rn:List (a_)}{L:Nat->Prop}{es:List En}{B:List (a_×bY.Wo)}{j r l z y:Xa}(h:fW w b s rn L es B j r l z y)(t:a_):eX (fA b (s.write t) rn) w L (w.setCell ⟨b,1,none⟩ (str (cW s.jr++bY.line t))):=by
 obtain⟨h1,h2⟩:=h.cellOf (s':=s.write t) 1 (str (cW s.jr++bY.line t)) (vF':=r) (vB':=l) (vR':=z) (vN':=y) (fl':=B) rfl (by rw[show(s.write t).jr=s.jr++[t]from rfl,eN];rfl) h.fresh ⟨h.fr.dE,h.fr.len,h.fr.base⟩ h.b_ h.cE h.runs (λg e=>h.dK g (.inr e)) h.apart h.eV;exact⟨L,⟨es,B,j,r,l,z,y,h1⟩,λ_ h=>.inl h,λ_ h=>h,h2⟩
def Df(w:QV)(b:Nat)(s:bY.LS)(rn:List (a_))(L:Nat->Prop)(t:ba)(h:fA b s rn w L)(Q:t.size<=100000000000000000)(hj:(cW s.jr).length<=1000000000000000000):Calls Tryz.prog 105 #[ptr b,.string t] w λe w'=>e=.returned (.tuple #[])/\eX (fA b (s.write t.1.1) rn) w L w':=by
 obtain⟨es,B,j,r,l,z,y,h⟩:=h;obtain⟨I,c1,c2,J,K,M,cf⟩:=h.cells;have P:=cj h.eb;obtain⟨m,u⟩:∃m:ba,str (cW s.jr)=.string m:=⟨_,rfl⟩;have p:=fG u;have O:m.size<=1000000000000000000:=by rw[UB,p];exact hj
 obtain⟨x,hx⟩:∃x:ba,str (bY.line t.1.1)=.string x:=⟨_,rfl⟩;have C:=fG hx;have R:x.size=t.size+10:=by rw[UB,C];rw[bY.lY,UB]
 have n:=h.line t.1.1;have D:str (cW s.jr++bY.line t.1.1)=.string (m++x):=by
  apply lF;rw[dD,p,C]
 rw[D]at n;rw[u]at c1;have HL:=bZ (λw=>xT t w RM);rw[hx]at HL;have F:=bZ (show eX (fA b (s.write t.1.1) rn) w L (w.setCell ⟨b,1,none⟩ (.string (m++x))).drew from eX.post n (Bx.below (Uz _ _).drew) (λL' G=>G.below (Uz _ _).drew));have N:¬9223372036854775807<m.size+x.size:=RM;clear h n D p u hx C hj;unfold ptr;go_enter Tryz.func105,Tryz.ntmps105;go_wp2_with fail
 go_region_with (first|(go_at_call 148;refine(HL.Z _).mono ?_;rintro e w' ⟨rfl,E⟩;obtain rfl:=E.symm;clear E))
 all_goals
  go_wp2_with fail
  go_end0
  exact⟨rfl,F.Z⟩
end Ref
end
section
open Tryz
namespace Ref
variable{c:Cx}{s:bY.LS}{f:Nat}{l:Xa}{M:Nat->Prop}
def jc{ops:Array Oper}{o:Oper}{a:Act}{w:QV}{K:Act->QV->Prop}{Q:Exit->Act->QV->Prop}{E:Prop}
  (D:o.guard=none) (s x:Operand) (t:TypeId) (J:o.op=Op.call { callee:=Callee.builtin Builtin.append,args:=#[s,x],argTypes:=#[t,t] })
  (e:TypeId) (z:Xa) (size bytes:Nat) (P:prog.underlying t=some (.slice e)) (F:(prog.info? e).map (λi=>(i.zero,i.size,i.bytes))=some (some z,size,bytes)) (S:z.cells.size=size) (O:0<size)
  (v:Xa) (n:Nat) (xs:List Xa) (hs:a.eval s=v) (L:w.ownsRow 8 e size v n xs)
  (r:Addr) (c:Nat) (m:List Xa) (hx:a.eval x=.slice (some r) 1 c) (hl:m.length=size) (I:∀j u,m[j]?=some u->w.cell? (r.add j)=some u) (h1:∀u∈m,u.oneCell'=true)
  (C:(n+1)*bytes<=140737488355328) (G:n+1<=maxLen) (y:8<=w.1.size)
  (B:∀g p w',w'.ownsRow 8 e size (.slice (some ⟨g,0,none⟩) (n+1) p) (n+1) (xs++m)->w.grownBy w' v.ownBlock->(v.ownBlock=some g\/g=w.1.size)->(∀b,v.ownBlock=some b->∃cs fz,w'.1[b]?=some (.cells cs e fz))->K (a.put o.dst (.slice (some ⟨g,0,none⟩) (n+1) p)) w') :
  if Region.wanted o (yielded ops a.tmps)=true then Oper.wp prog o a w K Q else E:=by
 have R:Region.wanted o (yielded ops a.tmps)=true:=by simp[Region.wanted,D]
 rw[ag R];obtain⟨g,p,w',N,T,U,V,X⟩:=iE t o.type e z size bytes P F S O v n xs L r c m hl I h1 C G y;unfold Oper.wp;simp[execOp,J,resolve,invoke,builtin,hs,hx,N,Result.andThen];exact B g p w' T U V X
def nH(w:QV)(k:Nat)(cs:List Xa)(T:TypeId):∀j u,cs[j]?=some u->((w.drewN k).alloc (.cells cs.toArray T)).cell? ((⟨w.1.size,0,none⟩:Addr).add j)=some u:=by
 intro j u hj;have b:((w.drewN k).alloc (.cells cs.toArray T)).1[w.1.size]?=some (.cells cs.toArray T):=heap_alloc_new (w.drewN k) (.cells cs.toArray T);rw[addr_add,aI];simp only[World.cell?,b];simpa using hj
def Eg:(prog.info? 204).map (λi=>(i.zero,i.size,i.bytes))=some (some (.agg #[.string ⟨#[]⟩,.int .i64 0,.string ⟨#[]⟩]),3,40):=RO
def MX:(Value.agg #[.string ⟨#[]⟩,.int .i64 0,.string ⟨#[]⟩]).cells.size=3:=RO
def ES.H_{nd:List (a_×bY.Wo)}{w:QV}(h:ES c s nd f l w M):∃L,fA c.rb s c.rn w L/\∀s' w',eX (fA c.rb s' c.rn) w L w'->eX (ES c s' nd f l) w M w':=by
 obtain⟨L,R,h1,h2,C,D,r,u,J,K,N,I⟩:=h;refine⟨L,h1,λs' w' O=>?_⟩;obtain⟨p,z,B,G,m⟩:=O;have F:=u.lt C;have E:∀k,k<w.1.size->¬L k->¬p k:=λk j y hl=>by
  rcases B k hl with h|h
  ·exact y h
  omega
 have P:=KN.ot h1.ct m;refine⟨λk=>M k\/p k,⟨p,R,z,λk j=>.inr j,.inl C,E _ F D,λg n=>⟨.inl (r g n).1,E g (u.lt (r g n).1) (r g n).2⟩,λk j=>?_,(m.block _ F D).trans J,K,cD N (λg n cs fz hb=>(m.block g (cj hb) (r g n).2).trans hb),I.st P⟩,λk j=>?_,λk j=>.inl j,⟨m.os,m.tape,m.output,m.size,λk j y=>m.block k j (λhl=>y (h2 k hl))⟩⟩
 ·by_cases hl:p k
  ·exact z.ct k hl
  rcases j with j|j
  ·have Q:¬L k:=λe=>hl (G k e);obtain⟨a,cs,t,fz,b,d⟩:=u k j;exact⟨a,cs,t,fz,(m.block k (cj b) Q).trans b,d⟩
  exact(hl j).elim
 rcases j with j|j
 ·exact .inl j
 rcases B k j with h|h
 ·exact .inl (h2 k h)
 exact .inr h
def ES.push{nd:List (a_×bY.Wo)}{w:QV}(h:ES c s nd f l w M)(q:a_×bY.Wo):∃m,w.cell? ⟨c.qb,1,none⟩=some m/\(∀o,w.frozen? ⟨c.qb,o,none⟩=false)/\c.qb<w.1.size/\8<=w.1.size/\w.ownsRow 8 204 3 m nd.length (nd.flatMap eA) /\∀w1,Xb w w1->∀g p w2,w2.ownsRow 8 204 3 (.slice (some ⟨g,0,none⟩) (nd.length+1) p) (nd.length+1) (nd.flatMap eA++eA q)->w1.grownBy w2 m.ownBlock->(m.ownBlock=some g\/g=w1.1.size)->(∀b,m.ownBlock=some b->∃cs fz,w2.1[b]?=some (.cells cs 204 fz)) ->(∃v,w2.cell? ⟨c.qb,1,none⟩=some v)/\w2.frozen? ⟨c.qb,1,none⟩=false/\c.qb<w2.1.size/\(∀(k:Nat) (cs:Array Xa),w.1[k]?=some (.cells cs 166 (0,0))->(w2.setCell ⟨c.qb,1,none⟩ (.slice (some ⟨g,0,none⟩) (nd.length+1) p)).1[k]?=some (.cells cs 166 (0,0)))/\eX (ES c s (nd++[q]) f l) w M (w2.setCell ⟨c.qb,1,none⟩ (.slice (some ⟨g,0,none⟩) (nd.length+1) p)):=by
 obtain⟨L,m,h1,h2,B,O,E,r,u,X,G,V⟩:=h;have J:=r.lt B;refine⟨m,by simp[World.cell?,u],λo=>by simp[World.frozen?,u],J,ah (r _ B).1 (aE J),G,λw1 n g p w2 N C K hold=>?_⟩;have R:m.ownBlock≠some c.qb:=λe=>by
  obtain⟨cs,fz,hb⟩:=cz G e;rw[u]at hb;cases hb
 have y:∀k,k<w.1.size->m.ownBlock≠some k->w2.1[k]?=w.1[k]? := λk j I=>(C.block k (aA j n.size) (λe=>I e.symm)).trans (n.block k j);have F:w2.1[c.qb]?=_:=(y _ J R).trans u;have S:w.1.size<=w2.1.size:=ah n.size C.size;refine⟨⟨_,by simp[World.cell?,F];rfl⟩,by simp[World.frozen?,F],aA J S,λk cs j=>?_,?_⟩
 ·have z:k≠c.qb:=λe=>by rw[e,u]at j;cases j
  refine(UI w2 ⟨c.qb,1,none⟩ k _ z).trans ((y k (cj j) (λe=>?_)).trans j);obtain⟨cs',U,hb⟩:=cz G e;rw[j]at hb;cases hb
 have D:∀k,k≠c.qb->(w2.setCell ⟨c.qb,1,none⟩ (.slice (some ⟨g,0,none⟩) (nd.length+1) p)).1[k]?=w2.1[k]? := λk j=>UI w2 ⟨c.qb,1,none⟩ k _ j;have Z:g≠c.qb:=λe=>by
  rcases K with h|h
  ·exact R (e▸h)
  have:=n.size;omega
 have Y:∀k,L k->(w2.setCell ⟨c.qb,1,none⟩ (.slice (some ⟨g,0,none⟩) (nd.length+1) p)).1[k]?=w.1[k]? := λk j=>(D k (λe=>O (e▸j))).trans (y k (r.lt (h2 k j)) (λe=>(E k e).2 j));have Q:KN w (w2.setCell ⟨c.qb,1,none⟩ (.slice (some ⟨g,0,none⟩) (nd.length+1) p)):=λk cs t fz j T=>by
  have z:k≠c.qb:=λe=>by rw[e,u]at j;cases j;rcases T with h|h<;>cases h
  refine(D k z).trans ((y k (cj j) (λe=>?_)).trans j);obtain⟨cs',U,hb⟩:=cz G e;rw[j]at hb;cases hb;rcases T with h|h<;>cases h
 refine⟨λk=>M k\/k=g,⟨L,.slice (some ⟨g,0,none⟩) (nd.length+1) p,h1.st Y Q,λk j=>.inl (h2 k j),.inl B,O,λk j=>?_,λk j=>?_,?_,X,?_,V.st Q⟩,λk j=>?_,λk j=>.inl j,⟨C.os.trans n.os,C.tape.trans n.tape,C.output.trans n.output,by simp;exact S,λk j I=>?_⟩⟩
 ·cases j;refine⟨.inr rfl,λhl=>?_⟩;rcases K with h|h
  ·exact(E g h).2 hl
  have:=r.lt (h2 g hl);have:=n.size;omega
 ·by_cases z:k=c.qb
  ·subst z;obtain⟨a,cs,t,fz,b,d⟩:=r _ B;rw[u]at b;exact⟨a,_,_,_,heap_setCell_same w2 c.qb 1 _ _ _ F,.inr (.inr (.inr (.inr (.inr rfl))))⟩
  rw[D k z];by_cases P:k=g
  ·subst P;obtain⟨cs,fz,hb⟩:=cz N rfl;exact⟨(UH N k rfl).1,cs,_,fz,hb,.inr (.inr (.inl rfl))⟩
  rcases j with j|j
  ·by_cases hv:m.ownBlock=some k
   ·obtain⟨cs,fz,hb⟩:=hold k hv;exact⟨(r k j).1,cs,_,fz,hb,.inr (.inr (.inl rfl))⟩
   rw[y k (r.lt j) hv];exact r k j
  exact(P j).elim
 ·exact heap_setCell_same w2 c.qb 1 _ _ _ F
 ·rw[aj,Qf];exact cD (by simpa using N) (λk j cs fz hb=>by cases j;exact(D g Z).trans hb)
 ·rcases j with j|rfl
  ·exact .inl j
  rcases K with h|h
  ·exact .inl (E k h).1
  rw[h];exact .inr n.size
 exact(D k (λe=>I (e▸B))).trans (y k j (λe=>I (E k e).1))
end Ref
end
section
open bY
namespace Ref
variable{n c:Nat}{s:LS}{e:a_}
structure sO(n:Nat)(s:LS):Prop where
 kb:KB s.cm
 un:Un s<n
 b_:s.b_.length+n<=200
 mM:s.done.length+1000*Rs s+1000*(n+1)<=1000000
 du:s.du.length+Rs s+n+1<=1000
 fs:gn s
 hl:HL s.cm
 ph:Ph s<=1000000000000000000
 br:∀k∈s.b_,k∈bY.dE s.cm
def sO.due{s':LS}(h:sO n s)(b:jg s s' c)(hc:c<=401)(hf:gn s')(l:Ph s'<=Ph s):vM n s' where
 kb:=b.kb h.kb
 un:=by rw[b.un];exact h.un
 b_:=by rw[b.b_];exact h.b_
 mM:=by have:=h.mM;have:=b.mM;omega
 du:=by have:=h.du;have:=b.du;omega
 fs:=hf
 hl:=h.hl.cX b.cX
 ph:=ah l h.ph
 br k j:=by rw[b.dE];rw[b.b_]at j;exact h.br k j
def sO.run{j s':LS}(h:sO n s)(m:jg s j 401)(z:Ph j<=Ph s)(y:qc)(l:jg { j with du:=j.du++[y] } s' c)(hc:c<=400)(hf:gn s')(u:Ph s'<=Ph { j with du:=j.du++[y] }):vM n s':=by
 have r:Rs { j with du:=j.du++[y] }=Rs j:=rfl;have B:Ph { j with du:=j.du++[y] }=Ph j:=rfl;have hu:Un { j with du:=j.du++[y] }=Un j:=rfl;have a:=l.mM;have b:=l.du;rw[r]at a b;have a:s'.done.length+1000*Rs s'<=j.done.length+1000*Rs j+c:=a;have b:s'.du.length+Rs s'<=(j.du++[y]).length+Rs j:=b;rw[aj]at b;simp only[aM,P6]at b;exact{
  kb:=l.kb (m.kb h.kb)
  un:=by rw[l.un,hu,m.un];exact h.un
  b_:=Tv
  mM:=by have:=h.mM;have:=m.mM;omega
  du:=by have:=h.du;have:=m.du;omega
  fs:=hf
  hl:=(h.hl.cX m.cX).cX l.cX
  ph:=by have:=h.ph;omega
  br:=λk p=>by
   rw[l.dE];rw[l.b_]at p;show k∈bY.dE j.cm;rw[m.dE];have p:k∈j.b_:=p;rw[m.b_]at p;exact h.br k p }
def vM.work(h:vM (n+1) s){th:cu}{t:bY.T}(hl:bY.cr s.cm e=some th)(j:th.dc=some t)(hb:s.b_.contains e=false):sO n { s with b_:=s.b_++[e] } where
 kb:=h.kb
 un:=by have:=AA s e (h_ hl (by rw[j];rfl)) hb;have:=h.un;omega
 b_:=by have:=h.b_;show(s.b_++[e]).length+n<=200;simp;omega
 mM:=h.mM
 du:=h.du
 fs:=⟨h.fs.val,h.fs.dc,h.fs.kept,h.fs.done⟩
 hl:=h.hl
 ph:=h.ph
 br k b:=by
  have b:k∈s.b_++[e]:=b;rcases aK.1 b with b|b
  ·exact h.br k b
  rw[P1.1 b];exact h_ hl (by rw[j];rfl)
end Ref
end
