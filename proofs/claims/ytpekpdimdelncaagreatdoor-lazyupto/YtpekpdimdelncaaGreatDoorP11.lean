/- Out of U3. -/
import Derived.Test.YtpekpdimdelncaaGreatDoorP09
import Derived.Test.YtpekpdimdelncaaGreatDoorP08
set_option linter.unusedSimpArgs false
set_option linter.unusedVariables false
set_option maxRecDepth 100000
set_option maxHeartbeats 16000000
set_option linter.defProp false
namespace Go.Proofs.YtpekpdimdelncaaGreatDoor
open Go.RowKit Go.Shelf
section
open Tryz
variable{s x y:Xb}{l:List Xb}{o:Option bY.V}
attribute [local go_sem] ov ow oz oC oD oE oG oH oJ
def kT(w:Xa)(s:Xb)(qs:List Xb):Prop :=(s=.slice none 0 0/\qs=[]) \/∃(b e:Nat) (j:Array Xb) (m:Nat×Nat),s=.slice (some ⟨b,0,none⟩) qs.length e/\qs.length<=e/\w.1[b]?=some (.cells j 121 m)/\e<=j.size/\∀i,i<qs.length->j[i]?=qs[i]?
def hC(w:Xa)(o:Option bY.V)(x:Xb):Prop :=(o=none/\x=.nilIface)\/∃v,o=some v/\cZ w 3 v x
def dN(w:Xa):Nat->bY.T->Xb->Prop
 |0,_,_=>False
 |n+1,t,x=>∃(b:Nat) (i s:Xb) (e:List Xb) (m:Nat×Nat),x=.pointer (some ⟨b,0,none⟩) /\w.1[b]?=some (.cells #[.int .i64 (t.cu:Int),.int .u8 (t.op:Int),.string ⟨t.name.toArray⟩,i,s] 263 m)/\(hC w t.is i/\t.name.length<=200)/\kT w s e/\t.parts.length=e.length /\∀(j:Nat) u q,t.parts[j]?=some u->e[j]?=some q->dN w n u q
def kT.keeps{w w':Xa}(h:kT w s l)(u:cT w w'):kT w' s l:=by
 rcases h with h|⟨b,e,j,m,h1,h2,n,p,r⟩
 ·exact .inl h
 exact .inr ⟨b,e,j,m,h1,h2,u _ _ _ _ n (.inr (.inr rfl)),p,r⟩
def hC.keeps{w w':Xa}(h:hC w o x)(b:cT w w'):hC w' o x:=by
 rcases h with h|⟨v,h1,h2⟩
 ·exact .inl h
 exact .inr ⟨v,h1,h2.keeps b⟩
def dN.keeps{w w':Xa}(e:cT w w'):∀{n:Nat}{t:bY.T}{x:Xb},dN w n t x->dN w' n t x
 |0,_,_,h=>h
 |_+1,_,_,⟨b,i,s,D,p,h1,h2,m,r,z,B⟩ =>
  ⟨b,i,s,D,p,h1,e _ _ _ _ h2 (.inr (.inl rfl)),⟨m.1.keeps e,m.2⟩,r.keeps e,z,λj u q hu C=>dN.keeps e (B j u q hu C)⟩
theorem kT.len{w:Xa}(h:kT w s l):∃o c,s=.slice o l.length c:=by
 rcases h with⟨rfl,rfl⟩|⟨b,e,j,m,rfl,_⟩
 ·simp_all
 grind
theorem kT.cell{w:Xa}{o:Option Addr}{n c:Nat}(h:kT w (.slice o n c) l){i:Nat}(hi:l[i]?=some y):∃b,o=some ⟨b,0,none⟩/\w.cell? ⟨b,i,none⟩=some y:=by
 have m:i<l.length:=by grind
 rcases h with⟨h1,rfl⟩|⟨b,p,r,u,h1,h2,e,z,j⟩
 ·grind
 cases h1;refine⟨b,rfl,?_⟩;simp[World.cell?,e,j i m,hi]
theorem F5(s:ba):((s.extract 0 (bY.tok s.1.1).2).toList==s.toList)=((bY.tok s.1.1).2==s.1.1.length):=by
 have b:=bY.yT s.1.1 0 (ar _);rw[aW,aG]at b;rw[VP,VP,VV,aW,Sn]
 grind
def dT(s w)(g:G w)(B:s.size<=281474976710656):Calls prog 48 #[.string s] w λe C=>e=.returned (.bool (bY.dB s.1.1))/\Xc w C:=by
 have u:=F5 s;have p:=ux s.1.1;have b:=lC s w g B;unfold bY.dB;unfold fF at b;generalize ((bY.tok s.1.1).2==s.1.1.length)=q at u ⊢;generalize pL s.1.1=E at p b;generalize s.extract 0 (bY.tok s.1.1).2=x at u b;generalize (bY.tok s.1.1).1=k at b ⊢;have r:((k==4):Bool)=((k:Int)==4):=by
  by_cases h:k=4
  ·subst h;rfl
  rw[az.2 h];symm;rw[az];omega
 rw[r];have m:=bZ b;clear b r;rcases p with rfl|⟨t,a,rfl⟩
 all_goals
  by_cases n:((k:Int)==4)=true
  ·rw[n,Ru];go_enter func48,ntmps48;go_wp2_with fail;refine b_ m.Z λD j=>?_;clear m;go_wp2;go_ret;exact⟨rfl,j.alloc j.size _⟩
  have z:((k:Int)==4)=false:=T6;rw[z,RS];clear n;go_enter func48,ntmps48;go_wp2_with fail;refine b_ m.Z λD j=>?_;clear m;go_wp2;go_ret;exact⟨rfl,j.alloc j.size _⟩
end
section
open bY
open Tryz
variable{v:V}{y x:Xb}{k:a_}
attribute [local go_sem] ov ow oz oC oD oE oG oH oJ
theorem F6{w:Xa}{n:Nat}(h:cZ w n v y)(j:bY.keyOf v=.ok k):k.length<=200:=by
 rcases h.fY with⟨i,rfl,_,m,h1⟩|⟨b,rfl,_,p⟩|⟨_,l,_,_,_,rfl,_⟩
 ·have e:k=107::Lib.itoa i:=by
   have h2:bY.keyOf (vn i)=.ok (107::Lib.itoa i):=rfl
   grind
  have:=Lib.itoa_length_le i m h1
  grind
 ·have h2:bY.keyOf (vw b.1.1)=if dB b.1.1=true then .ok b.1.1 else .error 9:=rfl;rw[h2]at j;split at j
  ·cases j;have:b.1.1.length=b.size:=S5;omega
  cases j
 have h2:bY.keyOf (vl l)=.error 9:=rfl
 grind
def xU(w)(g:G w)(hx:cZ w 3 v x):Calls prog 282 #[x] w λe D=>Xc w D/\(∀k,bY.keyOf v=.ok k->e=.returned (.string ⟨k.toArray⟩))/\(∀c,bY.keyOf v=.error c->e=gY c/\c=9):=by
 rcases hx.fY with⟨i,rfl,rfl,hi⟩|⟨b,rfl,rfl,F⟩|⟨m,l,s,L,J,rfl,rfl,C,I,E,K⟩
 ·have hlen:=Lib.itoa_length_le i hi.1 hi.2;have p:bY.keyOf (vn i)=.ok (107::Lib.itoa i):=rfl;rw[p];clear hx;go_enter func282,ntmps282;go_wp2_with fail;refine b_ (iH i _ g hi.1 hi.2) λB r=>?_;go_wp2;go_ret;refine⟨r,λk n=>?_,λc j=>by cases j⟩;cases n;exact congrArg (λs=>Ending.returned (.string s)) (qV S5)
 ·have u:=dT b w g R5;have p:bY.keyOf (vw b.1.1)=if dB b.1.1=true then .ok b.1.1 else .error 9:=rfl;rw[p];generalize dB b.1.1=q at u ⊢;have z:=bZ u;clear hx u p;cases q with
  |true =>
   rw[ag rfl];go_enter func282,ntmps282;go_wp2_with(go_at_call 48;refine b_ z.Z λB r=>?_);go_ret;refine⟨r,λk n=>?_,λc j=>by cases j⟩;cases n;exact congrArg (λs=>Ending.returned (.string s)) (qV S5)
  |false =>
   rw[ae S5];go_enter func282,ntmps282;go_wp2_with(go_at_call 48;refine b_ z.Z λB r=>?_);exact⟨rfl,r,λk n=>(by cases n),λc j=>by cases j;exact⟨rfl,rfl⟩⟩
 obtain⟨o,c,rfl⟩:=C.len;have p:bY.keyOf (vl l)=.error 9:=rfl;rw[p];clear hx;go_enter func282,ntmps282;go_wp2;exact⟨rfl,VM _ _,λk n=>(by cases n),λc j=>by cases j;exact⟨rfl,rfl⟩⟩
def xV(E)(ok:gD E)(F b key w)(h:St E F b w)(J:key.size<=200)(G:E.mE b.2+b.1<400):Calls prog 246 #[.pointer (some ⟨E.rb,0,none⟩),.string key] w (PW (Ψ E F w (qa E.N key.1.1 b))):=by
 obtain⟨z,B,l⟩:=h.run;have K:=ok.yields key F b.2 w b.1 z B h.inv l h.g J G;refine(q8 E.rb E.l b.1 E.di z B E.wc E.wi key w (Ψ E F w (qa E.N key.1.1 b)) l (K.mono ?_)).mono ?_
 ·rintro e L⟨rfl,c,i,m,D,p,C,hF,j⟩;exact⟨rfl,_,c,i,D,p,rfl,m,⟨⟨c,i,p⟩,C,j.g h.g ok.AX,(by show E.mE (E.N key.1.1 b.2).2+b.1<=400;have:=ok.Ou key.1.1 b.2;omega)⟩,hF,j⟩
 rintro e L⟨r,⟨M,⟨l,m,u,hF,j⟩,n⟩,I⟩;exact⟨r,⟨l,m,u.below ok n,hF,j.trans (Fm.below n (ah (ah ok.gE (aF u.lt)) (af _)))⟩,I⟩
end
section
open bY
open Tryz
variable{x y:V}{it:Option V}{l:List V}{c:Nat}{f:Int->Int->Except Nat V}{E:Env}{F p:Nat->Prop}{z:Except Nat V}{e:Ending}
def hU(E:Env)(n:Nat):Prop :=∀(t:bY.T) (it:Option V) (x j:Xb) (F:Nat->Prop) (b:Nat×E.σ) (w:Xa),iy n it.isSome t=true->dN w n t x->hC w it j->St E F b w ->Calls prog 203 #[.pointer (some ⟨E.rb,0,none⟩),x,j] w (PW (Ψ E F w (ev E.N n t it b)))
structure Node(w:Xa)(n:Nat)(t:bY.T)(b:Nat)(i:Xb)(o:Option Addr)(m c:Nat):Prop where
 cells:∀w',cT w w'->w'.cell? ⟨b,0,none⟩=some (.int .i64 (t.cu:Int))/\w'.cell? ⟨b,1,none⟩=some (.int .u8 (t.op:Int))/\w'.cell? ⟨b,2,none⟩=some (.string ⟨t.name.toArray⟩)/\w'.cell? ⟨b,3,none⟩=some i/\w'.cell? ⟨b,4,none⟩=some (.slice o m c)
 is:hC w t.is i
 name:t.name.length<=200
 len:t.parts.length=m
 cM:∀j,j<t.parts.length->∃b0 q,o=some ⟨b0,0,none⟩/\(∀w',cT w w'->w'.cell? ⟨b0,j,none⟩=some (.pointer (some q)))/\dN w n (t.cM j) (.pointer (some q))
theorem dN.node{w:Xa}{n:Nat}{t:bY.T}{x:Xb}(h:dN w (n+1) t x):∃b i o m c,x=.pointer (some ⟨b,0,none⟩)/\Node w n t b i o m c:=by
 obtain⟨b,i,s,M,O,rfl,h2,G,u,J,K⟩:=h;obtain⟨o,c,rfl⟩:=u.len;refine⟨b,i,o,_,c,rfl,⟨λN B=>?_,G.1,G.2,J,λj L=>?_⟩⟩
 ·have r:=B _ _ _ _ h2 (.inr (.inl rfl));exact⟨by simp[World.cell?,r],by simp[World.cell?,r],by simp[World.cell?,r],by simp[World.cell?,r],by simp[World.cell?,r]⟩
 obtain⟨q,C⟩:∃q,M[j]?=some q:=⟨_,aq R5⟩;have hu:t.parts[j]?=some (t.cM j):=by
  rw[bY.T.cM,aq L];rfl
 have D:=K j _ _ hu C;have:∃a,q=.pointer (some a):=by
  cases n with
  |zero=>exact D.elim
  |succ n=>obtain⟨b,_,_,_,_,rfl,_⟩:=D;exact⟨_,rfl⟩
 obtain⟨a,rfl⟩:=this;obtain⟨I,rfl,_⟩:=u.cell C;refine⟨I,a,rfl,λN B=>?_,D⟩;obtain⟨b1,e,P⟩:=(u.keeps B).cell C
 grind
theorem hC.form{w:Xa}{b:Xb}(h:hC w it b):b=.nilIface\/∃t a,b=.iface t a:=by
 rcases h with⟨_,rfl⟩|⟨v,_,j⟩
 ·grind
 exact .inr j.one
/-! By what the operations break. -/
theorem vd(h:en l=.error c):0<c/\c<=12:=by
 grind [en]
theorem po(b:∀i j,f i j=.error c->0<c/\c<=12)(h:mO x y f=.error c):0<c/\c<=12:=by
 grind [mO]
theorem I2(h:plus x y=.error c):0<c/\c<=12:=by
 unfold plus at h;split at h
 ·cases h
 ·grind
 ·exact vd h
 grind
theorem I3(h:bY.less x y=.error c):0<c/\c<=12:=by
 grind [bY.less]
theorem Ov(h:gz x y=.error c):0<c/\c<=12:=by
 unfold gz at h;split at h
 ·split at h
  ·split at h
   ·cases h
   rename_i b;cases h;have:=(pP b).2;omega
  ·split at h
   ·cases h
   rename_i b;cases h;have:=(pP b).2;omega
  grind
 grind
theorem ve{op:Nat}(h:bY.make op x y=.error c):0<c/\c<=12:=by
 unfold bY.make at h;split at h
 ·exact I2 h
 split at h
 ·exact po (λi j h=>by cases h) h
 split at h
 ·exact po (λi j h=>by cases h) h
 split at h
 ·refine po (λi j h=>?_) h
  grind
 split at h
 ·exact I3 h
 split at h
 ·cases h
 split at h
 ·exact po (λi j h=>by cases h) h
 split at h
 ·exact po (λi j h=>by cases h) h
 exact Ov h
theorem I4(h:bY.size x=.error c):0<c/\c<=12:=by
 grind [bY.size]
theorem te:∀{l:List V}{a:Int}{c:Nat},fE a l=.error c->0<c/\c<=12
 |[],_,_,h=>by cases h
 |v::r,a,c,h=>by
  unfold fE at h;split at h
  ·exact te h
  grind
theorem F7(h:jW x=.error c):0<c/\c<=12:=by
 unfold jW at h;split at h
 ·exact te h
 grind
theorem C5(h:iu x=.error c):0<c/\c<=12:=by
 grind [iu]
def PW.qc(ok:gD E){n:Nat×E.σ}{w w1 w2:Xa}(m:St E p n w1)(hF:∀k,p k->F k\/w.1.size<=k)(u:Fm E.base w w1)(C:PV w1 z e w2)(j:∀c,z=.error c->0<c/\c<=12):PW (Ψ E F w (z,n)) e w2:=by
 obtain⟨b,B,r⟩:=C;refine⟨z,⟨rfl,p,m.below ok b,hF,u.trans (Fm.below b (ah ok.gE (aF m.lt)))⟩,?_⟩;cases z with
 |ok v=>obtain⟨y,rfl,D⟩:=B v rfl;exact .inl ⟨v,y,rfl,rfl,D⟩
 |error c=>exact .inr ⟨c,rfl,r c rfl,(j c rfl).1,(j c rfl).2⟩
theorem PW.after{w w1 w2:Xa}{q:Except Nat V×(Nat×E.σ)}(hF:∀k,p k->F k\/w.1.size<=k)(b:Fm E.base w w1)(h:PW (Ψ E p w1 q) e w2):PW (Ψ E F w q) e w2:=by
 obtain⟨r,⟨C,j,D,m,u⟩,n⟩:=h;refine⟨r,⟨C,j,D,λk B=>?_,b.trans u⟩,n⟩;rcases m k B with h|h
 ·grind
 exact .inr (ah b.size h)
def kz(E)(ok:gD E)(n)(ih:hU E n)(t it x U F G w)(B:t.cu=5\/t.cu=10\/t.cu=11\/t.cu=12)(hlen:t.parts.length=1)(h0:∀j,j<t.parts.length->iy n it.isSome (t.cM j)=true)(hx:dN w (n+1) t x)(hi:hC w it U)(h:St E F G w):Calls prog 251 #[.pointer (some ⟨E.rb,0,none⟩),x,U] w (PW (Ψ E F w (fZ E.N (λu s=>ev E.N n u it s) t G))):=by
 obtain⟨b,i,o,m,c,rfl,nd⟩:=hx.node;obtain⟨b0,q0,rfl,d0,ap⟩:=nd.cM 0 R5;have ai:=ih _ it _ U F G w (h0 0 R5) ap hi h;have hm:=nd.len;obtain⟨f,Q,ak⟩:∃f:V->Except Nat V,((t.cu=5/\f=bY.make 45 (vn 0))\/(t.cu=10/\f=bY.size)\/(t.cu=11/\f=jW)\/(t.cu=12/\f=iu))/\∀v c,f v=.error c->0<c/\c<=12:=by
  rcases B with B|B|B|B
  ·exact⟨_,.inl ⟨B,rfl⟩,λ_ _ h=>ve h⟩
  ·exact⟨_,.inr (.inl ⟨B,rfl⟩),λ_ _ h=>I4 h⟩
  ·exact⟨_,.inr (.inr (.inl ⟨B,rfl⟩)),λ_ _ h=>F7 h⟩
  exact⟨_,.inr (.inr (.inr ⟨B,rfl⟩)),λ_ _ h=>C5 h⟩
 clear B;have am:fZ E.N (λu s=>ev E.N n u it s) t G=jh (ev E.N n (t.cM 0) it G) λv s=>(f v,s):=by
  unfold fZ;rcases Q with⟨B,rfl⟩|⟨B,rfl⟩|⟨B,rfl⟩|⟨B,rfl⟩<;>rw[B]<;>rfl
 rw[am];obtain⟨Y,_,_,_,c4⟩:=nd.cells w (cT.refl w);have e0:=d0 w (cT.refl w);have ab:=hi.form;have ND:=bZ nd;have L:=bZ ai;generalize ev E.N n (t.cM 0) it G=q at L ⊢;obtain⟨r,ay⟩:=q;generalize aC:E.rb=rb at L;cases r with
 |error Z =>
  rcases Q with⟨B,-⟩|⟨B,-⟩|⟨B,-⟩|⟨B,-⟩<;>rcases ab with rfl|⟨tx,ax,rfl⟩
  all_goals
   rw[B]at Y;go_enter func251,ntmps251;go_wp2_with fail;refine L.Z.mono ?_;rintro e I⟨r,⟨K,P⟩,⟨v,y,D,rfl,S⟩|⟨c1,D,rfl,O⟩⟩
   ·rw[K]at D;cases D
   rw[K]at D;cases D;exact⟨rfl,.error Z,⟨rfl,P⟩,.inr ⟨Z,rfl,rfl,O⟩⟩
 |ok T =>
  show Calls _ _ _ _ (PW (Ψ E F w ((f T,ay))));generalize ao:f T=z;have J:=bZ ao;have ad:=bZ (ak T);rcases Q with⟨B,rfl⟩|⟨B,rfl⟩|⟨B,rfl⟩|⟨B,rfl⟩<;>rcases ab with rfl|⟨tx,ax,rfl⟩
  all_goals
   rw[B]at Y;go_enter func251,ntmps251;go_wp2_with fail;refine L.Z.mono ?_;rintro e I⟨r,⟨K,p,P,hF,aa⟩,⟨v,y,D,rfl,S⟩|⟨c1,D,rfl,O⟩⟩
   ·rw[K]at D;cases D;obtain⟨k0,k1,_,_,k4⟩:=ND.Z.cells I aa.keeps;rw[B]at k0;obtain⟨t1,a1,rfl⟩:=S.one;have N:=bZ S
    first
     |(have C:=LR I N.Z;rw[J.Z]at C;have M:=bZ C)
     |(have C:=Ip I N.Z;rw[J.Z]at C;have M:=bZ C)
     |(have C:=CU I P.g N.Z;rw[J.Z]at C;have M:=bZ C)
     |(have C:=uO 45 S4 I (uJ 0 S4 S4) N.Z;rw[J.Z]at C;have M:=bZ C)
    go_wp2_with fail;refine M.Z.mono ?_;rintro e w2 R;have X:=bZ (PW.qc ok P hF aa R (λc O=>ad.Z c (J.Z.trans O)));cases z with
    |error c =>
     obtain rfl:=R.2.2 c rfl;exact⟨rfl,X.Z⟩
    |ok v2 =>
     obtain⟨y2,rfl,av⟩:=R.2.1 v2 rfl;obtain⟨t2,a2,rfl⟩:=av.one;go_wp2;go_ret;exact X.Z
   rw[K]at D;cases D
def tJ(E)(_ok:gD E)(n)(ih:hU E n)(t it x M F C w)(I:t.cu=6)(hlen:t.parts.length=1)(Y:∀j,j<t.parts.length->iy n it.isSome (t.cM j)=true)(hx:dN w (n+1) t x)(hi:hC w it M)(h:St E F C w):Calls prog 251 #[.pointer (some ⟨E.rb,0,none⟩),x,M] w (PW (Ψ E F w (fZ E.N (λu s=>ev E.N n u it s) t C))):=by
 obtain⟨b,i,o,m,c,rfl,nd⟩:=hx.node;obtain⟨b0,q0,rfl,d0,ab⟩:=nd.cM 0 R5;have Z:=ih _ it _ M F C w (Y 0 R5) ab hi h;have hm:=nd.len;have aa:fZ E.N (λu s=>ev E.N n u it s) t C=jh (ev E.N n (t.cM 0) it C) λv s=>(.ok v,s):=by
  unfold fZ;rw[I];rfl
 rw[aa];obtain⟨V,_,_,_,c4⟩:=nd.cells w (cT.refl w);have e0:=d0 w (cT.refl w);have Q:=hi.form;rw[I]at V;have T:=bZ nd;have G:=bZ Z;generalize ev E.N n _ it C=q at G ⊢;obtain⟨r,ad⟩:=q;generalize ai:E.rb=rb at G;cases r with
 |error N =>
  rcases Q with rfl|⟨tx,U,rfl⟩
  all_goals
   go_enter func251,ntmps251;go_wp2_with fail;refine G.Z.mono ?_;rintro e R⟨r,⟨D,J⟩,⟨v,y,B,rfl,K⟩|⟨X,B,rfl,O⟩⟩
   ·rw[D]at B;cases B
   rw[D]at B;cases B;exact⟨rfl,.error N,⟨rfl,J⟩,.inr ⟨N,rfl,rfl,O⟩⟩
 |ok L =>
  show Calls _ _ _ _ (PW (Ψ E F w ((.ok L,ad))));rcases Q with rfl|⟨tx,U,rfl⟩
  all_goals
   go_enter func251,ntmps251;go_wp2_with fail;refine G.Z.mono ?_;rintro e R⟨r,⟨D,p,J,hF,P⟩,⟨v,y,B,rfl,K⟩|⟨X,B,rfl,O⟩⟩
   ·rw[D]at B;cases B;obtain⟨k0,k1,_,_,k4⟩:=T.Z.cells R P.keeps;rw[I]at k0;obtain⟨t1,a1,rfl⟩:=K.one;have S:=bZ K;go_wp2;go_ret;exact⟨.ok L,⟨rfl,p,J,hF,P⟩,.inl ⟨L,_,rfl,rfl,S.Z⟩⟩
   rw[D]at B;cases B
end
section
open bY
open Tryz
def xn(E)(ok:gD E)(n)(ih:hU E n)(t it x X F p w)(D:t.cu=7)(hlen:t.parts.length=1)(h0:∀j,j<t.parts.length->iy n it.isSome (t.cM j)=true)(hx:dN w (n+1) t x)(hi:hC w it X)(h:St E F p w)(ao:E.mE p.2+p.1<400):Calls prog 251 #[.pointer (some ⟨E.rb,0,none⟩),x,X] w (PW (Ψ E F w (fZ E.N (λu s=>ev E.N n u it s) t p))):=by
 obtain⟨b,i,o,m,c,rfl,nd⟩:=hx.node;obtain⟨b0,q0,rfl,d0,a6⟩:=nd.cM 0 R5;have av:=ih (t.cM 0) it _ X F p w (h0 0 R5) a6 hi h;have aa:=SN (Ot E.N E.mE ok.Ou n (t.cM 0) it p) ao;have hm:=nd.len;have aC:fZ E.N (λu s=>ev E.N n u it s) t p=jh (ev E.N n (t.cM 0) it p) λv s=>match bY.keyOf v with|.ok k=>qa E.N k s|.error e=>(.error e,s):=by
  unfold fZ;rw[D];rfl
 rw[aC];obtain⟨c0,_,_,_,c4⟩:=nd.cells w (cT.refl w);have e0:=d0 w (cT.refl w);have S:=hi.form;rw[D]at c0;have Y:=bZ nd;have J:=bZ av;generalize ev E.N n (t.cM 0) it p=q at J aa ⊢;obtain⟨r,C⟩:=q;have ad:=bZ aa;generalize a4:E.rb=rb at J;have am:=bZ a4;cases r with
 |error e1 =>
  rcases S with rfl|⟨tx,Z,rfl⟩
  all_goals
   go_enter func251,ntmps251;go_wp2_with fail;refine J.Z.mono ?_;rintro e I⟨r,⟨z,B⟩,⟨v,y,l,rfl,G⟩|⟨c1,l,rfl,R⟩⟩
   ·rw[z]at l;cases l
   rw[z]at l;cases l;exact⟨rfl,.error e1,⟨rfl,B⟩,.inr ⟨e1,rfl,rfl,R⟩⟩
 |ok U =>
  cases O:bY.keyOf U with
  |ok k =>
   show Calls _ _ _ _ (PW (Ψ E F w (match bY.keyOf U with|.ok k=>qa E.N k C|.error e=>(.error e,C))));rw[O];show Calls _ _ _ _ (PW (Ψ E F w (qa E.N k C)));have L:=bZ O;rcases S with rfl|⟨tx,Z,rfl⟩
   all_goals
    go_enter func251,ntmps251;go_wp2_with fail;refine J.Z.mono ?_;rintro e I⟨r,⟨z,P,B,hF,K⟩,⟨v,y,l,rfl,G⟩|⟨c1,l,rfl,R⟩⟩
    ·rw[z]at l;cases l;obtain⟨T,k1,_,_,k4⟩:=Y.Z.cells I K.keeps;rw[D]at T;obtain⟨t1,a1,rfl⟩:=G.one;have M:=bZ G;have Q:=bZ (xU I B.g M.Z);go_wp2_with fail;refine Q.Z.mono ?_;rintro e V⟨N,a2,_⟩;obtain rfl:=a2 k L.Z;have a5:=B.below ok N;have a0:=K.trans (Fm.below N (ah ok.gE (aF B.lt)));have hn:=xV E ok P C ⟨k.toArray⟩ V a5 (by have:=F6 M.Z L.Z;show k.toArray.size<=200;simpa using this) ad.Z;rw[am.Z]at hn;have HN:=bZ hn;have ai:=bZ (λ(e:Ending) (w3:Xa) (h:PW (Ψ E P V (qa E.N k C)) e w3)=>PW.after (F:=F) (w:=w) (λk D=>hF k D) a0 h);go_wp2_with fail;refine HN.Z.mono ?_;rintro e w3 hp;have ab:=ai.Z e w3 hp;obtain⟨r3,_,⟨v3,y3,_,rfl,a7⟩|⟨c3,_,rfl,_⟩⟩:=hp
     ·obtain⟨t3,a3,rfl⟩:=a7.one;have ak:=bZ ab;go_wp2;go_ret;exact ak.Z
     exact⟨rfl,ab⟩
    rw[z]at l;cases l
  |error c =>
   show Calls _ _ _ _ (PW (Ψ E F w (match bY.keyOf U with|.ok k=>qa E.N k C|.error e=>(.error e,C))));rw[O];show Calls _ _ _ _ (PW (Ψ E F w (.error c,C)));have L:=bZ O;rcases S with rfl|⟨tx,Z,rfl⟩
   all_goals
    go_enter func251,ntmps251;go_wp2_with fail;refine J.Z.mono ?_;rintro e I⟨r,⟨z,P,B,hF,K⟩,⟨v,y,l,rfl,G⟩|⟨c1,l,rfl,R⟩⟩
    ·rw[z]at l;cases l;obtain⟨T,k1,_,_,k4⟩:=Y.Z.cells I K.keeps;rw[D]at T;obtain⟨t1,a1,rfl⟩:=G.one;have M:=bZ G;have Q:=bZ (xU I B.g M.Z);go_wp2_with fail;refine Q.Z.mono ?_;rintro e V⟨N,_,ay⟩;obtain⟨rfl,a8⟩:=ay c L.Z;exact⟨rfl,PW.qc ok B hF K (PV.err N) (λc' ap=>by cases ap;omega)⟩
    rw[z]at l;cases l
def zl(E)(ok:gD E)(n)(ih:hU E n)(t it x xi F P w)(T:t.cu=9)(hlen:t.parts.length=3)(h0:∀j,j<t.parts.length->iy n it.isSome (t.cM j)=true)(hx:dN w (n+1) t x)(hi:hC w it xi)(h:St E F P w):Calls prog 251 #[.pointer (some ⟨E.rb,0,none⟩),x,xi] w (PW (Ψ E F w (fZ E.N (λu s=>ev E.N n u it s) t P))):=by
 obtain⟨b,i,o,m,c,rfl,nd⟩:=hx.node;obtain⟨b0,q0,rfl,d0,a5⟩:=nd.cM 0 R5;have aC:=ih (t.cM 0) it _ xi F P w (h0 0 R5) a5 hi h;have hm:=nd.len;have a0:fZ E.N (λu s=>ev E.N n u it s) t P=jh (ev E.N n (t.cM 0) it P) λv s=>match fw v with|.ok i=>if i=0 then ev E.N n (t.cM 2) it s else ev E.N n (t.cM 1) it s|.error e=>(.error e,s):=by
  unfold fZ;rw[T];rfl
 rw[a0];obtain⟨c0,_,_,_,c4⟩:=nd.cells w (cT.refl w);have e0:=d0 w (cT.refl w);have aa:=hi.form;rw[T]at c0;have R:=bZ nd;have N:=bZ aC;have IH:=bZ ih;have HI:=bZ hi;generalize ev E.N n (t.cM 0) it P=q at N ⊢;obtain⟨r,C⟩:=q;generalize a4:E.rb=rb at N;have ap:=bZ a4;cases r with
 |error e1 =>
  rcases aa with rfl|⟨tx,ax,rfl⟩
  all_goals
   go_enter func251,ntmps251;go_wp2_with fail;refine N.Z.mono ?_;rintro e G⟨r,⟨I,L⟩,⟨v,y,p,rfl,J⟩|⟨c1,p,rfl,Z⟩⟩
   ·rw[I]at p;cases p
   rw[I]at p;cases p;exact⟨rfl,.error e1,⟨rfl,L⟩,.inr ⟨e1,rfl,rfl,Z⟩⟩
 |ok K =>
  cases B:fw K with
  |ok z =>
   show Calls _ _ _ _ (PW (Ψ E F w (match fw K with|.ok i=>if i=0 then ev E.N n (t.cM 2) it C else ev E.N n (t.cM 1) it C|.error e=>(.error e,C))));rw[B];have Y:=bZ B;by_cases hz:z=0
   ·show Calls _ _ _ _ (PW (Ψ E F w (if z=0 then ev E.N n (t.cM 2) it C else ev E.N n (t.cM 1) it C)));rw[ag hz];subst hz;rcases aa with rfl|⟨tx,ax,rfl⟩
    all_goals
     go_enter func251,ntmps251;go_wp2_with fail;refine N.Z.mono ?_;rintro e G⟨r,⟨I,M,L,hF,D⟩,⟨v,y,p,rfl,J⟩|⟨c1,p,rfl,Z⟩⟩
     ·rw[I]at p;cases p;obtain⟨X,k1,_,_,k4⟩:=R.Z.cells G D.keeps;rw[T]at X;obtain⟨t1,a1,rfl⟩:=J.one;have Q:=bZ J;have B:fw K=.ok 0:=Y.Z;rcases Q.Z.nD with⟨i',rfl,O,_⟩|⟨ak,_⟩
      ·cases B;cases O;obtain⟨bj,qj,ai,dj,am⟩:=R.Z.cM 2 R5;cases ai;have ej:=dj G D.keeps;have V:=IH.Z (t.cM 2) it _ _ M C G (h0 2 R5) (am.keeps D.keeps) (HI.Z.keeps D.keeps) L;rw[ap.Z]at V;have HW:=bZ V;have ab:=bZ (λ(e:Ending) (w3:Xa) (h:PW (Ψ E M G (ev E.N n (t.cM 2) it C)) e w3)=>PW.after (F:=F) (w:=w) hF D h);have a2:(2:Int)<(m:Int):=R5;go_wp2_with(go_at_call 280;refine(eK _ _).mono ?_;rintro e w2 ⟨rfl,rfl⟩);refine HW.Z.mono ?_;rintro e w3 U;have S:=ab.Z e w3 U;obtain⟨r3,_,⟨v3,y3,_,rfl,ao⟩|⟨c3,_,rfl,_⟩⟩:=U
       ·obtain⟨t3,a3,rfl⟩:=ao.one;have ad:=bZ S;go_wp2;go_ret;exact ad.Z
       exact⟨rfl,S⟩
      exfalso;rcases K with⟨k|b|l⟩
      ·exact ak k rfl
      ·cases B
      cases B
     rw[I]at p;cases p
   show Calls _ _ _ _ (PW (Ψ E F w (if z=0 then ev E.N n (t.cM 2) it C else ev E.N n (t.cM 1) it C)));rw[ae hz];have a6:(z != 0)=true:=by rw[Q5];exact hz
   rcases aa with rfl|⟨tx,ax,rfl⟩
   all_goals
    go_enter func251,ntmps251;go_wp2_with fail;refine N.Z.mono ?_;rintro e G⟨r,⟨I,M,L,hF,D⟩,⟨v,y,p,rfl,J⟩|⟨c1,p,rfl,Z⟩⟩
    ·rw[I]at p;cases p;obtain⟨X,k1,_,_,k4⟩:=R.Z.cells G D.keeps;rw[T]at X;obtain⟨t1,a1,rfl⟩:=J.one;have Q:=bZ J;have B:fw K=.ok z:=Y.Z;rcases Q.Z.nD with⟨i',rfl,O,_⟩|⟨ak,_⟩
     ·cases B;cases O;obtain⟨bj,qj,ai,dj,am⟩:=R.Z.cM 1 R5;cases ai;have ej:=dj G D.keeps;have V:=IH.Z (t.cM 1) it _ _ M C G (h0 1 R5) (am.keeps D.keeps) (HI.Z.keeps D.keeps) L;rw[ap.Z]at V;have HW:=bZ V;have ab:=bZ (λ(e:Ending) (w3:Xa) (h:PW (Ψ E M G (ev E.N n (t.cM 1) it C)) e w3)=>PW.after (F:=F) (w:=w) hF D h);have a2:(1:Int)<(m:Int):=R5;go_wp2_with(go_at_call 280;refine(eK _ _).mono ?_;rintro e w2 ⟨rfl,rfl⟩);refine HW.Z.mono ?_;rintro e w3 U;have S:=ab.Z e w3 U;obtain⟨r3,_,⟨v3,y3,_,rfl,ao⟩|⟨c3,_,rfl,_⟩⟩:=U
      ·obtain⟨t3,a3,rfl⟩:=ao.one;have ad:=bZ S;go_wp2;go_ret;exact ad.Z
      exact⟨rfl,S⟩
     exfalso;rcases K with⟨k|b|l⟩
     ·exact ak k rfl
     ·cases B
     cases B
    rw[I]at p;cases p
  |error c =>
   show Calls _ _ _ _ (PW (Ψ E F w (match fw K with|.ok i=>if i=0 then ev E.N n (t.cM 2) it C else ev E.N n (t.cM 1) it C|.error e=>(.error e,C))));rw[B];have ay:c=9:=by
    rcases K with⟨k|b|l⟩<;>cases B<;>rfl
   subst ay;show Calls _ _ _ _ (PW (Ψ E F w (.error 9,C)));have Y:=bZ B;rcases aa with rfl|⟨tx,ax,rfl⟩
   all_goals
    go_enter func251,ntmps251;go_wp2_with fail;refine N.Z.mono ?_;rintro e G⟨r,⟨I,M,L,hF,D⟩,⟨v,y,p,rfl,J⟩|⟨c1,p,rfl,Z⟩⟩
    ·rw[I]at p;cases p;obtain⟨X,k1,_,_,k4⟩:=R.Z.cells G D.keeps;rw[T]at X;obtain⟨t1,a1,rfl⟩:=J.one;have Q:=bZ J;have B:fw K=.error 9:=Y.Z;rcases Q.Z.nD with⟨i',rfl,O,_⟩|⟨_,t',a',O,ht⟩
     ·cases B
     cases O;go_wp2_with fail;refine(gC _ _ _ ht).mono ?_;rintro e w2⟨rfl,rfl⟩;exact⟨rfl,PW.qc ok L hF D (PV.err (VM _ _)) (λc' av=>by cases av;omega)⟩
    rw[I]at p;cases p
def lM(E)(ok:gD E)(n)(ih:hU E n)(t it x xi F st w)(D:t.cu=1\/t.cu=13)(hlen:t.parts.length=2)(h0:∀j,j<t.parts.length->iy n it.isSome (t.cM j)=true)(a8:t.op=43\/t.op=45\/t.op=42\/t.op=47\/t.op=60\/t.op=61\/t.op=109\/t.op=120\/t.op=64)(hx:dN w (n+1) t x)(hi:hC w it xi)(h:St E F st w):Calls prog 251 #[.pointer (some ⟨E.rb,0,none⟩),x,xi] w (PW (Ψ E F w (fZ E.N (λu s=>ev E.N n u it s) t st))):=by
 rcases D with D|D
 all_goals
  obtain⟨b,i,o,m,c,rfl,nd⟩:=hx.node;obtain⟨b0,q0,rfl,d0,bg⟩:=nd.cM 0 R5;have a6:=ih (t.cM 0) it _ xi F st w (h0 0 R5) bg hi h;have hm:=nd.len;have a7:fZ E.N (λu s=>ev E.N n u it s) t st=jh (ev E.N n (t.cM 0) it st) λv s=>jh (ev E.N n (t.cM 1) it s) λu s=>(bY.make t.op v u,s):=by
   unfold fZ;rw[D];rfl
  rw[a7];obtain⟨c0,_,_,_,c4⟩:=nd.cells w (cT.refl w);have e0:=d0 w (cT.refl w);have bn:(0:Int)<(m:Int):=R5;have bk:=hi.form;rw[D]at c0;have J:=bZ nd;have O:=bZ a6;have IH:=bZ ih;have HI:=bZ hi;clear a6 a7 nd d0 bg hx ih hi;generalize ev E.N n (t.cM 0) it st=q at O ⊢;obtain⟨r,ao⟩:=q;generalize bd:E.rb=rb at O;have aC:=bZ bd;clear bd;cases r with
  |error e1 =>
   rcases bk with rfl|⟨tx,ax,rfl⟩
   all_goals
    go_enter func251,ntmps251;go_wp2_with fail;refine O.Z.mono ?_;rintro e l⟨r,⟨C,G⟩,⟨v,y,p,rfl,I⟩|⟨c1,p,rfl,T⟩⟩
    ·rw[C]at p;cases p
    rw[C]at p;cases p;exact⟨rfl,.error e1,⟨rfl,G⟩,.inr ⟨e1,rfl,rfl,T⟩⟩
  |ok v1 =>
   show Calls _ _ _ _ (PW (Ψ E F w (jh (ev E.N n (t.cM 1) it ao) λu s=>(bY.make t.op v1 u,s))));generalize a9:ev E.N n (t.cM 1) it ao=q2;obtain⟨r2,ap⟩:=q2;have ay:=bZ a9;clear a9;cases r2 with
   |error e2 =>
    show Calls _ _ _ _ (PW (Ψ E F w (.error e2,ap)));go_enter func251,ntmps251;go_wp2_with fail;refine O.Z.mono ?_;rintro e l⟨r,⟨C,P,G,hF,L⟩,⟨v,y,p,rfl,I⟩|⟨c1,p,rfl,T⟩⟩
    ·rw[C]at p;cases p;obtain⟨k0,k1,_,_,k4⟩:=J.Z.cells l L.keeps;rw[D]at k0;obtain⟨t1,a1,rfl⟩:=I.one;have HV:=bZ I;clear O I C;obtain⟨bj,qj,ab,R,Z⟩:=J.Z.cM 1 R5;cases ab;have ej:=R l L.keeps;have N:Xc l l.drew:=(VM _ l).drew;have Y:=G.below ok N;have B:Fm E.base w l.drew:=L.trans (Fm.below N (ah ok.gE (aF G.lt)));have S:∀k,P k->F k\/w.1.size<=k:=hF;have M:=IH.Z (t.cM 1) it _ _ P ao l.drew (h0 1 R5) (Z.keeps B.keeps) (HI.Z.keeps B.keeps) Y;rw[aC.Z,ay.Z]at M;have bc:(1:Int)<(m:Int):=R5;have HW:=bZ (M.mono (R':=λe w3=>e=gY e2/\PW (Ψ E F w (.error e2,ap)) (gY e2) w3) (λe w3 hp=>by
      have U:=PW.after S B hp;obtain⟨r3,⟨X,_⟩,⟨v3,y3,z,_⟩|⟨c3,z,rfl,_⟩⟩:=hp
      ·rw[X]at z;cases z
      ·rw[X]at z;cases z;exact⟨rfl,U⟩))
     clear M R Z IH J HI h0 Y B S;go_wp2_with fail
     go_region_with (go_at_call 203;refine HW.Z.mono ?_;rintro e w3 ⟨rfl,U⟩;refine LL (md:=.text) (a:=⟨#[],[]⟩) (w:=w) ⟨rfl,U⟩ ?_)
     all_goals trivial
    rw[C]at p;cases p
   |ok u2 =>
    show Calls _ _ _ _ (PW (Ψ E F w (bY.make t.op v1 u2,ap)));generalize bf:bY.make t.op v1 u2=bm;have av:=bZ bf;clear bf;cases bm with
    |error c2 =>
     go_enter func251,ntmps251;go_wp2_with fail;refine O.Z.mono ?_;rintro e l⟨r,⟨C,P,G,hF,L⟩,⟨v,y,p,rfl,I⟩|⟨c1,p,rfl,T⟩⟩
     ·rw[C]at p;cases p;obtain⟨k0,k1,_,_,k4⟩:=J.Z.cells l L.keeps;rw[D]at k0;obtain⟨t1,a1,rfl⟩:=I.one;have HV:=bZ I;clear O I C;obtain⟨bj,qj,ab,R,Z⟩:=J.Z.cM 1 R5;cases ab;have ej:=R l L.keeps;have N:Xc l l.drew:=(VM _ l).drew;have Y:=G.below ok N;have B:Fm E.base w l.drew:=L.trans (Fm.below N (ah ok.gE (aF G.lt)));have S:∀k,P k->F k\/w.1.size<=k:=hF;have M:=IH.Z (t.cM 1) it _ _ P ao l.drew (h0 1 R5) (Z.keeps B.keeps) (HI.Z.keeps B.keeps) Y;rw[aC.Z,ay.Z]at M;have bc:(1:Int)<(m:Int):=R5;have HW:=bZ (M.mono (R':=λe w3=>∃t2 K,e=.returned (.iface t2 K)/\w3.cell? ⟨b,1,none⟩=some (.int .u8 (t.op:Int))/\Hid (Calls prog 281 #[.int .u8 (t.op:Int),.iface t1 a1,.iface t2 K] w3 λe w4=>(∀c,(Except.error c2:Except Nat V)=.error c->e=gY c)/\(∀vv,(Except.error c2:Except Nat V)=.ok vv->∃t4 Q,e=.returned (.iface t4 Q))/\PW (Ψ E F w (.error c2,ap)) e w4)) (λe w3 hp=>by
       obtain⟨r3,⟨X,F3,a3,a0,ad⟩,⟨v3,y3,z,rfl,am⟩|⟨c3,z,rfl,_⟩⟩:=hp
       ·rw[X]at z;cases z;obtain⟨t2,K,rfl⟩:=am.one;have ai:=B.trans ad;refine⟨t2,K,rfl,(J.Z.cells w3 ai.keeps).2.1,?_⟩;have ak:=uO t.op a8 w3 (HV.Z.keeps ((Fm.below N (ah ok.gE (aF G.lt)):Fm E.base l l.drew).trans ad).keeps) am;rw[av.Z]at ak;exact ak.mono λe w4 aa=>⟨aa.2.2,λvv a5=>by obtain⟨y,rfl,hy⟩:=aa.2.1 vv a5;obtain⟨t4,Q,rfl⟩:=hy.one;exact⟨t4,Q,rfl⟩,PW.qc ok a3 (λk D=>by
         rcases a0 k D with h'|h'
         ·exact S k h'
         ·exact .inr (ah B.size h')) ai aa (λc T=>ve (av.Z.trans T))⟩
       ·rw[X]at z;cases z))
      clear M R Z IH J HI h0 Y B S;go_wp2_with fail
      go_region_with (first|(go_at_call 203;refine HW.Z.mono ?_;clear HW;rintro e w3 ⟨t2,K,rfl,bl,HM⟩)|(go_at_call 281;refine HM.Z.mono ?_;rintro e w4 ⟨he,_,U⟩;obtain rfl:=he _ rfl;refine LL (md:=.text) (a:=⟨#[],[]⟩) (w:=w) ⟨rfl,U⟩ ?_))
      all_goals trivial
     rw[C]at p;cases p
    |ok v2 =>
     go_enter func251,ntmps251;go_wp2_with fail;refine O.Z.mono ?_;rintro e l⟨r,⟨C,P,G,hF,L⟩,⟨v,y,p,rfl,I⟩|⟨c1,p,rfl,T⟩⟩
     ·rw[C]at p;cases p;obtain⟨k0,k1,_,_,k4⟩:=J.Z.cells l L.keeps;rw[D]at k0;obtain⟨t1,a1,rfl⟩:=I.one;have HV:=bZ I;clear O I C;obtain⟨bj,qj,ab,R,Z⟩:=J.Z.cM 1 R5;cases ab;have ej:=R l L.keeps;have N:Xc l l.drew:=(VM _ l).drew;have Y:=G.below ok N;have B:Fm E.base w l.drew:=L.trans (Fm.below N (ah ok.gE (aF G.lt)));have S:∀k,P k->F k\/w.1.size<=k:=hF;have M:=IH.Z (t.cM 1) it _ _ P ao l.drew (h0 1 R5) (Z.keeps B.keeps) (HI.Z.keeps B.keeps) Y;rw[aC.Z,ay.Z]at M;have bc:(1:Int)<(m:Int):=R5;have HW:=bZ (M.mono (R':=λe w3=>∃t2 K,e=.returned (.iface t2 K)/\w3.cell? ⟨b,1,none⟩=some (.int .u8 (t.op:Int))/\Hid (Calls prog 281 #[.int .u8 (t.op:Int),.iface t1 a1,.iface t2 K] w3 λe w4=>(∀c,(Except.ok v2:Except Nat V)=.error c->e=gY c)/\(∀vv,(Except.ok v2:Except Nat V)=.ok vv->∃t4 Q,e=.returned (.iface t4 Q))/\PW (Ψ E F w (.ok v2,ap)) e w4)) (λe w3 hp=>by
       obtain⟨r3,⟨X,F3,a3,a0,ad⟩,⟨v3,y3,z,rfl,am⟩|⟨c3,z,rfl,_⟩⟩:=hp
       ·rw[X]at z;cases z;obtain⟨t2,K,rfl⟩:=am.one;have ai:=B.trans ad;refine⟨t2,K,rfl,(J.Z.cells w3 ai.keeps).2.1,?_⟩;have ak:=uO t.op a8 w3 (HV.Z.keeps ((Fm.below N (ah ok.gE (aF G.lt)):Fm E.base l l.drew).trans ad).keeps) am;rw[av.Z]at ak;exact ak.mono λe w4 aa=>⟨aa.2.2,λvv a5=>by obtain⟨y,rfl,hy⟩:=aa.2.1 vv a5;obtain⟨t4,Q,rfl⟩:=hy.one;exact⟨t4,Q,rfl⟩,PW.qc ok a3 (λk D=>by
         rcases a0 k D with h'|h'
         ·exact S k h'
         ·exact .inr (ah B.size h')) ai aa (λc T=>ve (av.Z.trans T))⟩
       ·rw[X]at z;cases z))
      clear M R Z IH J HI h0 Y B S;go_wp2_with fail
      go_region_with (first|(go_at_call 203;refine HW.Z.mono ?_;clear HW;rintro e w3 ⟨t2,K,rfl,bl,HM⟩)|(go_at_call 281;refine HM.Z.mono ?_;rintro e w4 ⟨_,ho,U⟩;obtain⟨t4,Q,rfl⟩:=ho _ rfl;have bh:=bZ U;clear U ho HM))
      all_goals go_wp2_with fail
      all_goals go_ret
      all_goals exact bh.Z
     rw[C]at p;cases p
end
section
open Tryz
variable{t:bY.T}{x fz:Nat×Nat}{p lo':Nat}{q:Addr}{ts:List bY.T}{s:ba}{e:Ending}
def dN.up{w:Xa}:∀{n:Nat}{t:bY.T}{x:Xb},dN w n t x->dN w (n+1) t x
 |0,_,_,h=>h.elim
 |_+1,_,_,⟨b,i,s,B,fz,h1,h2,l,m,r,y⟩=>⟨b,i,s,B,fz,h1,h2,l,m,r,λj u q hu z=>dN.up (y j u q hu z)⟩
def dN.le{w:Xa}{n m:Nat}{x:Xb}(h:dN w n t x)(b:n<=m):dN w m t x:=by
 induction b with
 |refl=>exact h
 |step _ j=>exact j.up
def Dz(w:Xa)(t:bY.T)(q:Addr):Prop:=∃h,dN w h t (.pointer (some q))
def KO(p:Nat)(row:Option Nat)(w w':Xa):Prop :=∀k,p<=k->row≠some k->∀(b:Array Xb) (t:TypeId) (fz:Nat×Nat),w.1[k]?=some (.cells b t fz)->Ho t->w'.1[k]?=some (.cells b t fz)
def TF(p:Nat)(row:Option Nat)(w:Xa)(t:bY.T)(q:Addr):Prop:=∀b,KO p row w b->Dz b t q
def KO.keeps{row:Option Nat}{w w':Xa}(h:cT w w'):KO p row w w':=λk _ _ b t fz j l=>h k b t fz j l
def KO.trans{row row':Option Nat}{a b c:Xa}(h:KO p row a b)(y:∀k,row'=some k->row=some k\/a.1.size<=k)(u:KO p row' b c):KO p row a c :=λk m n j t fz l r=>u k m (λe=>by
  rcases y k e with h1|h1
  ·exact n h1
  ·have:=cj l;omega) j t fz (h k m n j t fz l r) r
def TF.move{row row':Option Nat}{w w':Xa}(h:TF p row w t q)(b:KO p row w w')(j:∀k,row'=some k->row=some k\/w.1.size<=k):TF p row' w' t q :=λl h2=>h l (b.trans j h2)
def TF.keeps{row:Option Nat}{w w':Xa}(h:TF p row w t q)(b:cT w w'):TF p row w' t q:=h.move (KO.keeps b) (λ_ e=>.inl e)
def TF.mono{row:Option Nat}{w:Xa}(h:TF p row w t q)(l:lo'<=p):TF lo' row w t q:=λm b=>h m (λk j=>b k (ah l j))
def TF.row{p:Nat}{row:Option Nat}{w:Xa}{t:bY.T}{q:Addr}(h:TF p none w t q)(l:∀k,row=some k->k<p):TF p row w t q:=λm b=>h m (λk j _=>b k j (λe=>by have:=l k e;omega))
def TF.drop{row:Option Nat}{w:Xa}(h:TF p row w t q):TF p none w t q:=λl b=>h l (λk j _=>b k j (λe=>by cases e))
def qh(p:Nat)(row:Option Nat)(w:Xa)(ts:List bY.T)(s:Xb):Prop :=∀l,KO p row w l->∃b,kT l s b/\ts.length=b.length/\∀(j:Nat) u q,ts[j]?=some u->b[j]?=some q->∃h,dN l h u q
def qh.move{row row':Option Nat}{w w':Xa}{s:Xb}(h:qh p row w ts s)(b:KO p row w w')(j:∀k,row'=some k->row=some k\/w.1.size<=k):qh p row' w' ts s :=λl h2=>h l (b.trans j h2)
def qh.mono{row:Option Nat}{w:Xa}{s:Xb}(h:qh p row w ts s)(l:lo'<=p):qh lo' row w ts s:=λm b=>h m (λk j=>b k (ah l j))
theorem qh.nil(p row w):qh p row w [] (.slice none 0 0):=λb _=>⟨[],.inl ⟨rfl,rfl⟩,rfl,λj u q hu=>by simp at hu⟩
def qh.mk{p b l:Nat}{row:Option Nat}{w:Xa}{ts:List bY.T}{qs:List Xb}{cs:Array Xb}{fz:Nat×Nat}(r:w.1[b]?=some (.cells cs 121 fz))(B:p<=b)(C:row≠some b)(hlen:ts.length=qs.length)(y:qs.length<=l)(z:l<=cs.size)(m:∀i,i<qs.length->cs[i]?=qs[i]?)
  (D:∀(j:Nat) u x,ts[j]?=some u->qs[j]?=some x->∃q,x=.pointer (some q)/\TF p row w u q):qh p row w ts (.slice (some ⟨b,0,none⟩) qs.length l) :=λE n=>⟨qs,.inr ⟨b,l,cs,fz,rfl,y,n b B C _ _ _ r (.inr (.inr rfl)),z,m⟩,hlen,λj u q hu m=>by
  obtain⟨F,rfl,h1⟩:=D j u q hu m;exact h1 E n⟩
theorem EY{w:Xa}:∀(ts:List bY.T) (b:List Xb),ts.length=b.length->(∀(j:Nat) u q,ts[j]?=some u->b[j]?=some q->∃h,dN w h u q)->∃h,∀(j:Nat) u q,ts[j]?=some u->b[j]?=some q->dN w h u q
 |[],_,_,_=>⟨0,λj u q hu=>by simp at hu⟩
 |t::ts,[],h,_=>by grind
 |t::ts,q::b,h,H=>by
  obtain⟨h1,m⟩:=H 0 t q rfl rfl;obtain⟨h2,n⟩:=EY ts b Ts (λj u q hu l=>H (j+1) u q (by simpa using hu) (by simpa using l));refine⟨max h1 h2,λj u r hu l=>?_⟩;cases j with
  |zero=>cases hu;cases l;exact m.le (Sy _ _)
  |succ j=>exact(n j u r (by simpa using hu) (by simpa using l)).le (Sz _ _)
def TF.node{b:Nat}{row:Option Nat}{w:Xa}{i s:Xb}(u:w.1[b]?=some (.cells #[.int .i64 t.cu,.int .u8 t.op,.string ⟨t.name.toArray⟩,i,s] 263 fz))(y:p<=b)(B:row≠some b)(hi:∀w,hC w t.is i)(z:t.name.length<=200)(C:qh p row w t.parts s):TF p row w t ⟨b,0,none⟩ :=λm j=>by
  obtain⟨l,h1,h2,n⟩:=C m j;obtain⟨h,r⟩:=EY t.parts l h2 n;exact⟨h+1,b,i,s,l,fz,rfl,j b y B _ _ _ u (.inr (.inl rfl)),⟨hi m,z⟩,h1,h2,r⟩
def dt(s:ba)(b l m p:Nat)(w:Xa)(r:bY.RT)(e:Ending)(w':Xa):Prop :=w.grownBy w' (some b)/\(∀j ts,r=.ok (j,ts)->(∃q t,ts=[t]/\e=.returned (.pointer (some q))/\TF p none w' t q)/\iI w' s b j l m)/\(∀x,r=.error x->e=refusal x.1 x.2)
def dt.ok{b l m p j:Nat}{w w':Xa}(h:dt s b l m p w (.ok (j,ts)) e w'):w.grownBy w' (some b)/\(∃q t,ts=[t]/\e=.returned (.pointer (some q))/\TF p none w' t q)/\iI w' s b j l m :=⟨h.1,h.2.1 j ts rfl⟩
def dt.err{b j l p:Nat}{w w':Xa}(h:dt s b j l p w (.error x) e w'):w.grownBy w' (some b)/\e=refusal x.1 x.2 :=⟨h.1,h.2.2 x rfl⟩
def dt.kP{b l m p j:Nat}{w w':Xa}(h:w.grownBy w' (some b))(r:iI w' s b j l m)(u:TF p none w' t q):dt s b l m p w (.ok (j,[t])) (.returned (.pointer (some q))) w' :=⟨h,λk ts n=>(by cases n;exact⟨⟨q,t,rfl,rfl,u⟩,r⟩),λx hx=>TW⟩
def dt.fy{b j n p:Nat}{w w':Xa}(h:w.grownBy w' (some b)):dt s b j n p w (.error x) (refusal x.1 x.2) w' :=⟨h,λk ts l=>(by cases l),λy m=>(by cases m;rfl)⟩
def Bp(s:ba)(f b j l i:Nat)(r:bY.RT):Prop :=∀w:Xa,G w->iI w s b i j l->Calls prog f #[.pointer (some ⟨b,0,none⟩)] w (dt s b j l w.1.size w r)
def iI.kp{w w':Xa}{j i deep its:Nat}(h:iI w s j i deep its)(l:w.grownBy w' (some j)):cT w w':=kM l (λm t fz b=>by
 rw[iI]at h;rw[h]at b;cases b;rintro(h|h|h)<;>cases h)
def jB(w o):cT w (w.alloc o):=cT.below ((VM _ w).alloc (af _) o)
def MA(w):hC w none .nilIface:=.inl ⟨rfl,rfl⟩
theorem JV{w:Xa}{t1 t2:bY.T}{b l:Addr}(op:Nat)(n:p<=w.1.size)(h1:TF p none w t1 b)(h2:TF p none w t2 l):TF p none ((w.alloc (.cells #[.pointer (some b),.pointer (some l)] 121)).alloc (.cells #[.int .i64 1,.int .u8 op,.string ⟨#[]⟩,.nilIface,.slice (some ⟨w.1.size,0,none⟩) 2 2] 263)) ⟨1,op,[],none,[t1,t2]⟩ ⟨w.1.size+1,0,none⟩:=by
 have k1:=jB w (.cells #[.pointer (some b),.pointer (some l)] 121);have k2:=jB (w.alloc (.cells #[.pointer (some b),.pointer (some l)] 121)) (.cells #[.int .i64 1,.int .u8 (op:Int),.string ⟨#[]⟩,.nilIface,.slice (some ⟨w.1.size,0,none⟩) 2 2] 263);refine TF.node (fz:=(0,0)) ?_ R5 (λe=>by cases e) MA (ar _) (qh.mk (qs:=[.pointer _,.pointer _]) ((VR _ _ _ S5).trans (heap_alloc_new w _)) n (λe=>by cases e) rfl (af _) (af _) (λi hi=>by simp) ?_)
 ·have:=heap_alloc_new (w.alloc (.cells #[.pointer (some b),.pointer (some l)] 121)) (.cells #[.int .i64 1,.int .u8 (op:Int),.string ⟨#[]⟩,.nilIface,.slice (some ⟨w.1.size,0,none⟩) 2 2] 263)
  simp_all
 intro j u q hu m
 match j with
 |0=>simp at hu m;subst hu m;exact⟨_,rfl,(h1.keeps k1).keeps k2⟩
 |1=>simp at hu m;subst hu m;exact⟨_,rfl,(h2.keeps k1).keeps k2⟩
 |j+2=>simp at hu
theorem DA(s:ba)(i k)(h:0<(s.extract i (i+k)).size):((s.extract i (i+k))[0]'h).toNat=(((s.1.1.drop i).take k).headD 0).toNat:=by
 have hd:(s.extract i (i+k)).1.1=(s.1.1.drop i).take k:=by
  simp_all
 rw[<-hd];generalize s.extract i _=x at h;obtain⟨⟨l⟩⟩:=x;cases l with
 |nil=>exact absurd h S4
 |cons a l=>rfl
def mG(s f l i m n q t p w)(N:p<=w.1.size)(g:G w)(h:iI w s l i m n)(F:TF p none w t q)(J:s.size<=281474976710656)(hi:i<=s.size)(E:8<=l)(D:f=131\/f=173\/f=212)(O:1<=(bY.tok (s.1.1.drop i)).2)(r)(H:Bp s f l m n (bY.fX s.1.1 i) r):Calls prog 133 #[.pointer (some ⟨l,0,none⟩),.pointer (some q),.func (.func f) #[.pointer (some ⟨l,0,none⟩)] #[]] w (dt s l m n p w (bY.dh r λj y=>.ok (j,[bY.jb s.1.1 i [t] y]))):=by
 have M:i+(bY.tok (s.1.1.drop i)).2<=s.size:=by
  have:=bY.yT s.1.1 i Tt;simpa using this
 have P:(s.extract i (i+(bY.tok (s.1.1.drop i)).2)).size=(bY.tok (s.1.1.drop i)).2:=by
  rw[Sq];omega
 have z:=bZ H;have B:=bZ F;have L:∀(a b c d:Xb) (w:Xa),(Instr.field 172 (.agg #[a,b,c,d]) 1).run prog w=.ok b w:=λ_ _ _ _ _=>by kernel_rfl
 rcases D with rfl|rfl|rfl
 all_goals
  go_enter func133,ntmps133;go_wp2_with fail;refine b_ (mM s l i m n _ g h J hi) λT ⟨h1,f1⟩=>?_;unfold oO;go_wp2_with fail
 all_goals
  refine(z.Z _ (g.fr f1 E) h1).mono ?_;rintro e U u
 all_goals rcases r with x|⟨j,y⟩
 all_goals try
  obtain⟨f2,rfl⟩:=dt.err u;exact⟨rfl,dt.fy (Fr.trans f1 f2)⟩
 all_goals
  obtain⟨f2,⟨S,t2,rfl,rfl,I⟩,h2⟩:=dt.ok u;go_wp2;go_ret;have Q:=f1.size;have R:=f2.size;have K:=JV (bY.jb s.1.1 i [t] [t2]).op R5 ((B.Z.keeps (h.kp f1)).keeps (h1.kp f2)) (I.mono R5);have C:=DA s i (bY.tok (s.1.1.drop i)).2 R5;rw[C];exact dt.kP (Fr.alloc (Fr.alloc (Fr.trans f1 f2) _) _) ((h2.alloc _).alloc _) K
end
section
open bY
open Tryz
variable{l:a_}{b ts:List bY.T}
def pX{n p e m i:Nat}{j:Nat}(h:PT l n p e m i b=.ok (j,ts)):bY.P l n p e m i=.ok j:=by
 rw[<-pj l n p e m i b,h];rfl
def tN(s:ba)(p n m f:Nat):Prop :=∀e j i:Nat,i<=s.size->e<=20->j<=e->8*(s.size-i)+bY.nd m<=n->Bp s f p e j i (PT s.1.1 n m e j i [])
def DB(s y n)(V:s.size<=281474976710656)(M:8<=y)(H:tN s y n 1 131):tN s y (n+1) 0 89:=by
 intro m p i hi hd K C w g h;have h1:=H m p i hi hd K (by simp[bY.nd]at C ⊢;omega);have G:PT _ (n+1) 0 m p i []=dh (PT s.1.1 n 1 m p i []) λj ts=>if gq s.1.1 j [60,61]=true then dh (PT s.1.1 n 1 m p (fX s.1.1 j) []) λk O=>.ok (k,[jb s.1.1 j ts O])else .ok (j,ts):=rfl;have F:=kS s.1.1 n 1 m p i;rw[G];rcases hx:PT s.1.1 n 1 m p i []with x|⟨j,ts⟩
 ·rw[hx]at h1;have B:=bZ h1;go_enter func89,ntmps89;go_wp2_with fail;refine(B.Z _ g h).mono ?_;rintro e P u;obtain⟨f1,rfl⟩:=dt.err u;exact⟨rfl,dt.fy f1⟩
 rw[hx]at h1;have E:=F j (pX hx) Tt;have L:j<=s.size:=by simpa using E.2
 have B:=bZ h1;by_cases z:gq s.1.1 j [60,61]=true
 ·have Z:=gu (one_pos z);have T:fX s.1.1 j<=s.size:=by have:=fu s.1.1 j T5;simpa using this
  have h2:=H m p (fX s.1.1 j) T hd K (by simp[bY.nd]at C ⊢;omega);have J:=bZ h2;have Q:=bZ (one_pos z);simp only[dh,z,aO];clear G hx H h1 C h2 F E;generalize PT s.1.1 n 1 m p (fX s.1.1 j) []=r at J ⊢;go_enter func89,ntmps89;go_wp2_with fail;refine(B.Z _ g h).mono ?_;rintro e P u;obtain⟨f1,⟨N,t1,rfl,rfl,I⟩,h1⟩:=dt.ok u;have D:=bZ I;go_wp2_with(go_at_call 132;refine(kG s y j m p _ _ h1).mono ?_;rintro e Y ⟨rfl,rfl⟩);refine(mG s _ y j m p N t1 w.1.size _ f1.size (g.fr f1 M) h1 D.Z V L M (Or.inl rfl) Q.Z r J.Z).mono ?_;rintro e w2 u;rcases r with x|⟨k,O⟩
  ·obtain⟨f2,rfl⟩:=dt.err u;exact⟨rfl,dt.fy (Fr.trans f1 f2)⟩
  obtain⟨f2,⟨q2,t2,S,rfl,X⟩,h2⟩:=dt.ok u;have R:=bZ X;go_wp2;go_ret;cases S;exact dt.kP (Fr.trans f1 f2) h2 R.Z
 have U:gq s.1.1 j [60,61]=false:=Uc;simp only[dh,U,Ry,Ss];clear G hx H h1 C F E z;go_enter func89,ntmps89;go_wp2_with fail;refine(B.Z _ g h).mono ?_;rintro e P u;obtain⟨f1,⟨N,t1,rfl,rfl,I⟩,h1⟩:=dt.ok u;have D:=bZ I;go_wp2_with(go_at_call 132;refine(kG s y j m p _ _ h1).mono ?_;rintro e Y ⟨rfl,rfl⟩);go_ret;exact dt.kP f1 h1 D.Z
def Bq(s f u n y E p r i K)(V:s.size<=281474976710656)(I:8<=u)(hi:i<=s.size)(hd:p<=20)(S:r<=p)(Q:f=173\/f=212)(U:y<=3)(a4:bY.nd y<=2)(av:8*(s.size-i)+bY.nd y<=n)(H:∀m,m<=n->tN s u m y f)(hT:∀m j b,PT s.1.1 (m+1) E p r j b=if gq s.1.1 j K.1.1=true then dh (PT s.1.1 m y p r (fX s.1.1 j) []) λk X=>PT s.1.1 m E p r k [jb s.1.1 j b X]else .ok (j,b))(w)(g:G w)(h:iI w s u i p r):Calls prog 172 #[.pointer (some ⟨u,0,none⟩),.string K,.func (.func f) #[.pointer (some ⟨u,0,none⟩)] #[]] w (dt s u p r w.1.size w (dh (PT s.1.1 n y p r i []) λj ts=>PT s.1.1 n E p r j ts)):=by
 have h1:=H n (af _) p r i hi hd S av;have J:=kS s.1.1 n y p r i;rcases hx:PT _ n y p r i []with x|⟨j,ts⟩
 ·rw[hx]at h1;have L:=bZ h1;rcases Q with rfl|rfl
  all_goals
   go_enter func172,ntmps172;go_wp2_with fail;refine(L.Z _ g h).mono ?_;rintro e w1 C;obtain⟨f1,rfl⟩:=dt.err C;exact⟨rfl,dt.fy f1⟩
 rw[hx]at h1;have D:=J j (pX hx) Tt;rw[ag U]at D;have ax:j<=s.size:=by simpa using D.2
 have L:=bZ h1;have HT:=bZ hT;have HH:=bZ H;have ap:8*(s.size-j)+1<=n:=R5;show Calls _ _ _ _ (dt s u p r w.1.size w (PT s.1.1 n E p r j ts));generalize R:PT s.1.1 n E p r j ts=ai;have HF:=bZ R;clear hx H h1 J hT D R;rcases Q with rfl|rfl
 all_goals
  go_enter func172,ntmps172;go_wp2_with fail;refine(L.Z _ g h).mono ?_;rintro e w1 C;obtain⟨f1,⟨q1,t1,rfl,rfl,aC⟩,h1⟩:=dt.ok C;have ab:=bZ aC;go_wp2
  go_loopw [7] (λx wr=>∃(q:Addr) (t:bY.T) (k m:Nat),x=.pointer (some q)/\Hid (TF w.1.size none wr t q)/\iI wr s u k p r/\w.grownBy wr (some u)/\k<=s.size/\8*(s.size-k)+1<=m/\m<=n/\Hid (PT s.1.1 m E p r k [t]=ai)) (λ_ wr=>s.size-LJ wr u)
  case atStart=>exact⟨q1,t1,j,n,rfl,ab,h1,f1,ax,ap,af _,HF⟩
  case round =>
   obtain⟨q,t,k,m,rfl,N,B,z,O,hm,a2,HM⟩:=hrel;obtain⟨m,rfl⟩:∃m',m=m'+1:=⟨m-1,by omega⟩;have ao:=tT B;have Z:=bZ ao;have hM:=HM.Z;rw[HT.Z]at hM;by_cases F:gq s.1.1 k K.1.1=true
   ·rw[ag F]at hM;have a3:=gu (one_pos F);have T:fX s.1.1 k<=s.size:=by have:=fu s.1.1 k Ud;simpa using this
    have h2:=HH.Z m R5 p r (fX s.1.1 k) T hd S R5;have J:=kS s.1.1 m y p r (fX s.1.1 k);have P:=bZ (one_pos F);rcases hx:PT s.1.1 m y p r (fX s.1.1 k) []with x|⟨k2,X⟩
    ·rw[hx]at h2 hM;have ak:=hM.symm;subst ak;have M:=bZ h2;go_wp2_with(go_at_call 132;refine(kG s u k p r _ _ B).mono ?_;rintro e Y ⟨rfl,rfl⟩);refine(mG s _ u k p r q t w.1.size _ z.size (g.fr z I) B N.Z V O I R5 P.Z _ M.Z).mono ?_;rintro e w2 C;obtain⟨f2,rfl⟩:=dt.err C;exact⟨rfl,dt.fy (Fr.trans z f2)⟩
    have D:=J k2 (pX hx) (by simpa using T);rw[ag U]at D;have ay:k2<=s.size:=by simpa using D.2
    rw[hx]at h2 hM;have M:=bZ h2;have am:=hM;have aa:=bZ am;go_wp2_with(go_at_call 132;refine(kG s u k p r _ _ B).mono ?_;rintro e Y ⟨rfl,rfl⟩);refine(mG s _ u k p r q t w.1.size _ z.size (g.fr z I) B N.Z V O I R5 P.Z _ M.Z).mono ?_;rintro e w2 C;obtain⟨f2,⟨q2,t2,e2,rfl,a0⟩,h2⟩:=dt.ok C;have ad:=bZ a0;go_wp2_with fail;cases e2;refine⟨⟨q2,_,k2,m,rfl,ad,h2,Fr.trans z f2,ay,by omega,by omega,aa⟩,?_⟩;rw[tT h2,Z.Z];omega
   have a5:gq s.1.1 k K.1.1=false:=by simpa using F
   rw[ae F]at hM;subst hM;go_wp2_with(go_at_call 132;refine(kG s u k p r _ _ B).mono ?_;rintro e Y ⟨rfl,rfl⟩);go_ret;exact dt.kP z B N.Z
def Gy(s y n)(J:s.size<=281474976710656)(G:8<=y)(H:∀m,m<=n->tN s y m 2 173):tN s y (n+1) 1 131:=by
 intro p u i hi hd F E w g h;have z:=Bq s 173 y n 2 4 p u i ⟨#[43,45]⟩ J G hi hd F (Or.inl rfl) R5 (by simp[bY.nd]) (by simp[bY.nd]at E ⊢;omega) H (λm j b=>rfl) w g h;have I:PT _ (n+1) 1 p u i []=dh _ λj ts=>PT s.1.1 n 4 p u j ts:=rfl;rw[I];generalize (dh _ λj ts=>PT _ n 4 p u j ts)=r at z;have C:=bZ z;go_enter func131,ntmps131;go_wp2_with fail;refine C.Z.mono ?_;rintro e M B;rcases r with x|⟨j,ts⟩
 ·obtain⟨f1,rfl⟩:=dt.err B;exact⟨rfl,dt.fy f1⟩
 obtain⟨f1,⟨L,t1,rfl,rfl,K⟩,h1⟩:=dt.ok B;have D:=bZ K;go_wp2;go_ret;exact dt.kP f1 h1 D.Z
def DC(s y n)(J:s.size<=281474976710656)(G:8<=y)(H:∀m,m<=n->tN s y m 3 212):tN s y (n+1) 2 173:=by
 intro p u i hi hd F E w g h;have z:=Bq s 212 y n 3 5 p u i ⟨#[42,47]⟩ J G hi hd F (Or.inr rfl) R5 (by simp[bY.nd]) (by simp[bY.nd]at E ⊢;omega) H (λm j b=>rfl) w g h;have I:PT _ (n+1) 2 p u i []=dh _ λj ts=>PT s.1.1 n 5 p u j ts:=rfl;rw[I];generalize (dh _ λj ts=>PT _ n 5 p u j ts)=r at z;have C:=bZ z;go_enter func173,ntmps173;go_wp2_with fail;refine C.Z.mono ?_;rintro e M B;rcases r with x|⟨j,ts⟩
 ·obtain⟨f1,rfl⟩:=dt.err B;exact⟨rfl,dt.fy f1⟩
 obtain⟨f1,⟨L,t1,rfl,rfl,K⟩,h1⟩:=dt.ok B;have D:=bZ K;go_wp2;go_ret;exact dt.kP f1 h1 D.Z
end
section
open bY
open Tryz
def mX(s b i m n t w)(g:G w)(h:iI w s b i m n)(O:s.size<=281474976710656)(N:8<=b)(r)(H:Bp s 89 b m n i r)(C:∀j l,r=.ok (j,l)->j<=s.size):Calls prog 294 #[.pointer (some ⟨b,0,none⟩),.string t] w (dt s b m n w.1.size w (dh r (eX s.1.1 t.1.1))):=by
 have y:=bZ H;clear H;rcases r with x|⟨j,l⟩
 ·show Calls _ _ _ _ (dt s b m n w.1.size w (.error x));clear C;go_enter func294,ntmps294;go_wp2_with fail;refine(y.Z _ g h).mono ?_;rintro e P u;obtain⟨f1,rfl⟩:=dt.err u;exact⟨rfl,dt.fy f1⟩
 have M:=C j l rfl;show Calls _ _ _ _ (dt s b m n w.1.size w (eX s.1.1 t.1.1 j l));clear C;have B:=lz s.1.1 t.1.1 j l;have D:∀k p,eX s.1.1 t.1.1 j l=.ok (k,p)->p=l:=λk p h=>by
  unfold eX at h;split at h<;>cases h;rfl
 generalize eX s.1.1 t.1.1 j l=r at B D;have E:=bZ B.symm;have J:=bZ D;clear B D;go_enter func294,ntmps294;go_wp2_with fail;refine(y.Z _ g h).mono ?_;rintro e P u;obtain⟨f1,⟨Q,t1,rfl,rfl,F⟩,h1⟩:=dt.ok u;have I:=bZ F;clear u y F;go_wp2_with fail;refine(nu s b j m n t _ (g.fr f1 N) h1 O M).mono ?_;rintro e R⟨f2,h2,z⟩;rw[E.Z]at h2 z;rcases r with x|⟨k,p⟩
 ·have L:=z x rfl;subst L;exact⟨rfl,dt.fy (Fr.trans f1 f2)⟩
 obtain⟨rfl,K⟩:=h2 k rfl;clear h2 z E;go_wp2;go_ret;rw[J.Z k p rfl];exact dt.kP (Fr.trans f1 f2) K (I.Z.keeps (h1.kp f2))
def Bs(s b i l its w)(g:G w)(h:iI w s b i l its)(I:s.size<=281474976710656)(B:8<=b)(T:its<=20)(r)(H:Bp s 89 b l (its+1) i r)(C:∀j E,r=.ok (j,E)->j<=s.size):Calls prog 297 #[.pointer (some ⟨b,0,none⟩)] w (dt s b l its w.1.size w (dh r (eX s.1.1 [41]))):=by
 obtain⟨K,L,M,N,O,P,Q,R⟩:=h.cells;have z:=h.its (its+1);have m:w.grownBy (w.setCell ⟨b,6,none⟩ (.int .i64 ((its+1:Nat):Int))) (some b):=Fr.set (VQ _ _) _ _;have hu:=mX s b i l (its+1) ⟨#[41]⟩ _ (g.fr m B) z I B r H C;rw[show(w.setCell ⟨b,6,none⟩ (.int .i64 ((its+1:Nat):Int))).1.size=w.1.size by simp[World.setCell]]at hu;have p:Calls prog 294 #[.pointer (some ⟨b,0,none⟩),.string ⟨#[41]⟩] (w.setCell ⟨b,6,none⟩ (.int .i64 ((its:Int)+1))) (dt s b l (its+1) w.1.size (w.setCell ⟨b,6,none⟩ (.int .i64 ((its:Int)+1))) (dh r (eX s.1.1 [41]))):=hu;generalize dh r (eX s.1.1 [41])=J at p;have y:=bZ p;have u:=bZ m;clear hu p H C z m;go_enter func297,ntmps297;go_wp2_with fail;refine y.Z.mono ?_;rintro e V n;rcases J with x|⟨j,E⟩
 ·obtain⟨f1,rfl⟩:=dt.err n;exact⟨rfl,dt.fy (Fr.trans u.Z f1)⟩
 obtain⟨f1,⟨U,t1,rfl,rfl,D⟩,h1⟩:=dt.ok n;have F:=bZ D;clear D;obtain⟨d0,d1,d2,d3,d4,d5,d6,S⟩:=h1.cells;clear n y;go_wp2;go_ret;exact dt.kP (Fr.set (Fr.trans u.Z f1) _ _) (h1.its its) (F.Z.keeps (h1.kp (Fr.set (VQ _ _) _ _)))
end
