/- Out of L3. -/
import Derived.Test.YtpekpdimdelncaaGreatDoorP10
import Derived.Test.YtpekpdimdelncaaGreatDoorP11
set_option linter.unusedVariables false
set_option linter.unusedSimpArgs false
set_option maxRecDepth 100000
set_option maxHeartbeats 16000000
set_option linter.defProp false
namespace Go.Proofs.YtpekpdimdelncaaGreatDoor
open Go.RowKit Go.Shelf
section
open bY
open Tryz
variable{r:Except Nat V}{x:Xa}
attribute [local go_sem] yx yz yA
def yF(c:Nat)(w)(hc:c<=12):Calls prog 140 #[.int .i64 c] w λe w'=>e=.returned (str (kR c))/\w'=w:=by
 have h:∀c:Fin 13,c.val≠7->c.val≠8->c.val≠9->c.val≠10->c.val≠11->kR c.val=[]:=RZ;by_cases l:c=7
 ·subst l;go_enter func140,ntmps140;go_wp2;go_ret;exact⟨rfl,rfl⟩
 by_cases m:c=8
 ·subst m;go_enter func140,ntmps140;go_wp2;go_ret;exact⟨rfl,rfl⟩
 by_cases n:c=9
 ·subst n;go_enter func140,ntmps140;go_wp2;go_ret;exact⟨rfl,rfl⟩
 by_cases b:c=10
 ·subst b;go_enter func140,ntmps140;go_wp2;go_ret;exact⟨rfl,rfl⟩
 by_cases j:c=11
 ·subst j;go_enter func140,ntmps140;go_wp2;go_ret;exact⟨rfl,rfl⟩
 have hb:=h ⟨c,by omega⟩ l m n b j;simp only at hb;rw[hb];have y:((c:Int)==7)=false:=R7;have z:((c:Int)==8)=false:=R7;have B:((c:Int)==9)=false:=R7;have p:((c:Int)==10)=false:=R7;have u:((c:Int)==11)=false:=R7;clear h hb l m n b j;go_enter func140,ntmps140;go_wp2;go_ret;exact⟨rfl,rfl⟩
def mA(w)(g:G w)(h:g_ w r x):Calls prog 96 #[x] w λe w'=>e=.returned (str (gu r))/\Xb w w':=by
 have l:∀o,Xb w (w.alloc o):=λo=>(Uz _ _).alloc (af _) _;rcases h with⟨v,y,rfl,rfl,u⟩|⟨c,rfl,rfl,K,h1⟩
 ·rcases u.fP with⟨j,rfl,rfl,hj⟩|⟨d,rfl,rfl,hb⟩|⟨F,E,I,J,L,rfl,rfl,n,D,h2,B⟩
  ·have C:∀o,G (w.alloc o):=λo=>g.below (l o) g.size;go_enter func96,ntmps96;go_wp2_with fail;refine(iA j _ (C _) hj.1 hj.2).mono ?_;rintro e w2⟨rfl,m⟩;have b:Xb w w2:=(l _).trans (m.mono R2);go_wp2_with fail;go_ret;exact⟨by rw[gu,rK];rfl,b⟩
  ·go_enter func96,ntmps96;go_wp2_with fail;refine(lx d _ RM).mono ?_;rintro e w2⟨rfl,m⟩;have b:Xb w w2:=(l _).trans (m.mono R2);go_wp2_with fail;go_ret;exact⟨by rw[gu,pA];rfl,b⟩
  obtain rfl:F=2:=RM;have z:=λ(w':QV) (b:Xb w w')=>kQ 2 RM E I J w' (g.below b g.size) (n.keeps (cK.below b)) (iW.keeps ⟨D,B⟩ (cK.below b)) h2;obtain⟨N,c2,rfl⟩:=n.len;have p:=bZ z;clear z u B n;go_enter func96,ntmps96;go_wp2_with fail;refine(p.Z _ (l _)).mono ?_;rintro e w2⟨rfl,m⟩;clear p;have b:Xb w w2:=(l _).trans (m.mono R2);go_wp2_with fail;go_ret;exact⟨rfl,b⟩
 have M:((c:Int) != 0)=true:=Sm;go_enter func96,ntmps96;go_wp2_with fail;refine(yF c _ h1).mono ?_;rintro e w2⟨rfl,rfl⟩;go_wp2_with fail;go_ret;exact⟨rfl,l _⟩
def Hh{w:QV}{v:V}(h:cT w 3 v x):(wr 3 v).length<=100000:=by
 have:=h.ui;have e:lu 3<=100000:=RZ;omega
def lz{w:QV}(h:g_ w r x):(gu r).length<=100000:=by
 rcases h with⟨v,y,rfl,rfl,b⟩|⟨c,rfl,rfl,e,h1⟩
 ·exact Hh b
 have:∀c:Fin 13,(kR c.val).length<=100000:=RZ;exact this ⟨c,by omega⟩
end
section
open Tryz
variable{s x y:Xa}{ys:List Xa}{o:Option bY.V}
attribute [local go_sem] nT nV nW nX nY nZ n_ oc oe
def kI(w:QV)(s:Xa)(qs:List Xa):Prop :=(s=.slice none 0 0/\qs=[]) \/∃(b e:Nat) (cs:Array Xa) (fz:Nat×Nat),s=.slice (some ⟨b,0,none⟩) qs.length e/\qs.length<=e/\w.1[b]?=some (.cells cs 121 fz)/\e<=cs.size/\∀i,i<qs.length->cs[i]?=qs[i]?
def gI(w:QV)(o:Option bY.V)(x:Xa):Prop :=(o=none/\x=.nilIface)\/∃v,o=some v/\cT w 3 v x
def dI(w:QV):Nat->bY.T->Xa->Prop
 |0,_,_=>False
 |n+1,t,x=>∃(b:Nat) (i s:Xa) (qs:List Xa) (fz:Nat×Nat),x=.pointer (some ⟨b,0,none⟩) /\w.1[b]?=some (.cells #[.int .i64 (t.cq:Int),.int .u8 (t.op:Int),.string ⟨t.name.toArray⟩,i,s] 263 fz)/\(gI w t.is i/\t.name.length<=200)/\kI w s qs/\t.parts.length=qs.length /\∀(j:Nat) u q,t.parts[j]?=some u->qs[j]?=some q->dI w n u q
def kI.keeps{w w':QV}(h:kI w s ys)(n:cK w w'):kI w' s ys:=by
 rcases h with h|⟨b,e,cs,fz,h1,h2,j,l,m⟩
 ·exact .inl h
 exact .inr ⟨b,e,cs,fz,h1,h2,n _ _ _ _ j (.inr (.inr rfl)),l,m⟩
def gI.keeps{w w':QV}(h:gI w o x)(b:cK w w'):gI w' o x:=by
 rcases h with h|⟨v,h1,h2⟩
 ·exact .inl h
 exact .inr ⟨v,h1,h2.keeps b⟩
def dI.keeps{w w':QV}(e:cK w w'):∀{n:Nat} {t:bY.T} {x:Xa},dI w n t x->dI w' n t x
 |0,_,_,h=>h
 |_+1,_,_,⟨b,i,s,qs,fz,h1,h2,l,m,p,r⟩ =>
  ⟨b,i,s,qs,fz,h1,e _ _ _ _ h2 (.inr (.inl rfl)),⟨l.1.keeps e,l.2⟩,m.keeps e,p,λj u q hu z=>dI.keeps e (r j u q hu z)⟩
def kI.len{w:QV}(h:kI w s ys):∃o c,s=.slice o ys.length c:=by
 rcases h with⟨rfl,rfl⟩|⟨b,e,cs,fz,rfl,_⟩
 ·exact⟨_,_,rfl⟩
 exact⟨_,_,rfl⟩
def kI.cell{w:QV}{o:Option Addr}{n c:Nat}(h:kI w (.slice o n c) ys){i:Nat}(hi:ys[i]?=some y):∃b,o=some ⟨b,0,none⟩/\w.cell? ⟨b,i,none⟩=some y:=by
 have l:i<ys.length:=(az.1 hi).1;rcases h with⟨h1,rfl⟩|⟨b,m,cs,fz,h1,h2,e,p,j⟩
 ·simp at hi
 cases h1;refine⟨b,rfl,?_⟩;simp[World.cell?,e,j i l,hi]
def E4(s:ba):((s.extract 0 (bY.tok s.1.1).2).toList==s.toList)=((bY.tok s.1.1).2==s.1.1.length):=by
 have e:=bY.yl s.1.1 0 (au _);rw[aW,aI]at e;rw[UC,UC,UG,aW,Q7];by_cases h:(bY.tok s.1.1).2=s.1.1.length
 ·rw[h,Q1];simp
 rw[aw.2 h,aw];intro b;have:=congrArg List.length b;rw[P7]at this;omega
def eg(s w)(g:G w)(hs:s.size<=281474976710656):Calls prog 48 #[.string s] w λe w'=>e=.returned (.bool (bY.dL s.1.1))/\Xb w w':=by
 have r:=E4 s;have n:=tO s.1.1;have b:=lj s w g hs;unfold bY.dL;unfold fe at b;generalize ((bY.tok s.1.1).2==s.1.1.length)=q at r ⊢;generalize ov s.1.1=iv at n b;generalize s.extract 0 (bY.tok s.1.1).2=x at r b;generalize (bY.tok s.1.1).1=k at b ⊢;have p:((k==4):Bool)=((k:Int)==4):=by
  by_cases h:k=4
  ·subst h;rfl
  rw[aw.2 h];symm;rw[aw];omega
 rw[p];have l:=bZ b;clear b p;rcases n with rfl|⟨t,a,rfl⟩
 all_goals
  by_cases m:((k:Int)==4)=true
  ·rw[m,Qk];go_enter func48,ntmps48;go_wp2_with fail;refine l.Z.mono ?_;rintro e w1⟨rfl,j⟩;clear l;go_wp2_with fail;go_ret;exact⟨rfl,j.alloc j.size _⟩
  have u:((k:Int)==4)=false:=SD;rw[u,Qz];clear m;go_enter func48,ntmps48;go_wp2_with fail;refine l.Z.mono ?_;rintro e w1⟨rfl,j⟩;clear l;go_wp2_with fail;go_ret;exact⟨rfl,j.alloc j.size _⟩
end
section
open bY
open Tryz
variable{v:V}{y x:Xa}{k:a_}
attribute [local go_sem] nT nV nW nX nY nZ n_ oc oe
def E5{w:QV}{n:Nat}(h:cT w n v y)(j:bY.keyOf v=.ok k):k.length<=200:=by
 rcases h.fP with⟨i,rfl,_,m,h1⟩|⟨b,rfl,_,hb⟩|⟨_,l,_,_,_,rfl,_⟩
 ·have e:k=107 :: Lib.itoa i:=by
   have h2:bY.keyOf (vn i)=.ok (107 :: Lib.itoa i):=rfl;rw[h2]at j;cases j;rfl
  have:=Lib.itoa_length_le i m h1;rw[e];simp only[aM];omega
 ·have h2:bY.keyOf (vw b.1.1)=if dL b.1.1=true then .ok b.1.1 else .error 9:=rfl;rw[h2]at j;split at j
  ·cases j;have:b.1.1.length=b.size:=R2;omega
  cases j
 have h2:bY.keyOf (vl l)=.error 9:=rfl;rw[h2]at j;cases j
def xj(w)(g:G w)(hx:cT w 3 v x):Calls prog 282 #[x] w λe w'=>Xb w w'/\(∀k,bY.keyOf v=.ok k->e=.returned (.string ⟨k.toArray⟩))/\(∀c,bY.keyOf v=.error c->e=gE c/\c=9):=by
 rcases hx.fP with⟨i,rfl,rfl,hi⟩|⟨b,rfl,rfl,hb⟩|⟨m,l,s,ys,C,rfl,rfl,z,hl,B,hv⟩
 ·have hlen:=Lib.itoa_length_le i hi.1 hi.2;have n:bY.keyOf (vn i)=.ok (107 :: Lib.itoa i):=rfl;rw[n];clear hx;go_enter func282,ntmps282;go_wp2_with fail;refine(iA i _ g hi.1 hi.2).mono ?_;rintro e w1⟨rfl,p⟩;go_wp2_with fail;go_ret;refine⟨p,λk j=>?_,λc hc=>by cases hc⟩;cases j;exact congrArg (λs=>Ending.returned (.string s)) (qH R2)
 ·have r:=eg b w g RM;have n:bY.keyOf (vw b.1.1)=if dL b.1.1=true then .ok b.1.1 else .error 9:=rfl;rw[n];generalize dL b.1.1=q at r ⊢;have u:=bZ r;clear hx r n;cases q with
  |true =>
   rw[ag rfl];go_enter func282,ntmps282;go_wp2_with(go_at_call 48;refine u.Z.mono ?_;rintro e w1 ⟨rfl,p⟩);go_ret;refine⟨p,λk j=>?_,λc hc=>by cases hc⟩;cases j;exact congrArg (λs=>Ending.returned (.string s)) (qH R2)
  |false =>
   rw[ae R2];go_enter func282,ntmps282;go_wp2_with(go_at_call 48;refine u.Z.mono ?_;rintro e w1 ⟨rfl,p⟩);exact⟨rfl,p,λk j=>(by cases j),λc hc=>by cases hc;exact⟨rfl,rfl⟩⟩
 obtain⟨o,c,rfl⟩:=z.len;have n:bY.keyOf (vl l)=.error 9:=rfl;rw[n];clear hx;go_enter func282,ntmps282;go_wp2_with fail;exact⟨rfl,Uz _ _,λk j=>(by cases j),λc hc=>by cases hc;exact⟨rfl,rfl⟩⟩
def xl(E)(ok:gh E)(F st b w)(h:St E F st w)(C:b.size<=200)(hb:E.kO st.2+st.1<400):Calls prog 246 #[.pointer (some ⟨E.rb,0,none⟩),.string b] w (PW (Ψ E F w (pR E.N b.1.1 st))):=by
 obtain⟨tc,ti,l⟩:=h.run;have hy:=ok.yields b F st.2 w st.1 tc ti h.inv l h.g C hb;refine(qN E.rb E.l st.1 E.dc tc ti E.wc E.wi b w (Ψ E F w (pR E.N b.1.1 st)) l (hy.mono ?_)).mono ?_
 ·rintro e w'⟨rfl,c,i,F',z,n,u,hF,j⟩;exact⟨rfl,_,c,i,z,n,rfl,F',⟨⟨c,i,n⟩,u,j.g h.g ok.Ae,(by show E.kO (E.N b.1.1 st.2).2+st.1<=400;have:=ok.Nc b.1.1 st.2;omega)⟩,hF,j⟩
 rintro e w'⟨r,⟨w2,⟨l,F',p,hF,j⟩,m⟩,B⟩;exact⟨r,⟨l,F',p.below ok m,hF,j.trans (Fm.below m (ah (ah ok.gj (aE p.lt)) (af _)))⟩,B⟩
end
section
open bY
open Tryz
variable{x y:V}{it:Option V}{l:List V}{c:Nat}{f:Int->Int->Except Nat V}{E:Env}{F p:Nat->Prop}{res:Except Nat V}{e:Ending}
def gJ(E:Env)(n:Nat):Prop :=∀(t:bY.T) (it:Option V) (x xi:Xa) (F:Nat->Prop) (st:Nat×E.σ) (w:QV),ib n it.isSome t=true->dI w n t x->gI w it xi->St E F st w ->Calls prog 203 #[.pointer (some ⟨E.rb,0,none⟩),x,xi] w (PW (Ψ E F w (ev E.N n t it st)))
structure Node(w:QV)(n:Nat)(t:bY.T)(b:Nat)(i:Xa)(o:Option Addr)(m c:Nat):Prop where
 cells:∀w',cK w w'->w'.cell? ⟨b,0,none⟩=some (.int .i64 (t.cq:Int))/\w'.cell? ⟨b,1,none⟩=some (.int .u8 (t.op:Int))/\w'.cell? ⟨b,2,none⟩=some (.string ⟨t.name.toArray⟩)/\w'.cell? ⟨b,3,none⟩=some i/\w'.cell? ⟨b,4,none⟩=some (.slice o m c)
 is:gI w t.is i
 name:t.name.length<=200
 len:t.parts.length=m
 cG:∀j,j<t.parts.length->∃b0 q,o=some ⟨b0,0,none⟩/\(∀w',cK w w'->w'.cell? ⟨b0,j,none⟩=some (.pointer (some q)))/\dI w n (t.cG j) (.pointer (some q))
def dI.node{w:QV}{n:Nat}{t:bY.T}{x:Xa}(h:dI w (n+1) t x):∃b i o m c,x=.pointer (some ⟨b,0,none⟩)/\Node w n t b i o m c:=by
 obtain⟨b,i,s,qs,fz,rfl,h2,D,u,G,I⟩:=h;obtain⟨o,c,rfl⟩:=u.len;refine⟨b,i,o,_,c,rfl,⟨λw' z=>?_,D.1,D.2,G,λj hj=>?_⟩⟩
 ·have r:=z _ _ _ _ h2 (.inr (.inl rfl));exact⟨by simp[World.cell?,r],by simp[World.cell?,r],by simp[World.cell?,r],by simp[World.cell?,r],by simp[World.cell?,r]⟩
 obtain⟨q,B⟩:∃q,qs[j]?=some q:=⟨_,aq RM⟩;have hu:t.parts[j]?=some (t.cG j):=by
  rw[bY.T.cG,aq hj];rfl
 have C:=I j _ _ hu B;have:∃a,q=.pointer (some a):=by
  cases n with
  |zero=>exact C.elim
  |succ n=>obtain⟨b,_,_,_,_,rfl,_⟩:=C;exact⟨_,rfl⟩
 obtain⟨a,rfl⟩:=this;obtain⟨b0,rfl,_⟩:=u.cell B;refine⟨b0,a,rfl,λw' z=>?_,C⟩;obtain⟨b1,e,hc⟩:=(u.keeps z).cell B;cases e;exact hc
def gI.form{w:QV}{xi:Xa}(h:gI w it xi):xi=.nilIface\/∃t a,xi=.iface t a:=by
 rcases h with⟨_,rfl⟩|⟨v,_,hv⟩
 ·exact .inl rfl
 exact .inr hv.one
/-! By what the operations break. -/
def uA(h:dX l=.error c):0<c/\c<=12:=by
 unfold dX at h;split at h
 ·cases h;omega
 cases h
def oM(hf:∀i j,f i j=.error c->0<c/\c<=12)(h:mr x y f=.error c):0<c/\c<=12:=by
 unfold mr at h;split at h
 ·exact hf _ _ h
 cases h;omega
def Hn(h:plus x y=.error c):0<c/\c<=12:=by
 unfold plus at h;split at h
 ·cases h
 ·split at h
  ·cases h;omega
  cases h
 ·exact uA h
 cases h;omega
def Ho(h:bY.less x y=.error c):0<c/\c<=12:=by
 unfold bY.less at h;split at h
 ·cases h
 ·cases h
 cases h;omega
def Nf(h:gd x y=.error c):0<c/\c<=12:=by
 unfold gd at h;split at h
 ·split at h
  ·split at h
   ·cases h
   rename_i b;cases h;have:=(py b).2;omega
  ·split at h
   ·cases h
   rename_i b;cases h;have:=(py b).2;omega
  cases h;omega
 cases h;omega
def uB{op:Nat}(h:bY.make op x y=.error c):0<c/\c<=12:=by
 unfold bY.make at h;split at h
 ·exact Hn h
 split at h
 ·exact oM (λi j h=>by cases h) h
 split at h
 ·exact oM (λi j h=>by cases h) h
 split at h
 ·refine oM (λi j h=>?_) h;split at h
  ·cases h;omega
  cases h
 split at h
 ·exact Ho h
 split at h
 ·cases h
 split at h
 ·exact oM (λi j h=>by cases h) h
 split at h
 ·exact oM (λi j h=>by cases h) h
 exact Nf h
def Hp(h:bY.size x=.error c):0<c/\c<=12:=by
 unfold bY.size at h;split at h
 ·cases h;omega
 ·cases h
 cases h
def sG:∀{l:List V} {a:Int} {c:Nat},fx a l=.error c->0<c/\c<=12
 |[],_,_,h=>by cases h
 |v :: r,a,c,h=>by
  unfold fx at h;split at h
  ·exact sG h
  cases h;omega
def E6(h:jM x=.error c):0<c/\c<=12:=by
 unfold jM at h;split at h
 ·exact sG h
 cases h;omega
def Cn(h:ia x=.error c):0<c/\c<=12:=by
 unfold ia at h;split at h
 ·cases h
 ·cases h
 cases h;omega
def PW.pS(ok:gh E){m:Nat×E.σ}{w w1 w2:QV}(j:St E p m w1)(hF:∀k,p k->F k\/w.1.size<=k)(r:Fm E.base w w1)(z:PV w1 res e w2)(hc:∀c,res=.error c->0<c/\c<=12):PW (Ψ E F w (res,m)) e w2:=by
 obtain⟨b,u,n⟩:=z;refine⟨res,⟨rfl,p,j.below ok b,hF,r.trans (Fm.below b (ah ok.gj (aE j.lt)))⟩,?_⟩;cases res with
 |ok v=>obtain⟨y,rfl,hv⟩:=u v rfl;exact .inl ⟨v,y,rfl,rfl,hv⟩
 |error c=>exact .inr ⟨c,rfl,n c rfl,(hc c rfl).1,(hc c rfl).2⟩
def PW.after{w w1 w2:QV}{q:Except Nat V×(Nat×E.σ)}(hF:∀k,p k->F k\/w.1.size<=k)(b:Fm E.base w w1)(h:PW (Ψ E p w1 q) e w2):PW (Ψ E F w q) e w2:=by
 obtain⟨r,⟨z,j,B,m,n⟩,hc⟩:=h;refine⟨r,⟨z,j,B,λk u=>?_,b.trans n⟩,hc⟩;rcases m k u with h|h
 ·exact hF k h
 exact .inr (ah b.size h)
def ki(E)(ok:gh E)(n)(ih:gJ E n)(t it x xi F st w)(z:t.cq=5\/t.cq=10\/t.cq=11\/t.cq=12)(hlen:t.parts.length=1)(U:∀j,j<t.parts.length->ib n it.isSome (t.cG j)=true)(hx:dI w (n+1) t x)(hi:gI w it xi)(h:St E F st w):Calls prog 251 #[.pointer (some ⟨E.rb,0,none⟩),x,xi] w (PW (Ψ E F w (fQ E.N (λu s=>ev E.N n u it s) t st))):=by
 obtain⟨b,i,o,m,c,rfl,nd⟩:=hx.node;obtain⟨b0,q0,rfl,d0,ab⟩:=nd.cG 0 RM;have X:=ih _ it _ xi F st w (U 0 RM) ab hi h;have hm:=nd.len;obtain⟨f,hf,Y⟩:∃f:V->Except Nat V,((t.cq=5/\f=bY.make 45 (vn 0))\/(t.cq=10/\f=bY.size)\/(t.cq=11/\f=jM)\/(t.cq=12/\f=ia))/\∀v c,f v=.error c->0<c/\c<=12:=by
  rcases z with z|z|z|z
  ·exact⟨_,.inl ⟨z,rfl⟩,λ_ _ h=>uB h⟩
  ·exact⟨_,.inr (.inl ⟨z,rfl⟩),λ_ _ h=>Hp h⟩
  ·exact⟨_,.inr (.inr (.inl ⟨z,rfl⟩)),λ_ _ h=>E6 h⟩
  exact⟨_,.inr (.inr (.inr ⟨z,rfl⟩)),λ_ _ h=>Cn h⟩
 clear z;have Z:fQ E.N (λu s=>ev E.N n u it s) t st=iX (ev E.N n (t.cG 0) it st) λv s=>(f v,s):=by
  unfold fQ;rcases hf with⟨z,rfl⟩|⟨z,rfl⟩|⟨z,rfl⟩|⟨z,rfl⟩<;>rw[z]<;>rfl
 rw[Z];obtain⟨O,_,_,_,c4⟩:=nd.cells w (cK.refl w);have e0:=d0 w (cK.refl w);have Q:=hi.form;have S:=bZ nd;have I:=bZ X;generalize ev E.N n (t.cG 0) it st=q at I ⊢;obtain⟨r,ai⟩:=q;generalize ak:E.rb=rb at I;cases r with
 |error e1 =>
  rcases hf with⟨z,-⟩|⟨z,-⟩|⟨z,-⟩|⟨z,-⟩<;>rcases Q with rfl|⟨tx,T,rfl⟩
  all_goals
   rw[z]at O;go_enter func251,ntmps251;go_wp2_with fail;refine I.Z.mono ?_;rintro e w1⟨r,⟨G,L⟩,⟨v,y,C,rfl,hv⟩|⟨c1,C,rfl,hc⟩⟩
   ·rw[G]at C;cases C
   rw[G]at C;cases C;exact⟨rfl,.error e1,⟨rfl,L⟩,.inr ⟨e1,rfl,rfl,hc⟩⟩
 |ok v1 =>
  show Calls _ _ _ _ (PW (Ψ E F w ((f v1,ai))));generalize aa:f v1=res;have D:=bZ aa;have R:=bZ (Y v1);rcases hf with⟨z,rfl⟩|⟨z,rfl⟩|⟨z,rfl⟩|⟨z,rfl⟩<;>rcases Q with rfl|⟨tx,T,rfl⟩
  all_goals
   rw[z]at O;go_enter func251,ntmps251;go_wp2_with fail;refine I.Z.mono ?_;rintro e w1⟨r,⟨G,p,L,hF,P⟩,⟨v,y,C,rfl,hv⟩|⟨c1,C,rfl,hc⟩⟩
   ·rw[G]at C;cases C;obtain⟨k0,k1,_,_,k4⟩:=S.Z.cells w1 P.keeps;rw[z]at k0;obtain⟨t1,a1,rfl⟩:=hv.one;have K:=bZ hv
    first
     |(have B:=KD w1 K.Z;rw[D.Z]at B;have J:=bZ B)
     |(have B:=GU w1 K.Z;rw[D.Z]at B;have J:=bZ B)
     |(have B:=Cc w1 L.g K.Z;rw[D.Z]at B;have J:=bZ B)
     |(have B:=uh 45 RZ w1 (uc 0 RZ RZ) K.Z;rw[D.Z]at B;have J:=bZ B)
    go_wp2_with fail;refine J.Z.mono ?_;rintro e w2 M;have N:=bZ (PW.pS ok L hF P M (λc hc=>R.Z c (D.Z.trans hc)));cases res with
    |error c =>
     obtain rfl:=M.2.2 c rfl;exact⟨rfl,N.Z⟩
    |ok v2 =>
     obtain⟨y2,rfl,ad⟩:=M.2.1 v2 rfl;obtain⟨t2,a2,rfl⟩:=ad.one;go_wp2_with fail;go_ret;exact N.Z
   rw[G]at C;cases C
def sV(E)(_ok:gh E)(n)(S:gJ E n)(t it x xi F st w)(D:t.cq=6)(hlen:t.parts.length=1)(O:∀j,j<t.parts.length->ib n it.isSome (t.cG j)=true)(hx:dI w (n+1) t x)(hi:gI w it xi)(h:St E F st w):Calls prog 251 #[.pointer (some ⟨E.rb,0,none⟩),x,xi] w (PW (Ψ E F w (fQ E.N (λu s=>ev E.N n u it s) t st))):=by
 obtain⟨b,i,o,m,c,rfl,nd⟩:=hx.node;obtain⟨b0,Z,rfl,d0,R⟩:=nd.cG 0 RM;have P:=S _ it _ xi F st w (O 0 RM) R hi h;have X:=nd.len;have Q:fQ E.N (λu s=>ev E.N n u it s) t st=iX (ev E.N n (t.cG 0) it st) λv s=>(.ok v,s):=by
  unfold fQ;rw[D];rfl
 rw[Q];obtain⟨N,_,_,_,V⟩:=nd.cells w (cK.refl w);have e0:=d0 w (cK.refl w);have J:=hi.form;rw[D]at N;have L:=bZ nd;have C:=bZ P;generalize ev E.N n _ it st=q at C ⊢;obtain⟨r,U⟩:=q;generalize Y:E.rb=rb at C;cases r with
 |error e1 =>
  rcases J with rfl|⟨tx,M,rfl⟩
  all_goals
   go_enter func251,ntmps251;go_wp2_with fail;refine C.Z.mono ?_;rintro e w1⟨r,⟨B,G⟩,⟨v,y,z,rfl,hv⟩|⟨c1,z,rfl,hc⟩⟩
   ·rw[B]at z;cases z
   rw[B]at z;cases z;exact⟨rfl,.error e1,⟨rfl,G⟩,.inr ⟨e1,rfl,rfl,hc⟩⟩
 |ok v1 =>
  show Calls _ _ _ _ (PW (Ψ E F w ((.ok v1,U))));rcases J with rfl|⟨tx,M,rfl⟩
  all_goals
   go_enter func251,ntmps251;go_wp2_with fail;refine C.Z.mono ?_;rintro e w1⟨r,⟨B,p,G,hF,I⟩,⟨v,y,z,rfl,hv⟩|⟨c1,z,rfl,hc⟩⟩
   ·rw[B]at z;cases z;obtain⟨T,k1,_,_,k4⟩:=L.Z.cells w1 I.keeps;rw[D]at T;obtain⟨t1,a1,rfl⟩:=hv.one;have K:=bZ hv;go_wp2_with fail;go_ret;exact⟨.ok v1,⟨rfl,p,G,hF,I⟩,.inl ⟨v1,_,rfl,rfl,K.Z⟩⟩
   rw[B]at z;cases z
end
section
open Tryz
variable{t:bY.T}{x fz:Nat×Nat}{q:Addr}{lo lo':Nat}{ts:List bY.T}{s:ba}{e:Ending}
def dI.up{w:QV}:∀{n:Nat} {t:bY.T} {x:Xa},dI w n t x->dI w (n+1) t x
 |0,_,_,h=>h.elim
 |_+1,_,_,⟨b,i,s,qs,fz,h1,h2,l,m,p,r⟩=>⟨b,i,s,qs,fz,h1,h2,l,m,p,λj u q hu y=>dI.up (r j u q hu y)⟩
def dI.le{w:QV}{n m:Nat}{x:Xa}(h:dI w n t x)(b:n<=m):dI w m t x:=by
 induction b with
 |refl=>exact h
 |step _ j=>exact j.up
def qh(w:QV)(t:bY.T)(q:Addr):Prop:=∃h,dI w h t (.pointer (some q))
def qh.keeps{w w':QV}(h:qh w t q)(b:cK w w'):qh w' t q:=h.elim λn h=>⟨n,h.keeps b⟩
def KO(lo:Nat)(row:Option Nat)(w w':QV):Prop :=∀k,lo<=k->row≠some k->∀(cs:Array Xa) (t:TypeId) (fz:Nat×Nat),w.1[k]?=some (.cells cs t fz)->Kx t->w'.1[k]?=some (.cells cs t fz)
def TF(lo:Nat)(row:Option Nat)(w:QV)(t:bY.T)(q:Addr):Prop:=∀w',KO lo row w w'->qh w' t q
def KO.refl(lo row w):KO lo row w w:=λ_ _ _ _ _ _ h _=>h
def KO.keeps{row:Option Nat}{w w':QV}(h:cK w w'):KO lo row w w':=λk _ _ cs t fz b j=>h k cs t fz b j
def TF.at{row:Option Nat}{w:QV}(h:TF lo row w t q):qh w t q:=h w (KO.refl _ _ _)
def KO.trans{row row':Option Nat}{a b c:QV}(h:KO lo row a b)(n:∀k,row'=some k->row=some k\/a.1.size<=k)(h':KO lo row' b c):KO lo row a c :=λk j l cs t fz hb m=>h' k j (λe=>by
  rcases n k e with h1|h1
  ·exact l h1
  ·have:=cj hb;omega) cs t fz (h k j l cs t fz hb m) m
def TF.move{row row':Option Nat}{w w':QV}(h:TF lo row w t q)(b:KO lo row w w')(j:∀k,row'=some k->row=some k\/w.1.size<=k):TF lo row' w' t q :=λl h2=>h l (b.trans j h2)
def TF.keeps{row:Option Nat}{w w':QV}(h:TF lo row w t q)(b:cK w w'):TF lo row w' t q:=h.move (KO.keeps b) (λ_ e=>.inl e)
def TF.mono{row:Option Nat}{w:QV}(h:TF lo row w t q)(hl:lo'<=lo):TF lo' row w t q:=λw' h'=>h w' (λk b=>h' k (ah hl b))
def TF.row{lo:Nat}{row:Option Nat}{w:QV}{t:bY.T}{q:Addr}(h:TF lo none w t q)(j:∀k,row=some k->k<lo):TF lo row w t q:=λw' h'=>h w' (λk b _=>h' k b (λe=>by have:=j k e;omega))
def TF.drop{row:Option Nat}{w:QV}(h:TF lo row w t q):TF lo none w t q:=λw' h'=>h w' (λk b _=>h' k b (λe=>by cases e))
def pX(lo:Nat)(row:Option Nat)(w:QV)(ts:List bY.T)(s:Xa):Prop :=∀w',KO lo row w w'->∃qs,kI w' s qs/\ts.length=qs.length/\∀(j:Nat) u q,ts[j]?=some u->qs[j]?=some q->∃h,dI w' h u q
def pX.move{row row':Option Nat}{w w':QV}{s:Xa}(h:pX lo row w ts s)(b:KO lo row w w')(j:∀k,row'=some k->row=some k\/w.1.size<=k):pX lo row' w' ts s :=λl h2=>h l (b.trans j h2)
def pX.mono{row:Option Nat}{w:QV}{s:Xa}(h:pX lo row w ts s)(hl:lo'<=lo):pX lo' row w ts s:=λw' h'=>h w' (λk b=>h' k (ah hl b))
def pX.nil(lo row w):pX lo row w [] (.slice none 0 0):=λw' _=>⟨[],.inl ⟨rfl,rfl⟩,rfl,λj u q hu=>by simp at hu⟩
def pX.mk{lo b l:Nat}{row:Option Nat}{w:QV}{ts:List bY.T}{qs:List Xa}{cs:Array Xa}{fz:Nat×Nat}(hb:w.1[b]?=some (.cells cs 121 fz))(p:lo<=b)(r:row≠some b)(hlen:ts.length=qs.length)(n:qs.length<=l)(hcs:l<=cs.size)(m:∀i,i<qs.length->cs[i]?=qs[i]?)
  (y:∀(j:Nat) u x,ts[j]?=some u->qs[j]?=some x->∃q,x=.pointer (some q)/\TF lo row w u q):pX lo row w ts (.slice (some ⟨b,0,none⟩) qs.length l) :=λw' h'=>⟨qs,.inr ⟨b,l,cs,fz,rfl,n,h' b p r _ _ _ hb (.inr (.inr rfl)),hcs,m⟩,hlen,λj u q hu m=>by
  obtain⟨z,rfl,h1⟩:=y j u q hu m;exact h1 w' h'⟩
def D5{w:QV}:∀(ts:List bY.T) (qs:List Xa),ts.length=qs.length->(∀(j:Nat) u q,ts[j]?=some u->qs[j]?=some q->∃h,dI w h u q)->∃h,∀(j:Nat) u q,ts[j]?=some u->qs[j]?=some q->dI w h u q
 |[],_,_,_=>⟨0,λj u q hu=>by simp at hu⟩
 |t :: ts,[],h,_=>by simp at h
 |t :: ts,q :: qs,h,H=>by
  obtain⟨h1,e1⟩:=H 0 t q rfl rfl;obtain⟨h2,e2⟩:=D5 ts qs Sf (λj u q hu b=>H (j+1) u q (by simpa using hu) Sy);refine⟨max h1 h2,λj u l hu b=>?_⟩;cases j with
  |zero=>cases hu;cases b;exact e1.le (Ri _ _)
  |succ j=>exact(e2 j u l (by simpa using hu) Sy).le (Rk _ _)
def TF.node{b:Nat}{row:Option Nat}{w:QV}{i s:Xa}(hb:w.1[b]?=some (.cells #[.int .i64 t.cq,.int .u8 t.op,.string ⟨t.name.toArray⟩,i,s] 263 fz))(m:lo<=b)(p:row≠some b)(hi:∀w,gI w t.is i)(n:t.name.length<=200)(r:pX lo row w t.parts s):TF lo row w t ⟨b,0,none⟩ :=λw' h'=>by
  obtain⟨qs,h1,h2,j⟩:=r w' h';obtain⟨h,l⟩:=D5 t.parts qs h2 j;exact⟨h+1,b,i,s,qs,fz,rfl,h' b m p _ _ _ hb (.inr (.inl rfl)),⟨hi w',n⟩,h1,h2,l⟩
def dd(s:ba)(b l m lo:Nat)(w:QV)(r:bY.RT)(e:Ending)(w':QV):Prop :=w.grownBy w' (some b)/\(∀j ts,r=.ok (j,ts)->(∃q t,ts=[t]/\e=.returned (.pointer (some q))/\TF lo none w' t q)/\gS w' s b j l m)/\(∀x,r=.error x->e=refusal x.1 x.2)
def dd.ok{b l m lo j:Nat}{w w':QV}(h:dd s b l m lo w (.ok (j,ts)) e w'):w.grownBy w' (some b)/\(∃q t,ts=[t]/\e=.returned (.pointer (some q))/\TF lo none w' t q)/\gS w' s b j l m :=⟨h.1,h.2.1 j ts rfl⟩
def dd.err{b j l lo:Nat}{w w':QV}(h:dd s b j l lo w (.error x) e w'):w.grownBy w' (some b)/\e=refusal x.1 x.2 :=⟨h.1,h.2.2 x rfl⟩
def dd.jo{b l m lo j:Nat}{w w':QV}(h:w.grownBy w' (some b))(p:gS w' s b j l m)(r:TF lo none w' t q):dd s b l m lo w (.ok (j,[t])) (.returned (.pointer (some q))) w' :=⟨h,λk ts n=>(by cases n;exact⟨⟨q,t,rfl,rfl,r⟩,p⟩),λx hx=>Sr⟩
def dd.eU{b j m lo:Nat}{w w':QV}(h:w.grownBy w' (some b)):dd s b j m lo w (.error x) (refusal x.1 x.2) w' :=⟨h,λk ts l=>(by cases l),λy hy=>S3⟩
def AK(s:ba)(f b j l i:Nat)(r:bY.RT):Prop :=∀w:QV,G w->gS w s b i j l->Calls prog f #[.pointer (some ⟨b,0,none⟩)] w (dd s b j l w.1.size w r)
def gS.kp{w w':QV}{b i deep its:Nat}(h:gS w s b i deep its)(j:w.grownBy w' (some b)):cK w w':=kz j (λcs t fz hb=>by
 rw[gS]at h;rw[h]at hb;cases hb;rintro(h|h|h)<;>cases h)
def jn(w o):cK w (w.alloc o):=cK.below ((Uz _ w).alloc (af _) o)
def Ln(w):gI w none .nilIface:=.inl ⟨rfl,rfl⟩
def I3{w:QV}{t1 t2:bY.T}{b l:Addr}(op:Nat)(n:lo<=w.1.size)(h1:TF lo none w t1 b)(h2:TF lo none w t2 l):TF lo none ((w.alloc (.cells #[.pointer (some b),.pointer (some l)] 121)).alloc (.cells #[.int .i64 1,.int .u8 op,.string ⟨#[]⟩,.nilIface,.slice (some ⟨w.1.size,0,none⟩) 2 2] 263)) ⟨1,op,[],none,[t1,t2]⟩ ⟨w.1.size+1,0,none⟩:=by
 have k1:=jn w (.cells #[.pointer (some b),.pointer (some l)] 121);have k2:=jn (w.alloc (.cells #[.pointer (some b),.pointer (some l)] 121)) (.cells #[.int .i64 1,.int .u8 (op:Int),.string ⟨#[]⟩,.nilIface,.slice (some ⟨w.1.size,0,none⟩) 2 2] 263);refine TF.node (fz:=(0,0)) ?_ RM (λe=>by cases e) Ln (au _) (pX.mk (qs:=[.pointer _,.pointer _]) ((UE _ _ _ R2).trans (heap_alloc_new w _)) n (λe=>by cases e) rfl (af _) (af _) (λi hi=>by simp) ?_)
 ·have:=heap_alloc_new (w.alloc (.cells #[.pointer (some b),.pointer (some l)] 121)) (.cells #[.int .i64 1,.int .u8 (op:Int),.string ⟨#[]⟩,.nilIface,.slice (some ⟨w.1.size,0,none⟩) 2 2] 263)
  rwa [World.size_alloc]at this
 intro j u q hu m
 match j with
 |0=>simp at hu m;subst hu m;exact⟨_,rfl,(h1.keeps k1).keeps k2⟩
 |1=>simp at hu m;subst hu m;exact⟨_,rfl,(h2.keeps k1).keeps k2⟩
 |j+2=>simp at hu
def CX(s:ba)(i k)(h:0<(s.extract i (i+k)).size):((s.extract i (i+k))[0]'h).toNat=(((s.1.1.drop i).take k).headD 0).toNat:=by
 have hd:(s.extract i (i+k)).1.1=(s.1.1.drop i).take k:=by
  rw[UG];congr 1;omega
 rw[<-hd];generalize s.extract i _=x at h;obtain⟨⟨l⟩⟩:=x;cases l with
 |nil=>exact absurd h RZ
 |cons a l=>rfl
def mg(s f l i m n q t lo w)(I:lo<=w.1.size)(g:G w)(h:gS w s l i m n)(B:TF lo none w t q)(hs:s.size<=281474976710656)(hi:i<=s.size)(z:8<=l)(hf:f=131\/f=173\/f=212)(J:1<=(bY.tok (s.1.1.drop i)).2)(r)(H:AK s f l m n (bY.fC s.1.1 i) r):Calls prog 133 #[.pointer (some ⟨l,0,none⟩),.pointer (some q),.func (.func f) #[.pointer (some ⟨l,0,none⟩)] #[]] w (dd s l m n lo w (bY.cZ r λj us=>.ok (j,[bY.iT s.1.1 i [t] us]))):=by
 have F:i+(bY.tok (s.1.1.drop i)).2<=s.size:=by
  have:=bY.yl s.1.1 i Sc;simpa using this
 have K:(s.extract i (i+(bY.tok (s.1.1.drop i)).2)).size=(bY.tok (s.1.1.drop i)).2:=by
  rw[QD];omega
 have u:=bZ H;have y:=bZ B;have E:∀(a b c d:Xa) (w:QV),(Instr.field 172 (.agg #[a,b,c,d]) 1).run prog w=.ok b w:=λ_ _ _ _ _=>by kernel_rfl
 rcases hf with rfl|rfl|rfl
 all_goals
  go_enter func133,ntmps133;go_wp2_with fail;refine(ju s l i m n _ g h hs hi).mono ?_;rintro e w1⟨rfl,h1,f1⟩;unfold l_;go_wp2_with fail
 all_goals
  refine(u.Z _ (g.fr f1 z) h1).mono ?_;rintro e w2 p
 all_goals rcases r with x|⟨j,us⟩
 all_goals try
  obtain⟨f2,rfl⟩:=dd.err p;exact⟨rfl,dd.eU (Fr.trans f1 f2)⟩
 all_goals
  obtain⟨f2,⟨N,t2,rfl,rfl,C⟩,h2⟩:=dd.ok p;go_wp2_with fail;go_ret;have L:=f1.size;have M:=f2.size;have D:=I3 (bY.iT s.1.1 i [t] [t2]).op RM ((y.Z.keeps (h.kp f1)).keeps (h1.kp f2)) (C.mono RM);have hb:=CX s i (bY.tok (s.1.1.drop i)).2 RM;rw[hb];exact dd.jo (Fr.alloc (Fr.alloc (Fr.trans f1 f2) _) _) ((h2.alloc _).alloc _) D
end
section
open bY
open Tryz
variable{l:a_}{b ts:List bY.T}
def pH{n p e m i:Nat}{j:Nat}(h:PT l n p e m i b=.ok (j,ts)):bY.P l n p e m i=.ok j:=by
 rw[<-oJ l n p e m i b,h];rfl
def sY(s:ba)(p n m f:Nat):Prop :=∀e j i:Nat,i<=s.size->e<=20->j<=e->8*(s.size-i)+bY.nd m<=n->AK s f p e j i (PT s.1.1 n m e j i [])
def CY(s y n)(hs:s.size<=281474976710656)(L:8<=y)(H:sY s y n 1 131):sY s y (n+1) 0 89:=by
 intro m p i hi hd J C w g h;have h1:=H m p i hi hd J (by simp[bY.nd]at C ⊢;omega);have F:PT _ (n+1) 0 m p i []=cZ (PT s.1.1 n 1 m p i []) λj ts=>if fY s.1.1 j [60,61]=true then cZ (PT s.1.1 n 1 m p (fC s.1.1 j) []) λk us=>.ok (k,[iT s.1.1 j ts us])else .ok (j,ts):=rfl;have E:=jv s.1.1 n 1 m p i;rw[F];rcases hx:PT s.1.1 n 1 m p i []with x|⟨j,ts⟩
 ·rw[hx]at h1;have B:=bZ h1;go_enter func89,ntmps89;go_wp2_with fail;refine(B.Z _ g h).mono ?_;rintro e w1 u;obtain⟨f1,rfl⟩:=dd.err u;exact⟨rfl,dd.eU f1⟩
 rw[hx]at h1;have hj:=E j (pH hx) Sc;have K:j<=s.size:=Sh;have B:=bZ h1;by_cases z:fY s.1.1 j [60,61]=true
 ·have S:=fO (one_pos z);have P:fC s.1.1 j<=s.size:=by have:=fb s.1.1 j (by simpa using K);simpa using this
  have h2:=H m p (fC s.1.1 j) P hd J (by simp[bY.nd]at C ⊢;omega);have I:=bZ h2;have N:=bZ (one_pos z);simp only[cZ,z,aN];clear F hx H h1 C h2 E hj;generalize PT s.1.1 n 1 m p (fC s.1.1 j) []=r at I ⊢;go_enter func89,ntmps89;go_wp2_with fail;refine(B.Z _ g h).mono ?_;rintro e w1 u;obtain⟨f1,⟨M,t1,rfl,rfl,G⟩,h1⟩:=dd.ok u;have D:=bZ G;go_wp2_with(go_at_call 132;refine(km s y j m p _ _ h1).mono ?_;rintro e w' ⟨rfl,rfl⟩);refine(mg s _ y j m p M t1 w.1.size _ f1.size (g.fr f1 L) h1 D.Z hs K L (Or.inl rfl) N.Z r I.Z).mono ?_;rintro e w2 u;rcases r with x|⟨k,us⟩
  ·obtain⟨f2,rfl⟩:=dd.err u;exact⟨rfl,dd.eU (Fr.trans f1 f2)⟩
  obtain⟨f2,⟨T,t2,e2,rfl,R⟩,h2⟩:=dd.ok u;have O:=bZ R;go_wp2_with fail;go_ret;cases e2;exact dd.jo (Fr.trans f1 f2) h2 O.Z
 have Q:fY s.1.1 j [60,61]=false:=by simpa using z
 simp only[cZ,Q,Qn,Q8];clear F hx H h1 C E hj z;go_enter func89,ntmps89;go_wp2_with fail;refine(B.Z _ g h).mono ?_;rintro e w1 u;obtain⟨f1,⟨M,t1,rfl,rfl,G⟩,h1⟩:=dd.ok u;have D:=bZ G;go_wp2_with(go_at_call 132;refine(km s y j m p _ _ h1).mono ?_;rintro e w' ⟨rfl,rfl⟩);go_ret;exact dd.jo f1 h1 D.Z
def AL(s f u n y D p r i J)(hs:s.size<=281474976710656)(F:8<=u)(hi:i<=s.size)(hd:p<=20)(Q:r<=p)(hf:f=173\/f=212)(S:y<=3)(a2:bY.nd y<=2)(ao:8*(s.size-i)+bY.nd y<=n)(H:∀m,m<=n->sY s u m y f)(hT:∀m j b,PT s.1.1 (m+1) D p r j b=if fY s.1.1 j J.1.1=true then cZ (PT s.1.1 m y p r (fC s.1.1 j) []) λk us=>PT s.1.1 m D p r k [iT s.1.1 j b us]else .ok (j,b))(w)(g:G w)(h:gS w s u i p r):Calls prog 172 #[.pointer (some ⟨u,0,none⟩),.string J,.func (.func f) #[.pointer (some ⟨u,0,none⟩)] #[]] w (dd s u p r w.1.size w (cZ (PT s.1.1 n y p r i []) λj ts=>PT s.1.1 n D p r j ts)):=by
 have h1:=H n (af _) p r i hi hd Q ao;have I:=jv s.1.1 n y p r i;rcases hx:PT _ n y p r i []with x|⟨j,ts⟩
 ·rw[hx]at h1;have K:=bZ h1;rcases hf with rfl|rfl
  all_goals
   go_enter func172,ntmps172;go_wp2_with fail;refine(K.Z _ g h).mono ?_;rintro e w1 C;obtain⟨f1,rfl⟩:=dd.err C;exact⟨rfl,dd.eU f1⟩
 rw[hx]at h1;have hj:=I j (pH hx) Sc;rw[ag S]at hj;have ap:j<=s.size:=Sh;have K:=bZ h1;have Z:=bZ hT;have V:=bZ H;have am:8*(s.size-j)+1<=n:=RM;show Calls _ _ _ _ (dd s u p r w.1.size w (PT s.1.1 n D p r j ts));generalize P:PT s.1.1 n D p r j ts=fin;have U:=bZ P;clear hx H h1 I hT hj P;rcases hf with rfl|rfl
 all_goals
  go_enter func172,ntmps172;go_wp2_with fail;refine(K.Z _ g h).mono ?_;rintro e w1 C;obtain⟨f1,⟨q1,t1,rfl,rfl,ax⟩,h1⟩:=dd.ok C;have aa:=bZ ax;go_wp2_with fail
  go_loopw [7] (λx wr=>∃(q:Addr) (t:bY.T) (k m:Nat),x=.pointer (some q)/\Hid (TF w.1.size none wr t q)/\gS wr s u k p r/\w.grownBy wr (some u)/\k<=s.size/\8*(s.size-k)+1<=m/\m<=n/\Hid (PT s.1.1 m D p r k [t]=fin)) (λ_ wr=>s.size-GD wr u)
  case atStart=>exact⟨q1,t1,j,n,rfl,aa,h1,f1,ap,am,af _,U⟩
  case round =>
   obtain⟨q,t,k,m,rfl,M,B,z,N,hm,aC,X⟩:=hrel;obtain⟨m,rfl⟩:∃m',m=m'+1:=⟨m-1,by omega⟩;have ak:=pq B;have T:=bZ ak;have hM:=X.Z;rw[Z.Z]at hM;by_cases E:fY s.1.1 k J.1.1=true
   ·rw[ag E]at hM;have a0:=fO (one_pos E);have R:fC s.1.1 k<=s.size:=by have:=fb s.1.1 k (by simpa using N);simpa using this
    have h2:=V.Z m RM p r (fC s.1.1 k) R hd Q RM;have I:=jv s.1.1 m y p r (fC s.1.1 k);have O:=bZ (one_pos E);rcases hx:PT s.1.1 m y p r (fC s.1.1 k) []with x|⟨k2,us⟩
    ·rw[hx]at h2 hM;have ad:=hM.symm;subst ad;have L:=bZ h2;go_wp2_with(go_at_call 132;refine(km s u k p r _ _ B).mono ?_;rintro e w' ⟨rfl,rfl⟩);refine(mg s _ u k p r q t w.1.size _ z.size (g.fr z F) B M.Z hs N F RM O.Z _ L.Z).mono ?_;rintro e w2 C;obtain⟨f2,rfl⟩:=dd.err C;exact⟨rfl,dd.eU (Fr.trans z f2)⟩
    have hj:=I k2 (pH hx) (by simpa using R);rw[ag S]at hj;have av:k2<=s.size:=Sh;rw[hx]at h2 hM;have L:=bZ h2;have ai:=hM;have Y:=bZ ai;go_wp2_with(go_at_call 132;refine(km s u k p r _ _ B).mono ?_;rintro e w' ⟨rfl,rfl⟩);refine(mg s _ u k p r q t w.1.size _ z.size (g.fr z F) B M.Z hs N F RM O.Z _ L.Z).mono ?_;rintro e w2 C;obtain⟨f2,⟨q2,t2,e2,rfl,ay⟩,h2⟩:=dd.ok C;have ab:=bZ ay;go_wp2_with fail;cases e2;refine⟨⟨q2,_,k2,m,rfl,ab,h2,Fr.trans z f2,av,by omega,by omega,Y⟩,?_⟩;rw[pq h2,T.Z];omega
   have a3:fY s.1.1 k J.1.1=false:=by simpa using E
   rw[ae E]at hM;subst hM;go_wp2_with(go_at_call 132;refine(km s u k p r _ _ B).mono ?_;rintro e w' ⟨rfl,rfl⟩);go_ret;exact dd.jo z B M.Z
def FG(s y n)(hs:s.size<=281474976710656)(F:8<=y)(H:∀m,m<=n->sY s y m 2 173):sY s y (n+1) 1 131:=by
 intro p u i hi hd E D w g h;have hc:=AL s 173 y n 2 4 p u i ⟨#[43,45]⟩ hs F hi hd E (Or.inl rfl) RM (by simp[bY.nd]) (by simp[bY.nd]at D ⊢;omega) H (λm j b=>rfl) w g h;have G:PT _ (n+1) 1 p u i []=cZ _ λj ts=>PT s.1.1 n 4 p u j ts:=rfl;rw[G];generalize (cZ _ λj ts=>PT _ n 4 p u j ts)=r at hc;have B:=bZ hc;go_enter func131,ntmps131;go_wp2_with fail;refine B.Z.mono ?_;rintro e w1 z;rcases r with x|⟨j,ts⟩
 ·obtain⟨f1,rfl⟩:=dd.err z;exact⟨rfl,dd.eU f1⟩
 obtain⟨f1,⟨J,t1,rfl,rfl,I⟩,h1⟩:=dd.ok z;have C:=bZ I;go_wp2_with fail;go_ret;exact dd.jo f1 h1 C.Z
def CZ(s y n)(hs:s.size<=281474976710656)(F:8<=y)(H:∀m,m<=n->sY s y m 3 212):sY s y (n+1) 2 173:=by
 intro p u i hi hd E D w g h;have hc:=AL s 212 y n 3 5 p u i ⟨#[42,47]⟩ hs F hi hd E (Or.inr rfl) RM (by simp[bY.nd]) (by simp[bY.nd]at D ⊢;omega) H (λm j b=>rfl) w g h;have G:PT _ (n+1) 2 p u i []=cZ _ λj ts=>PT s.1.1 n 5 p u j ts:=rfl;rw[G];generalize (cZ _ λj ts=>PT _ n 5 p u j ts)=r at hc;have B:=bZ hc;go_enter func173,ntmps173;go_wp2_with fail;refine B.Z.mono ?_;rintro e w1 z;rcases r with x|⟨j,ts⟩
 ·obtain⟨f1,rfl⟩:=dd.err z;exact⟨rfl,dd.eU f1⟩
 obtain⟨f1,⟨J,t1,rfl,rfl,I⟩,h1⟩:=dd.ok z;have C:=bZ I;go_wp2_with fail;go_ret;exact dd.jo f1 h1 C.Z
end
section
open bY
open Tryz
def mF(s b i l m t w)(g:G w)(h:gS w s b i l m)(hs:s.size<=281474976710656)(K:8<=b)(r)(H:AK s 89 b l m i r)(z:∀j ts,r=.ok (j,ts)->j<=s.size):Calls prog 294 #[.pointer (some ⟨b,0,none⟩),.string t] w (dd s b l m w.1.size w (cZ r (eQ s.1.1 t.1.1))):=by
 have p:=bZ H;clear H;rcases r with x|⟨j,ts⟩
 ·show Calls _ _ _ _ (dd s b l m w.1.size w (.error x));clear z;go_enter func294,ntmps294;go_wp2_with fail;refine(p.Z _ g h).mono ?_;rintro e w1 n;obtain⟨f1,rfl⟩:=dd.err n;exact⟨rfl,dd.eU f1⟩
 have hj:=z j ts rfl;show Calls _ _ _ _ (dd s b l m w.1.size w (eQ s.1.1 t.1.1 j ts));clear z;have y:=lg s.1.1 t.1.1 j ts;have B:∀k us,eQ s.1.1 t.1.1 j ts=.ok (k,us)->us=ts:=λk us h=>by
  unfold eQ at h;split at h<;>cases h;rfl
 generalize eQ s.1.1 t.1.1 j ts=r at y B;have C:=bZ y.symm;have F:=bZ B;clear y B;go_enter func294,ntmps294;go_wp2_with fail;refine(p.Z _ g h).mono ?_;rintro e w1 n;obtain⟨f1,⟨L,t1,rfl,rfl,D⟩,h1⟩:=dd.ok n;have E:=bZ D;clear n p D;go_wp2_with fail;refine(lk s b j l m t _ (g.fr f1 K) h1 hs hj).mono ?_;rintro e w2⟨f2,h2,u⟩;rw[C.Z]at h2 u;rcases r with x|⟨k,us⟩
 ·have J:=u x rfl;subst J;exact⟨rfl,dd.eU (Fr.trans f1 f2)⟩
 obtain⟨rfl,I⟩:=h2 k rfl;clear h2 u C;go_wp2_with fail;go_ret;rw[F.Z k us rfl];exact dd.jo (Fr.trans f1 f2) I (E.Z.keeps (h1.kp f2))
def AM(s b i l its w)(g:G w)(h:gS w s b i l its)(hs:s.size<=281474976710656)(B:8<=b)(N:its<=20)(r)(H:AK s 89 b l (its+1) i r)(C:∀j ts,r=.ok (j,ts)->j<=s.size):Calls prog 297 #[.pointer (some ⟨b,0,none⟩)] w (dd s b l its w.1.size w (cZ r (eQ s.1.1 [41]))):=by
 obtain⟨F,c1,c2,I,J,K,L,cf⟩:=h.cells;have z:=h.its (its+1);have m:w.grownBy (w.setCell ⟨b,6,none⟩ (.int .i64 ((its+1:Nat):Int))) (some b):=Fr.set (UD _ _) _ _;have hu:=mF s b i l (its+1) ⟨#[41]⟩ _ (g.fr m B) z hs B r H C;rw[show(w.setCell ⟨b,6,none⟩ (.int .i64 ((its+1:Nat):Int))).1.size=w.1.size by simp[World.setCell]]at hu;have p:Calls prog 294 #[.pointer (some ⟨b,0,none⟩),.string ⟨#[41]⟩] (w.setCell ⟨b,6,none⟩ (.int .i64 ((its:Int)+1))) (dd s b l (its+1) w.1.size (w.setCell ⟨b,6,none⟩ (.int .i64 ((its:Int)+1))) (cZ r (eQ s.1.1 [41]))):=hu;generalize cZ r (eQ s.1.1 [41])=r' at p;have y:=bZ p;have u:=bZ m;clear hu p H C z m;go_enter func297,ntmps297;go_wp2_with fail;refine y.Z.mono ?_;rintro e w1 n;rcases r' with x|⟨j,ts⟩
 ·obtain⟨f1,rfl⟩:=dd.err n;exact⟨rfl,dd.eU (Fr.trans u.Z f1)⟩
 obtain⟨f1,⟨O,t1,rfl,rfl,D⟩,h1⟩:=dd.ok n;have E:=bZ D;clear D;obtain⟨d0,d1,d2,d3,d4,d5,d6,M⟩:=h1.cells;clear n y;go_wp2_with fail;go_ret;exact dd.jo (Fr.set (Fr.trans u.Z f1) _ _) (h1.its its) (E.Z.keeps (h1.kp (Fr.set (UD _ _) _ _)))
end
