/- Out of Hp. -/
import Derived.Test.YtpekpdimdelncaaGreatDoorP40
import Derived.Test.YtpekpdimdelncaaGreatDoorP42
set_option linter.unusedVariables false
set_option linter.unusedSimpArgs false
set_option maxRecDepth 100000
set_option maxHeartbeats 2000000
set_option linter.defProp false
namespace Go.Proofs.YtpekpdimdelncaaGreatDoor
open Go.RowKit Go.Shelf
section
open bY
namespace mK
variable{s:LS}{M:Nat}{kY key b:a_}
structure PI(s:LS)(M:Nat):Prop where
 sound:Sound s
 fs:gn s.fresh
 hl:HL s.cm
 jr:(cW s.jr).length<=M
def PI.le{e:Nat}(h:PI s M)(hM:M<=e):PI s e:={ h with jr:=ah h.jr hM }
def PI.new:PI LS.new 0 where
 sound:=Sound.new
 fs:=⟨λk th h=>Sa,λk th t h=>Sa,λk kp h=>Sa,λk w h=>Sa⟩
 hl:=⟨by decide,λk h=>by cases h⟩
 jr:=af _
def PI.fit(h:PI s M):Fit s M:=⟨h.sound.kb,h.sound.b_,h.sound.len,h.jr⟩
def PI.pre(h:PI s M)(hM:M<=100000000000000000):Ref.vM 42 s.fresh where
 kb:=h.sound.kb
 un:=by have:=MU s.fresh;have:s.fresh.cm.length<=40:=h.sound.len;omega
 b_:=by show s.b_.length+42<=200;rw[h.sound.b_];simp
 mM:=by have:=uV s.fresh;have:s.fresh.cm.length<=40:=h.sound.len;show 0+1000*Rs s.fresh+1000*42<=_;omega
 du:=by have:=uV s.fresh;have:s.fresh.cm.length<=40:=h.sound.len;show 0+Rs s.fresh+42<=_;omega
 fs:=h.fs
 hl:=h.hl
 ph:=by
  have h1:=uV s.fresh;have h2:s.fresh.cm.length<=40:=h.sound.len;have j:(s.fresh.jr.flatMap _).length<=M:=h.jr;have l:LN*Rs s.fresh<=LN*40:=QC _ RM;unfold Ph;have m:LN*40=200000000:=rfl;omega
 br:=λk e=>by
  have e:k∈s.b_:=e;rw[h.sound.b_]at e;cases e
def PI.ask(h:PI s M)(key:a_):PI (s.ask key).2 (M+200000000) where
 sound:=h.sound.ask key
 fs:=by
  have:=(oZ 42 key _ h.fs).2.1;exact⟨this.val,this.dc,this.kept,λk w e=>by cases e⟩
 hl:=h.hl.cX (h.sound.p8 key).cX
 jr:=by
  have:=LZ h.fs h.sound.kb h.hl key;have h2:(s.jr.flatMap _).length<=M:=h.jr;show((s.ask key).2.jr.flatMap _).length<=_;omega
structure GT(key:a_)(th:cu):Prop where
 fine:IX th
 val:th.dc=none->L3 th.value
 dc:∀t,th.dc=some t->LA t
 ks:key.length<=8
 len:(dU key th).length<=100000000
def PI.iq(h:PI s M){th:cu}(l:GT kY th):PI (s.iq kY th).2 (M+200000000):=by
 have hs:=h.sound.iq (kY:=kY) l.fine;unfold LS.iq at hs ⊢;by_cases r:(bY.cr s.cm kY).isNone=true/\40<=s.cm.length
 ·rw[ag r];exact h.le (aJ _ _)
 rw[ae r]at hs ⊢;have j:=l.fine.1;exact{
  sound:=hs
  fs:=by
   refine⟨λk p hl n=>?_,λk p t hl n=>?_,λk kp m=>?_,λk w u=>by cases u⟩
   ·have hl:bY.cr (bY.put s.cm kY th) k=some p:=hl;rw[ep]at hl;split at hl
    ·cases hl;exact l.val n
    exact h.fs.val k p hl n
   ·have hl:bY.cr (bY.put s.cm kY th) k=some p:=hl;rw[ep]at hl;split at hl
    ·cases hl;exact l.dc t n
    exact h.fs.dc k p t hl n
   have m:cS (bY.put s.cm kY th) k=some kp:=m;rw[ra _ _ _ j]at m;split at m
   ·cases m
   exact h.fs.kept k kp m
  hl:=⟨hs.len,λk j=>by
   have j:(bY.cr (bY.put s.cm kY th) k).isSome=true:=j;rw[ep]at j;split at j
   ·rename_i e;rw[<-e];exact l.ks
   ·exact h.hl.key k j⟩
  jr:=by
   show(cW (s.jr++[dU kY th])).length<=_;rw[eN,aj,lY];have:=h.jr;have:=l.len;omega }
def PI.drop(h:PI s M)(e:key.length<=8):PI (s.drop key) (M+200000000) where
 sound:=h.sound.drop key
 fs:=by
  refine⟨λk l hl m=>?_,λk l t hl m=>?_,λk kp j=>?_,λk w n=>by cases n⟩
  ·have hl:bY.cr (bY.del s.cm key) k=some l:=hl;rw[oK]at hl;split at hl
   ·cases hl
   exact h.fs.val k l hl m
  ·have hl:bY.cr (bY.del s.cm key) k=some l:=hl;rw[oK]at hl;split at hl
   ·cases hl
   exact h.fs.dc k l t hl m
  have j:cS (bY.del s.cm key) k=some kp:=j;rw[rh]at j;split at j
  ·cases j
  exact h.fs.kept k kp j
 hl:=⟨(h.sound.drop key).len,λk e=>by
  have e:(bY.cr (bY.del s.cm key) k).isSome=true:=e;rw[oK]at e;split at e
  ·cases e
  ·exact h.hl.key k e⟩
 jr:=by
  have:=Mv s key;have:=h.jr;omega
def PI.lH(h:PI s M)(j:b.length<=20000000):PI (s.lH key b).2 (M+200000000):=by
 unfold LS.lH;split
 ·exact h.le (aJ _ _)
 rename_i e;have e:dL key=true:=Sw;have l:=kC e;cases hv:sA b with
 |none=>exact h.le (aJ _ _)
 |some v =>
  obtain⟨h1,h2⟩:=qE hv;refine h.iq ⟨⟨rfl,.inl ⟨rfl,h1⟩⟩,λ_=>h1,(λt j=>by cases j),l,?_⟩;show([112,117,116,32]++key++32 :: wr 3 v).length<=_;rw[<-h2];simp;omega
def PI.jK(h:PI s M)(j:b.length<=20000000):PI (s.jK key b).2 (M+200000000):=by
 unfold LS.jK;split
 ·exact h.le (aJ _ _)
 rename_i e;have e:dL key=true:=Sw;have l:=kC e;split
 ·refine h.iq ⟨⟨rfl,.inr ⟨_,rfl,CA _⟩⟩,(λh=>by cases h),(λt j=>by cases j;exact xw _),l,?_⟩;show([115,101,116,32]++key++32 :: b).length<=_;simp;omega
 exact h.le (aJ _ _)
def PI.jO(h:PI s M):PI (s.jO kY).2 (M+200000000):=by
 unfold LS.jO;split
 ·exact h.le (aJ _ _)
 rename_i e;have e:dL kY=true:=Sw;split
 ·exact h.le (aJ _ _)
 exact h.drop (kC e)
end mK
end
section
open bY
open Tryz
namespace mK
def N2(w:QV)(r:Nat)(b u:ba)(g:G w)(n:b.size<=281474976710656)(p:dL b.1.1=false):Calls prog 25 #[ptr r,.string b,.string u] w λe w'=>e=.returned (.tuple #[.int .i64 1,.int .i64 0])/\Xb w w':=by
 have j:=eg b w g n;rw[p]at j;have l:=bZ j;clear j;unfold ptr;go_enter func25,ntmps25;go_wp2_with fail;refine l.Z.mono ?_;rintro e w1⟨rfl,m⟩;go_wp2_with fail;go_ret2;exact⟨rfl,m⟩
def Mw(w:QV)(F:Nat)(j b:ba)(g:G w)(B:j.size<=281474976710656)(C:dL j.1.1=true)(hc:(bY.check b.1.1).1≠0)(E:b.size<=9223372036854775807):Calls prog 25 #[ptr F,.string j,.string b] w λe w'=>e=.returned (.tuple #[.int .i64 ((bY.check b.1.1).1:Int),.int .i64 ((bY.check b.1.1).2:Int)])/\Xb w w':=by
 have m:=eg j w g B;rw[C]at m;have u:=λ(w1:QV) (y:Xb w w1)=>va b w1 (g.below y g.size) E;have I:¬(((bY.check b.1.1).1:Int)=0):=RM;have n:=bZ m;have p:=bZ u;clear m u hc;unfold ptr;go_enter func25,ntmps25;go_wp2_with fail;refine n.Z.mono ?_;rintro e w1⟨rfl,l⟩;have r:=bZ (p.Z w1 l);clear p n;go_wp2_with fail;refine r.Z.mono ?_;rintro e w2⟨⟨q,rfl,D⟩,z⟩;clear r D;go_wp2_with fail;go_ret2;exact⟨rfl,l.trans (z.mono l.size)⟩
def Mx(w:QV)(l:Nat)(b j:ba)(s:LS)(L:Nat->Prop)(h:fD w l s L)(g:G w)(hd:jI w)(p:b.size<=20000000)(r:j.size<=20000000)(hlen:s.cm.length<=40)(hj:(cW s.jr).length<=70368744177664):Calls prog 25 #[ptr l,.string b,.string j] w λe w'=>e=.returned (.tuple #[.int .i64 ((s.jK b.1.1 j.1.1).1.1:Nat),.int .i64 ((s.jK b.1.1 j.1.1).1.2:Nat)])/\ez w l L (s.jK b.1.1 j.1.1).2 w':=by
 unfold LS.jK;cases n:dL b.1.1 with
 |false =>
  rw[ag rfl];refine(N2 w l b j g RM n).mono ?_;rintro e w'⟨rfl,m⟩;exact⟨rfl,ez.below h m⟩
 |true =>
  rw[ae R2];by_cases hc:(bY.check j.1.1).1=0
  ·rw[ag hc];exact NA w l b j s L _ h g hd n (yc hc).1 hlen hj
  rw[ae hc];refine(Mw w l b j g RM n hc RM).mono ?_;rintro e w'⟨rfl,m⟩;exact⟨rfl,ez.below h m⟩
def My(w:QV)(r:Nat)(b:ba)(g:G w)(n:b.size<=281474976710656)(p:dL b.1.1=false):Calls prog 47 #[ptr r,.string b] w λe w'=>e=.returned (.int .i64 1)/\Xb w w':=by
 have j:=eg b w g n;rw[p]at j;have l:=bZ j;clear j;unfold ptr;go_enter func47,ntmps47;go_wp2_with fail;refine l.Z.mono ?_;rintro e w1⟨rfl,m⟩;go_wp2_with fail;exact UA (v:=.int .i64 1) (by simp[results,results47,go_sem]) rfl ⟨rfl,m⟩
def J6(w:QV)(j:Nat)(b:ba)(s:LS)(L:Nat->Prop)(h:fD w j s L)(g:G w)(hd:jI w)(n:b.size<=20000000)(hj:(cW s.jr).length<=70368744177664):Calls prog 47 #[ptr j,.string b] w λe w'=>e=.returned (.int .i64 ((s.jO b.1.1).1:Nat))/\ez w j L (s.jO b.1.1).2 w':=by
 unfold LS.jO;cases m:dL b.1.1 with
 |false =>
  rw[ag rfl];refine(My w j b g RM m).mono ?_;rintro e w'⟨rfl,l⟩;exact⟨rfl,ez.below h l⟩
 |true =>
  rw[ae R2];cases hl:bY.cr s.cm b.1.1 with
  |none =>
   rw[ag (show(none:Option cu).isNone=true from rfl)];refine(Gj w j b s L h g m hl).mono ?_;rintro e w'⟨rfl,l⟩;exact⟨rfl,ez.below h l⟩
  |some th =>
   rw[ae R2];exact Gk w j b s L th h g hd m hl hj
end mK
end
section
namespace mK
open Go.RowKit Go.Shelf Ref
structure kW where
 lb:Nat
 sP:bY.LS
 rb:Nat
 sR:bY.LS
structure WP(w0 w:QV)(wb:Nat)(ps:List kW)(N:Nat)(o:Nat->Nat)(vL vR vN:Xa)(hs:List (Xa×Nat×Nat))(H:Nat->Prop):Prop where
 hd:kc w wb vL vR vN N hs H
 hlen:hs.length=4*N
 mh:w.ownsRow 8 29 1 vL ps.length (ps.map λp=>ptr p.lb)
 nO:w.ownsRow 8 102 1 vR ps.length (ps.map λp=>ptr p.rb)
 tW:o wb=0
 tL:∀g,vL.ownBlock=some g->o g=0
 tR:∀g,vR.ownBlock=some g->o g=0
 tH:∀k,H k->o k=1
 prog:∀(i:Nat) (p:kW),ps[i]?=some p->∃L,fD w p.lb p.sP L/\∀k,L k->o k=2*i+2
 doc:∀(i:Nat) (p:kW),ps[i]?=some p->∃R,jJ p.rb p.sR w R/\∀k,R k->o k=2*i+3
 g:G w
 pD:jI w
 w8:8<=wb
 eh:Xb w0 w
 old:∀k,k<w0.1.size->o k=1000000000000
 few:ps.length<=1000000
structure Fo(F:Nat->Prop)(w:QV):Prop where
 lo:∀k,F k->8<=k
 rQ:∀k,F k->∀(cs:Array Xa) (t:TypeId) (fz:Nat×Nat),w.1[k]?=some (.cells cs t fz)->¬Kx t/\¬Po t
section
variable {F:Nat->Prop} {w w':QV}
def Fo.keeps(h:Fo F w)(hf:ed F w w'):cK w w':=λk cs t fz b e=>(hf.block k (cj b) (λhx=>(h.rQ k hx cs t fz b).1 e)).trans b
def Fo.kn(h:Fo F w)(hf:ed F w w'):KN w w':=λk cs t fz b e=>(hf.block k (cj b) (λhx=>(h.rQ k hx cs t fz b).2 e)).trans b
def Fo.below(h:Fo F w)(hf:ed F w w')(b:8<=w.1.size):Below 8 w w':=⟨hf.os,hf.tape,hf.output,hf.size,λk e=>hf.block k RM (λhx=>by have:=h.lo k hx;omega)⟩
def Ep(w:QV):Fo (λ_=>False) w:=⟨λk b=>b.elim,λk b=>b.elim⟩
def MA{j:Nat}{s:bY.LS}{L:Nat->Prop}(h:fD w j s L):Fo L w:=⟨λk e=>(h.ct k e).1,λk e cs t fz hc=>by
 rcases(h.ct k e).2.2 with⟨es,c,h1⟩|⟨cs',t',l,h1,h2⟩
 ·rw[h1]at hc;cases hc
 ·rw[h1]at hc;cases hc;refine⟨λhi=>h2.rQ (.inl hi),λb=>?_⟩;rcases h2 with rfl|rfl|rfl|rfl|rfl|rfl|rfl<;>(rcases b with b|b<;>cases b)⟩
def N4{R:Nat->Prop}(h:Typed w R):Fo R w:=⟨λk b=>(h k b).1,λk b cs t fz hc=>by
 obtain⟨_,cs',t',e,h1,h2⟩:=h k b;rw[h1]at hc;cases hc;refine⟨λhi=>?_,h2.no⟩;rcases h2 with rfl|rfl|rfl|rfl|rfl|rfl<;>(rcases hi with hi|hi|hi<;>cases hi)⟩
end
def jJ.st{w w':QV}{b:Nat}{s:bY.LS}{R:Nat->Prop}(h:jJ b s w R)(hs:∀k,R k->w'.1[k]?=w.1[k]?)(e:KN w w'):jJ b s w' R:=by
 obtain⟨d,h⟩:=h;exact⟨d,h.st hs e⟩
section
variable {w0 w w':QV} {wb:Nat} {ps:List kW} {N:Nat} {o:Nat->Nat} {vL vR vN:Xa} {hs:List (Xa×Nat×Nat)} {H:Nat->Prop}
def WP.stays(h:WP w0 w wb ps N o vL vR vN hs H){F:Nat->Prop}(hf:ed F w w')(hF:Fo F w){t:Nat}(C:∀k,F k->o k=t):(t≠0->t≠1->kc w' wb vL vR vN N hs H)/\(t≠0->w'.ownsRow 8 29 1 vL ps.length (ps.map λp=>ptr p.lb)/\w'.ownsRow 8 102 1 vR ps.length (ps.map λp=>ptr p.rb)) /\(∀(i:Nat) (p:kW),ps[i]?=some p->t≠2*i+2->∃L,fD w' p.lb p.sP L/\(∀k,L k->o k=2*i+2/\k<w.1.size))/\(∀(i:Nat) (p:kW),ps[i]?=some p->t≠2*i+3->∃R,jJ p.rb p.sR w' R/\(∀k,R k->o k=2*i+3/\k<w.1.size))/\G w'/\jI w'/\(t≠1000000000000->Xb w0 w'):=by
 have l:∀k,k<w.1.size->o k≠t->w'.1[k]?=w.1[k]? := λk b j=>hf.block k b (λhx=>j (C k hx));have y:=hF.below hf h.g.size;refine⟨λm h1=>h.hd.st (λk b=>?_) hf.size,λm=>⟨cD h.mh (λk b cs fz hb=>(l k (cj hb) (by rw[h.tL k b];exact λe=>m e.symm)).trans hb),cD h.nO (λk b cs fz hb=>(l k (cj hb) (by rw[h.tR k b];exact λe=>m e.symm)).trans hb)⟩,λi p u j=>?_,λi p u j=>?_,h.g.below y (af _),h.pD.below y (af _),λj=>h.eh.trans ⟨hf.os,hf.tape,hf.output,hf.size,λk b=>hf.block k (aA b h.eh.size) (λhx=>j ((C k hx).symm.trans (h.old k b)))⟩⟩
 ·rcases b with b|rfl
  ·exact l k (h.hd.ct k b).2.1 (by rw[h.tH k b];exact λe=>h1 e.symm)
  exact l k (cj h.hd.eb) (by rw[h.tW];exact λe=>m e.symm)
 ·obtain⟨L,n,z⟩:=h.prog i p u;exact⟨L,n.st (λk b=>l k (n.ct k b).2.1 (by rw[z k b];exact λe=>j e.symm)) (hF.keeps hf).stay,λk b=>⟨z k b,(n.ct k b).2.1⟩⟩
 obtain⟨R,r,B⟩:=h.doc i p u;exact⟨R,jJ.st r (λk b=>l k (r.ct.lt b) (by rw[B k b];exact λe=>j e.symm)) (hF.kn hf),λk b=>⟨B k b,r.ct.lt b⟩⟩
def WP.below(h:WP w0 w wb ps N o vL vR vN hs H)(j:Xb w w'):WP w0 w' wb ps N o vL vR vN hs H:=by
 have hf:ed (λ_=>False) w w':=⟨j.os,j.tape,j.output,j.size,λk e _=>j.block k e⟩;obtain⟨_,_,m,n,r,s6,u⟩:=h.stays hf (Ep w) (t:=0) (λk e=>e.elim);refine⟨h.hd.below j,h.hlen,cD h.mh (λk e cs fz hb=>(j.block k (cj hb)).trans hb),cD h.nO (λk e cs fz hb=>(j.block k (cj hb)).trans hb),h.tW,h.tL,h.tR,h.tH,λi p l=>?_,λi p l=>?_,r,s6,h.w8,u RZ,h.old,h.few⟩
 ·obtain⟨L,a,b⟩:=m i p l RM;exact⟨L,a,λk e=>(b k e).1⟩
 obtain⟨R,a,b⟩:=n i p l RM;exact⟨R,a,λk e=>(b k e).1⟩
def lK{w:QV}{e:TypeId}{n m:Nat}{v:Xa}{xs:List Xa}(h:w.ownsRow 8 e m v n xs){k:Nat}(b:v.ownBlock=some k):k<w.1.size:=(UH h k b).2
def WP.Bu(h:WP w0 w wb ps N o vL vR vN hs H){i:Nat}{p:kW}(u:ps[i]?=some p):∃L,fD w p.lb p.sP L/\(∀k,L k->o k=2*i+2)/\∀(s':bY.LS) (w':QV) (L' X:Nat->Prop),fD w' p.lb s' L'->(∀k,L' k->L k\/w.1.size<=k)->ed L w w'->(∀k,X k->w.1.size<=k/\¬L' k)->∃o',WP w0 w' wb (ps.set i { p with sP:=s' }) N o' vL vR vN hs H/\(∀k,k<w.1.size->o' k=o k)/\(∀k,X k->o' k=1):=by
 obtain⟨L,C,z⟩:=h.prog i p u;refine⟨L,C,z,λs' w' L' X G I J B=>?_⟩;obtain⟨O,P,Q,D,R,s6,S⟩:=h.stays J (MA C) z;have hi:=(az.1 u).1
 classical
 have l:∀k,k<w.1.size->(if L' k then 2*i+2 else if X k then 1 else o k)=o k:=λk e=>by
  by_cases h1:L' k
  ·rw[ag h1];rcases I k h1 with h2|h2
   ·exact(z k h2).symm
   omega
  rw[ae h1,ae (λhx=>by have:=(B k hx).1;omega)]
 obtain⟨K,M⟩:=P RM;refine⟨λk=>if L' k then 2*i+2 else if X k then 1 else o k,⟨O RM RM,h.hlen,?_,?_,(l _ (cj h.hd.eb)).trans h.tW,λg n=>(l g (lK h.mh n)).trans (h.tL g n),λg n=>(l g (lK h.nO n)).trans (h.tR g n),λk e=>(l k (h.hd.ct k e).2.1).trans (h.tH k e),λj q m=>?_,λj q m=>?_,R,s6,h.w8,S (by have:=h.few;omega),λk e=>(l k (aA e h.eh.size)).trans (h.old k e),by rw[aX];exact h.few⟩,l,λk e=>?_⟩
 ·rw[aX,QR];rw[kF _ i (ptr p.lb) Ta];exact K
 ·rw[aX,QR];rw[kF _ i (ptr p.rb) Ta];exact M
 ·by_cases r:i=j
  ·subst r;rw[P4 hi]at m;cases m;exact⟨L',G,λk e=>ag e⟩
  rw[Qt r]at m;obtain⟨E,a,b⟩:=Q j q m RM;exact⟨E,a,λk e=>(l k (b k e).2).trans (b k e).1⟩
 ·by_cases r:i=j
  ·subst r;rw[P4 hi]at m;cases m;obtain⟨y,a,b⟩:=D i p u RM;exact⟨y,a,λk e=>(l k (b k e).2).trans (b k e).1⟩
  rw[Qt r]at m;obtain⟨y,a,b⟩:=D j q m RM;exact⟨y,a,λk e=>(l k (b k e).2).trans (b k e).1⟩
 show(if L' k then 2*i+2 else if X k then 1 else o k)=1;rw[ae (B k e).2,ag e]
def WP.Er(h:WP w0 w wb ps N o vL vR vN hs H){i:Nat}{p:kW}(u:ps[i]?=some p):∃R,jJ p.rb p.sR w R/\∀(s':bY.LS) (w':QV),eX (jJ p.rb s') w R w'->∃o',WP w0 w' wb (ps.set i { p with sR:=s' }) N o' vL vR vN hs H/\(∀k,k<w.1.size->o' k=o k)/\w.1.size<=w'.1.size/\(∀k,k<w.1.size->o k≠2*i+3->w'.1[k]?=w.1[k]?):=by
 obtain⟨R,C,B⟩:=h.doc i p u;refine⟨R,C,λs' w' J=>?_⟩;obtain⟨R',G,I,_,z⟩:=J;obtain⟨P,Q,D,S,T,s6,U⟩:=h.stays z (N4 C.ct) B;have hi:=(az.1 u).1
 classical
 have l:∀k,k<w.1.size->(if R' k then 2*i+3 else o k)=o k:=λk e=>by
  by_cases h1:R' k
  ·rw[ag h1];rcases I k h1 with h2|h2
   ·exact(B k h2).symm
   omega
  rw[ae h1]
 obtain⟨M,O⟩:=Q RM;refine⟨λk=>if R' k then 2*i+3 else o k,⟨P RM RM,h.hlen,?_,?_,(l _ (cj h.hd.eb)).trans h.tW,λg n=>(l g (lK h.mh n)).trans (h.tL g n),λg n=>(l g (lK h.nO n)).trans (h.tR g n),λk e=>(l k (h.hd.ct k e).2.1).trans (h.tH k e),λj q m=>?_,λj q m=>?_,T,s6,h.w8,U (by have:=h.few;omega),λk e=>(l k (aA e h.eh.size)).trans (h.old k e),by rw[aX];exact h.few⟩,l,z.size,λk e K=>z.block k e (λL=>K (B k L))⟩
 ·rw[aX,QR];rw[kF _ i (ptr p.lb) Ta];exact M
 ·rw[aX,QR];rw[kF _ i (ptr p.rb) Ta];exact O
 ·by_cases r:i=j
  ·subst r;rw[P4 hi]at m;cases m;obtain⟨y,a,b⟩:=D i p u RM;exact⟨y,a,λk e=>(l k (b k e).2).trans (b k e).1⟩
  rw[Qt r]at m;obtain⟨y,a,b⟩:=D j q m RM;exact⟨y,a,λk e=>(l k (b k e).2).trans (b k e).1⟩
 by_cases r:i=j
 ·subst r;rw[P4 hi]at m;cases m;exact⟨R',G,λk e=>ag e⟩
 rw[Qt r]at m;obtain⟨E,a,b⟩:=S j q m RM;exact⟨E,a,λk e=>(l k (b k e).2).trans (b k e).1⟩
end
end mK
end
section
open Tryz
namespace mK
open Go.RowKit Go.Shelf Ref
def tK(c:Int)(w:QV):Calls prog 39 #[.int .i64 c] w λe w'=>e=.returned (.int .i64 c)/\w'=w:=by
 go_enter func39,ntmps39;go_wp2_with fail;go_ret;exact⟨rfl,rfl⟩
section
variable {w0 w w':QV} {wb:Nat} {ps:List kW} {N:Nat} {o:Nat->Nat} {vL vR vN:Xa} {hs:List (Xa×Nat×Nat)} {H:Nat->Prop}
def WP.box(h:WP w0 w wb ps N o vL vR vN hs H)(j:Xb w w'):∃o',WP w0 w' wb ps N o' vL vR vN hs H/\(∀k,w.1.size<=k->o' k=0)/\∀k,k<w.1.size->o' k=o k:=by
 have hf:ed (λ_=>False) w w':=⟨j.os,j.tape,j.output,j.size,λk e _=>j.block k e⟩;obtain⟨_,_,r,u,y,s6,z⟩:=h.stays hf (Ep w) (t:=0) (λk e=>e.elim);have l:∀k,k<w.1.size->(if k<w.1.size then o k else 0)=o k:=λk e=>ag e;refine⟨λk=>if k<w.1.size then o k else 0,⟨h.hd.below j,h.hlen,cD h.mh (λk e cs fz hb=>(j.block k (cj hb)).trans hb),cD h.nO (λk e cs fz hb=>(j.block k (cj hb)).trans hb),(l _ (cj h.hd.eb)).trans h.tW,λg m=>(l g (lK h.mh m)).trans (h.tL g m),λg m=>(l g (lK h.nO m)).trans (h.tR g m),λk e=>(l k (h.hd.ct k e).2.1).trans (h.tH k e),λi p n=>?_,λi p n=>?_,y,s6,h.w8,z RZ,λk e=>(l k (aA e h.eh.size)).trans (h.old k e),h.few⟩,λk e=>ae RM,l⟩
 ·obtain⟨L,a,b⟩:=r i p n RM;exact⟨L,a,λk e=>(l k (b k e).2).trans (b k e).1⟩
 obtain⟨R,a,b⟩:=u i p n RM;exact⟨R,a,λk e=>(l k (b k e).2).trans (b k e).1⟩
def WP.OY(h:WP w0 w wb ps N o vL vR vN hs H){i:Nat}{p:kW}(r:ps[i]?=some p):∃b l j m,vL=.slice (some ⟨b,0,none⟩) ps.length l/\vR=.slice (some ⟨j,0,none⟩) ps.length m/\b<w.1.size/\j<w.1.size/\w.cell? ⟨b,i,none⟩=some (ptr p.lb)/\w.cell? ⟨j,i,none⟩=some (ptr p.rb)/\w.cell? ⟨wb,0,none⟩=some vL/\w.cell? ⟨wb,1,none⟩=some vR/\wb<w.1.size:=by
 have hi:=(az.1 r).1;have hcell:∀{e:TypeId} {v:Xa} {f:kW->Xa},w.ownsRow 8 e 1 v ps.length (ps.map f)->∃g c,v=.slice (some ⟨g,0,none⟩) ps.length c/\g<w.1.size/\w.cell? ⟨g,i,none⟩=some (f p):=λ{e v f} n=>by
  rcases n.2 with⟨_,D⟩|⟨g,B,C,e1,_,hb,_⟩
  ·omega
  subst e1;have:=n.cells (g:=g) rfl i (f p) (by rw[P2,r];rfl);rw[addr_add,aI]at this;exact⟨g,B,rfl,cj hb,this⟩
 obtain⟨b,l,a1,u,y⟩:=hcell h.mh;obtain⟨j,m,b1,b2,z⟩:=hcell h.nO;have hb:=h.hd.eb;exact⟨b,l,j,m,a1,b1,u,b2,y,z,by simp[World.cell?,hb],by simp[World.cell?,hb],cj hb⟩
end
structure WS(w0 w:QV)(wb:Nat)(ps:List kW)(N:Nat)(M:Nat->Nat):Prop where
 wp:∃o vL vR vN hs H,WP w0 w wb ps N o vL vR vN hs H
 same:∀p∈ps,p.sR=p.sP
 pi:∀(j:Nat) (p:kW),ps[j]?=some p->PI p.sP (M j)
def nP(M:Nat->Nat)(i:Nat):Nat->Nat:=λj=>if j=i then M j+200000000 else M j
def Es(M:Nat->Nat)(i j:Nat):M j<=nP M i j:=by
 unfold nP;split
 ·omega
 exact af _
def MB(M:Nat->Nat)(i j:Nat):nP M i j<=M j+200000000:=by
 unfold nP;split
 ·exact af _
 omega
def im(w:QV)(K A B:Int)(S T:ba):QV:=w.alloc (.cells #[.int .i64 K,.int .i64 A,.int .i64 B,.string S,.string T] 96)
def kH{w w':QV}{K A B:Int}{S T:ba}(h:w'.1[w.1.size]?=some (.cells #[.int .i64 K,.int .i64 A,.int .i64 B,.string S,.string T] 96 (0,0))):w'.cell? ⟨w.1.size,0,none⟩=some (.int .i64 K)/\w'.cell? ⟨w.1.size,3,none⟩=some (.string S)/\w'.cell? ⟨w.1.size,4,none⟩=some (.string T)/\w.1.size<w'.1.size:=by
 refine⟨by simp[World.cell?,h],by simp[World.cell?,h],by simp[World.cell?,h],cj h⟩
def wh(w:QV)(K A B:Int)(S T:ba):(im w K A B S T).1[w.1.size]?=some (.cells #[.int .i64 K,.int .i64 A,.int .i64 B,.string S,.string T] 96 (0,0)):=heap_alloc_new w _
def l0(w:QV)(K A B:Int)(S T:ba):Xb w (im w K A B S T):=(Uz _ w).alloc (af _) _
def J'{ps:List kW}{M:Nat->Nat}{i:Nat}{p:kW}{s':bY.LS}(l:ps[i]?=some p)(m:∀(j:Nat) (p:kW),ps[j]?=some p->PI p.sP (M j))(h':PI s' (M i+200000000)):∀(j:Nat) (q:kW),((ps.set i { p with sP:=s' }).set i { p with sP:=s',sR:=s' })[j]?=some q->PI q.sP (nP M i j):=λj q b=>by
 rw[RI]at b;by_cases e:i=j
 ·subst e;rw[P4 (az.1 l).1]at b;cases b;unfold nP;rw[ag rfl];exact h'
 rw[Qt e]at b;exact(m j q b).le (Es M i j)
def N5{w0 w:QV}{wb:Nat}{ps:List kW}{N:Nat}{M:Nat->Nat}{i:Nat}{p:kW}{s':bY.LS}(e:ps[i]?=some p)(hs:∀p∈ps,p.sR=p.sP)(l:∀(j:Nat) (p:kW),ps[j]?=some p->PI p.sP (M j))(h':PI s' (M i+200000000))(m:∃o vL vR vN hs H,WP w0 w wb ((ps.set i { p with sP:=s' }).set i { p with sP:=s',sR:=s' }) N o vL vR vN hs H):∃ps',WS w0 w wb ps' N (nP M i)/\ps'.length=ps.length:=by
 refine⟨_,⟨m,λq b=>?_,J' e l h'⟩,by rw[aX,aX]⟩
 ·rw[RI]at b;rcases Rm b with b|rfl
  ·exact hs q b
  rfl
def qt{w0 w:QV}{wb:Nat}{ps:List kW}{N:Nat}{M:Nat->Nat}(h:WS w0 w wb ps N M){i:Nat}{p:kW}(b:ps[i]?=some p)(K A B:Int)(S T:ba){f1 f2:FuncId}{args:Array Xa}{n r:Xa}{s':bY.LS}(h':PI s' (M i+200000000))
  (D:∀W L,fD W p.lb p.sP L->G W->jI W->Calls prog f1 (#[ptr p.lb]++args) W λe w'=>e=.returned n/\ez W p.lb L s' w')
  (F:∀W R,jJ p.rb p.sP W R->Calls prog f2 (#[ptr p.rb]++args) W λe w'=>e=.returned r/\eX (jJ p.rb s') W R w') :
  Calls prog f1 (#[ptr p.lb]++args) (im w K A B S T) λe w1=>e=.returned n/\w1.1[w.1.size]?=some (.cells #[.int .i64 K,.int .i64 A,.int .i64 B,.string S,.string T] 96 (0,0))/\Calls prog f2 (#[ptr p.rb]++args) w1 λe w2=>e=.returned r/\∃ps',WS w0 w2 wb ps' N (nP M i)/\ps'.length=ps.length:=by
 obtain⟨o,vL,vR,vN,hs,H,Z⟩:=h.wp;obtain⟨o1,j,Q,_⟩:=Z.box (l0 w K A B S T);obtain⟨L,z,C,X⟩:=j.Bu b;have m:=wh w K A B S T;refine(D _ L z j.g j.pD).mono ?_;rintro e w1⟨rfl,L',u,y,g3,l⟩;obtain⟨o2,aa,ad,_⟩:=X s' w1 L' (λ_=>False) u y l (λk O=>O.elim);have P:¬L w.1.size:=λhl=>by
  have h1:=C _ hl;have h2:=Q w.1.size (af _);omega
 have U:(ps.set i { p with sP:=s' })[i]?=some { p with sP:=s' }:=P4 (az.1 b).1;obtain⟨R,I,Y⟩:=aa.Er U;have V:=h.same p (aL b);refine⟨rfl,(l.block _ (cj m) P).trans m,?_⟩;have J:jJ p.rb p.sP w1 R:=by rw[<-V];exact I
 refine(F w1 R J).mono ?_;rintro e w2⟨rfl,E⟩;obtain⟨o3,ab,_⟩:=Y s' w2 E;exact⟨rfl,N5 b h.same h.pi h' ⟨o3,vL,vR,vN,hs,H,ab⟩⟩
end mK
end
section
open Tryz
namespace mK
open Go.RowKit Go.Shelf Ref
variable{ps:List kW}{M:Nat->Nat}
def WS.Bv{w0 w:QV}{j:Nat}{N:Nat}(h:WS w0 w j ps N M){i:Nat}{p:kW}(n:ps[i]?=some p)(K A B:Int)(S T:ba):∃b l e m,(im w K A B S T).cell? ⟨j,0,none⟩=some (.slice (some ⟨b,0,none⟩) ps.length l)/\(im w K A B S T).cell? ⟨j,1,none⟩=some (.slice (some ⟨e,0,none⟩) ps.length m)/\b<(im w K A B S T).1.size/\e<(im w K A B S T).1.size/\(im w K A B S T).cell? ⟨b,i,none⟩=some (.pointer (some ⟨p.lb,0,none⟩))/\(im w K A B S T).cell? ⟨e,i,none⟩=some (.pointer (some ⟨p.rb,0,none⟩))/\j<(im w K A B S T).1.size/\(i:Int)<(ps.length:Int) /\(im w K A B S T).cell? ⟨w.1.size,0,none⟩=some (.int .i64 K)/\(im w K A B S T).cell? ⟨w.1.size,3,none⟩=some (.string S)/\(im w K A B S T).cell? ⟨w.1.size,4,none⟩=some (.string T)/\w.1.size<(im w K A B S T).1.size:=by
 obtain⟨o,J,O,L,hs,H,I⟩:=h.wp;obtain⟨b,l,e,m,rfl,rfl,r,u,y,z,C,D,E⟩:=(I.below (l0 w K A B S T)).OY n;obtain⟨b1,b2,F,G⟩:=kH (wh w K A B S T);exact⟨b,l,e,m,C,D,r,u,y,z,E,by have:=(az.1 n).1;omega,b1,b2,F,G⟩
def J_(w0 w:QV)(l:Nat)(ps:List kW)(N:Nat)(M:Nat->Nat)(h:WS w0 w l ps N M)(i:Nat)(p:kW)(b:ps[i]?=some p)(A B:Int)(S T:ba)(hS:S.size<=20000000)(hT:T.size<=20000000)(hM:M i<=70000000000000):Calls prog 41 #[ptr l,.int .i64 (i:Int),.agg #[.int .i64 2,.int .i64 A,.int .i64 B,.string S,.string T]] w λe w'=>e=.returned (.bool true)/\∃ps',WS w0 w' l ps' N (nP M i)/\ps'.length=ps.length:=by
 obtain⟨gL,Q,gR,U,a1,C,D,E,F,G,I,J,b0,K,O,P⟩:=h.Bv b 2 A B S T;have j:=h.pi i p b;have hj:=j.jr;have hl:=j.sound.len;have hc:=qt h b 2 A B S T (f1:=23) (f2:=68) (args:=#[.string S,.string T]) (j.lH (by rw[<-size_data];exact hT)) (λW L a g d=>Lo W p.lb S T p.sP L a g d RM RM hl RM) (λW R a=>JT W p.rb p.sP R S T a RM hS hT RM);have hc:Calls prog 23 #[ptr p.lb,.string S,.string T] (im w 2 A B S T) λe w1=>e=.returned (.int .i64 ((p.sP.lH S.1.1 T.1.1).1:Nat))/\w1.1[w.1.size]?=some (.cells #[.int .i64 2,.int .i64 A,.int .i64 B,.string S,.string T] 96 (0,0))/\Calls prog 68 #[ptr p.rb,.string S,.string T] w1 λe w2=>e=.returned (.int .i64 ((p.sP.lH S.1.1 T.1.1).1:Nat))/\∃ps',WS w0 w2 l ps' N (nP M i)/\ps'.length=ps.length:=hc;generalize ((p.sP.lH S.1.1 T.1.1).1:Nat)=V at hc;unfold ptr at hc ⊢;have u:=bZ hc;clear hc h j hj hl b;unfold im at *;go_enter func41,ntmps41;go_wp2_with(first|(go_at_call 23;refine u.Z.mono ?_;rintro e w1 ⟨rfl,m,n⟩;obtain⟨e0,X,Y,Z⟩:=kH m;have y:=bZ n;clear m n)|(go_at_call 68;refine y.Z.mono ?_;rintro e w2 ⟨rfl,r⟩;have z:=bZ r;clear r)|(go_at_call 39;refine(tK _ _).mono ?_;rintro e w3 ⟨rfl,rfl⟩));go_ret;exact⟨by simp,z.Z⟩
def Ka(w0 w:QV)(l:Nat)(ps:List kW)(N:Nat)(M:Nat->Nat)(h:WS w0 w l ps N M)(i:Nat)(p:kW)(b:ps[i]?=some p)(A B:Int)(S T:ba)(hS:S.size<=20000000)(hT:T.size<=20000000)(hM:M i<=70000000000000):Calls prog 41 #[ptr l,.int .i64 (i:Int),.agg #[.int .i64 3,.int .i64 A,.int .i64 B,.string S,.string T]] w λe w'=>e=.returned (.bool true)/\∃ps',WS w0 w' l ps' N (nP M i)/\ps'.length=ps.length:=by
 obtain⟨gL,Q,gR,U,a1,C,D,E,F,G,I,J,b0,K,O,P⟩:=h.Bv b 3 A B S T;have j:=h.pi i p b;have hj:=j.jr;have hl:=j.sound.len;have hc:=qt h b 3 A B S T (f1:=25) (f2:=69) (args:=#[.string S,.string T]) (j.jK (by rw[<-size_data];exact hT)) (λW L a g d=>Mx W p.lb S T p.sP L a g d hS hT hl RM) (λW R a=>JW W p.rb p.sP R S T a RM hS hT RM);have hc:Calls prog 25 #[ptr p.lb,.string S,.string T] (im w 3 A B S T) λe w1=>e=.returned (.tuple #[.int .i64 ((p.sP.jK S.1.1 T.1.1).1.1:Nat),.int .i64 ((p.sP.jK S.1.1 T.1.1).1.2:Nat)])/\w1.1[w.1.size]?=some (.cells #[.int .i64 3,.int .i64 A,.int .i64 B,.string S,.string T] 96 (0,0))/\Calls prog 69 #[ptr p.rb,.string S,.string T] w1 λe w2=>e=.returned (.tuple #[.int .i64 ((p.sP.jK S.1.1 T.1.1).1.1:Nat),.int .i64 ((p.sP.jK S.1.1 T.1.1).1.2:Nat)])/\∃ps',WS w0 w2 l ps' N (nP M i)/\ps'.length=ps.length:=hc;generalize ((p.sP.jK S.1.1 T.1.1).1.1:Nat)=X at hc;generalize ((p.sP.jK S.1.1 T.1.1).1.2:Nat)=V at hc;unfold ptr at hc ⊢;have u:=bZ hc;clear hc h j hj hl b;unfold im at *;go_enter func41,ntmps41;go_wp2_with(first|(go_at_call 25;refine u.Z.mono ?_;rintro e w1 ⟨rfl,m,n⟩;obtain⟨e0,Y,Z,e5⟩:=kH m;have y:=bZ n;clear m n)|(go_at_call 69;refine y.Z.mono ?_;rintro e w2 ⟨rfl,r⟩;have z:=bZ r;clear r)|(go_at_call 39;refine(tK _ _).mono ?_;rintro e w3 ⟨rfl,rfl⟩));go_ret;exact⟨by simp,z.Z⟩
def step_drop(w0 w:QV)(l:Nat)(ps:List kW)(N:Nat)(M:Nat->Nat)(h:WS w0 w l ps N M)(i:Nat)(p:kW)(b:ps[i]?=some p)(A B:Int)(S T:ba)(hS:S.size<=20000000)(hT:T.size<=20000000)(hM:M i<=70000000000000):Calls prog 41 #[ptr l,.int .i64 (i:Int),.agg #[.int .i64 4,.int .i64 A,.int .i64 B,.string S,.string T]] w λe w'=>e=.returned (.bool true)/\∃ps',WS w0 w' l ps' N (nP M i)/\ps'.length=ps.length:=by
 obtain⟨gL,Q,gR,U,a1,C,D,E,F,G,I,J,b0,K,O,P⟩:=h.Bv b 4 A B S T;have j:=h.pi i p b;have hj:=j.jr;have hl:=j.sound.len;have hc:=qt h b 4 A B S T (f1:=47) (f2:=70) (args:=#[.string S]) (j.jO (kY:=S.1.1)) (λW L a g d=>J6 W p.lb S p.sP L a g d hS RM) (λW R a=>Ga W p.rb p.sP R S a RM hS RM);have hc:Calls prog 47 #[ptr p.lb,.string S] (im w 4 A B S T) λe w1=>e=.returned (.int .i64 ((p.sP.jO S.1.1).1:Nat))/\w1.1[w.1.size]?=some (.cells #[.int .i64 4,.int .i64 A,.int .i64 B,.string S,.string T] 96 (0,0))/\Calls prog 70 #[ptr p.rb,.string S] w1 λe w2=>e=.returned (.int .i64 ((p.sP.jO S.1.1).1:Nat))/\∃ps',WS w0 w2 l ps' N (nP M i)/\ps'.length=ps.length:=hc;generalize ((p.sP.jO S.1.1).1:Nat)=V at hc;unfold ptr at hc ⊢;have u:=bZ hc;clear hc h j hj hl b;unfold im at *;go_enter func41,ntmps41;go_wp2_with(first|(go_at_call 47;refine u.Z.mono ?_;rintro e w1 ⟨rfl,m,n⟩;obtain⟨e0,X,Y,Z⟩:=kH m;have y:=bZ n;clear m n)|(go_at_call 70;refine y.Z.mono ?_;rintro e w2 ⟨rfl,r⟩;have z:=bZ r;clear r)|(go_at_call 39;refine(tK _ _).mono ?_;rintro e w3 ⟨rfl,rfl⟩));go_ret;exact⟨by simp,z.Z⟩
end mK
end
section
namespace mK
open Go.RowKit Go.Shelf Ref
section
variable {w0 w w':QV} {r:Nat} {ps:List kW} {N:Nat} {o:Nat->Nat} {u z C:Xa} {hs:List (Xa×Nat×Nat)} {H:Nat->Prop}
def WP.Kd(h:WP w0 w r ps N o u z C hs H){x:Xa}{l:List (a_)}(hx:dm w x l)(F:∀g,x.ownBlock=some g->o g=1){vN':Xa}{O:List (Xa×Nat×Nat)}{E:Nat->Prop}(hd:kc w' r u z vN' (N+1) O E)(hl:O.length=hs.length+4)(X:∀k,E k->H k\/x.ownBlock=some k\/w.1.size<=k)(hf:ed (λk=>H k\/k=r\/x.ownBlock=some k) w w'):∃o',WP w0 w' r ps (N+1) o' u z vN' O E:=by
 have hF:Fo (λk=>H k\/k=r\/x.ownBlock=some k) w:=by
  refine⟨λk b=>?_,λk b cs t fz hc=>?_⟩
  ·rcases b with b|rfl|b
   ·exact(h.hd.ct k b).1
   ·exact h.w8
   exact(UH hx k b).1
  rcases b with b|rfl|b
  ·obtain⟨_,_,_,cs',t',U,hb,Y⟩:=h.hd.ct k b;rw[hb]at hc;cases hc;rcases Y with rfl|rfl<;>exact⟨(λhi=>by rcases hi with hi|hi|hi<;>cases hi),(λj=>by rcases j with j|j<;>cases j)⟩
  ·rw[h.hd.eb]at hc;cases hc;exact⟨(λhi=>by rcases hi with hi|hi|hi<;>cases hi),(λj=>by rcases j with j|j<;>cases j)⟩
  obtain⟨cs',U,hb⟩:=cz hx b;rw[hb]at hc;cases hc;exact⟨(λhi=>by rcases hi with hi|hi|hi<;>cases hi),(λj=>by rcases j with j|j<;>cases j)⟩
 have Q:∀k,k<w.1.size->2<=o k->w'.1[k]?=w.1[k]? := λk b j=>hf.block k b (λy=>by
  rcases y with y|rfl|y
  ·have:=h.tH k y;omega
  ·have:=h.tW;omega
  ·have:=F k y;omega)
 have T:∀k,k<w.1.size->o k=0->k≠r->w'.1[k]?=w.1[k]? := λk b j Z=>hf.block k b (λy=>by
  rcases y with y|y|y
  ·have:=h.tH k y;omega
  ·exact Z y
  ·have:=F k y;omega)
 have S:∀{e:TypeId} {n m:Nat} {v:Xa} {xs:List Xa},w.ownsRow 8 e m v n xs->e≠93->∀k,v.ownBlock=some k->k≠r:=λB V k b=>by
  obtain⟨cs,fz,hb⟩:=cz B b;exact yk hb h.hd.eb V
 have P:=hF.below hf h.g.size
 classical
 have B:∀k,k<w.1.size->o k≠1->(if E k then 1 else o k)=o k:=λk b j=>by
  by_cases h1:E k
  ·exfalso;rcases X k h1 with h2|h2|h2
   ·exact j (h.tH k h2)
   ·exact j (F k h2)
   omega
  exact ae h1
 refine⟨λk=>if E k then 1 else o k,⟨hd,by rw[hl,h.hlen];omega,cD h.mh (λk b cs fz hb=>(T k (cj hb) (h.tL k b) (S h.mh RZ k b)).trans hb),cD h.nO (λk b cs fz hb=>(T k (cj hb) (h.tR k b) (S h.nO RZ k b)).trans hb),(B _ (cj h.hd.eb) (by rw[h.tW];omega)).trans h.tW,λg D=>(B g (lK h.mh D) (by rw[h.tL g D];omega)).trans (h.tL g D),λg D=>(B g (lK h.nO D) (by rw[h.tR g D];omega)).trans (h.tR g D),λk b=>ag b,λi p M=>?_,λi p M=>?_,h.g.below P (af _),h.pD.below P (af _),h.w8,h.eh.trans ⟨hf.os,hf.tape,hf.output,hf.size,λk b=>hf.block k (aA b h.eh.size) (λy=>by
  have h0:=h.old k b;rcases y with y|rfl|y
  ·have:=h.tH k y;omega
  ·have:=h.tW;omega
  ·have:=F k y;omega)⟩,λk b=>(B k (aA b h.eh.size) (by rw[h.old k b];decide)).trans (h.old k b),h.few⟩⟩
 ·obtain⟨L,G,I⟩:=h.prog i p M;exact⟨L,G.st (λk b=>Q k (G.ct k b).2.1 (by rw[I k b];omega)) (hF.keeps hf).stay,λk b=>(B k (G.ct k b).2.1 (by rw[I k b];omega)).trans (I k b)⟩
 obtain⟨R,J,K⟩:=h.doc i p M;exact⟨R,jJ.st J (λk b=>Q k (J.ct.lt b) (by rw[K k b];omega)) (hF.kn hf),λk b=>(B k (J.ct.lt b) (by rw[K k b];omega)).trans (K k b)⟩
end
def Bz(w0 w:QV)(r:Nat)(n N:Nat)(M:Nat->Nat)(x y:Xa)(rg:List (a_)):Prop :=dm w x rg/\dm w y rg/\rg.length<=200/\∃(ps:List kW) (o:Nat->Nat) (u z C:Xa) (hs:List (Xa×Nat×Nat)) (H:Nat->Prop),WP w0 w r ps N o u z C hs H/\(∀g,x.ownBlock=some g->o g=1/\¬H g)/\ps.length=n/\(∀p∈ps,p.sR=p.sP)/\∀(j:Nat) (p:kW),ps[j]?=some p->PI p.sP (M j)
def Bz.below{w0 w w':QV}{r n N:Nat}{M:Nat->Nat}{x y:Xa}{rg:List (a_)}(h:Bz w0 w r n N M x y rg)(b:Xb w w'):Bz w0 w' r n N M x y rg:=by
 obtain⟨h1,h2,e,ps,o,u,z,C,hs,H,j,l⟩:=h;exact⟨jj h1 b,jj h2 b,e,ps,o,u,z,C,hs,H,j.below b,l⟩
def Gp{w0 w:QV}{r:Nat}{ps:List kW}{N:Nat}{M:Nat->Nat}(h:WS w0 w r ps N M){i:Nat}{p:kW}(E:ps[i]?=some p)(K A B:Int)(S T:ba)(hS:S.size<=20000000)(hM:M i<=70000000000000):Calls Tryz.prog 22 #[ptr p.lb,.string S] (im w K A B S T) λe w1=>∃tc ts x,e=.returned (.tuple #[.string ts,.int .i64 tc,x])/\w1.1[w.1.size]?=some (.cells #[.int .i64 K,.int .i64 A,.int .i64 B,.string S,.string T] 96 (0,0))/\Calls Tryz.prog 71 #[ptr p.rb,.string S] w1 λe w2=>∃y rg,e=.returned (.tuple #[.string ts,.int .i64 tc,y])/\Bz w0 w2 r ps.length N (nP M i) x y rg:=by
 obtain⟨o,u,z,C,hs,H,V⟩:=h.wp;have P:=l0 w K A B S T;obtain⟨o1,F,ax,_⟩:=V.box P;have I:=wh w K A B S T;have O:=h.pi i p E;have a2:=h.same p (aL E);have hi:=(az.1 E).1;have hH:∀k,H k->k<w.1.size:=λk m=>(V.hd.ct k m).2.1;have J:∀w,dm w _ []:=λw=>⟨rfl,.inl ⟨rfl,rfl⟩⟩;cases D:bY.dL _ with
 |false =>
  refine(CQ _ p.lb S F.g RM D).mono ?_;rintro e w1⟨rfl,Y⟩;refine⟨1,⟨#[]⟩,_,rfl,(Y.block _ (cj I)).trans I,?_⟩;refine(Bw w1 p.rb S hS D).mono ?_;rintro e w2⟨rfl,rfl⟩;exact⟨_,[],rfl,J _,J _,by simp,ps,o1,u,z,C,hs,H,F.below Y,(λg l=>by cases l),rfl,h.same,λj q n=>(h.pi j q n).le (Es M i j)⟩
 |true =>
  obtain⟨L,hL,ak,a3⟩:=F.Bu E;have bf:S.size<=8:=by rw[size_data];exact kC D
  refine(Ll _ p.lb S p.sP L (M i) hL F.g F.pD RM D O.fit RM).mono ?_;rintro e w1⟨x,tc,ts,L',rfl,a5,g1,g2,g3,X,_,U⟩;have Z:∀k,x.ownBlock=some k->(im w K A B S T).1.size<=k/\¬L' k:=λk m=>by
   rcases U with⟨rfl,_⟩|⟨gx,cx,rfl,a,b,_⟩
   ·cases m
   cases m;exact⟨a,b⟩
  obtain⟨o2,a6,bd,aa⟩:=a3 _ w1 L' (λk=>x.ownBlock=some k) g1 g2 X.toed Z;have av:¬L w.1.size:=λhl=>by
   have h1:=ak _ hl;have h2:=ax _ (af _);omega
  obtain⟨rg,Q⟩:∃rg,(if tc=12 then(p.sP.ask S.1.1).2.cE else[])=rg:=⟨_,rfl⟩;rw[Q]at U;have ad:dm w1 x rg:=by
   rcases U with⟨rfl,rfl⟩|⟨gx,cx,rfl,a,b,c⟩
   ·exact J _
   exact oW c (ah V.g.size P.size)
  have a0:=bY.uX 42 S.1.1 p.sP.fresh (by show p.sP.b_.length+42<=200;rw[O.sound.b_];simp) (by show 0<=200;omega);have aC:(ps.set i { p with sP:=(p.sP.ask _).2 })[i]?=some { p with sP:=(p.sP.ask S.1.1).2 }:=P4 hi;obtain⟨R,am,a4⟩:=a6.Er aC;have ao:jJ p.rb p.sP w1 R:=by rw[<-a2];exact am
  refine⟨tc,ts,x,rfl,(X.block _ (cj I) av).trans I,?_⟩;refine(Kc w1 p.rb p.sP R S ao (M0 p.rb 42) (O.pre RM) hS D).mono ?_;rintro e w2⟨bh,bj,y,ab,rfl,a9,bc,hP⟩;rw[a5]at ab;cases ab;obtain⟨o3,a7,ay,bg,ap⟩:=a4 _ w2 (hP.imp (λL' ai=>ai.PY));have a8:∀g,x.ownBlock=some g->g<w1.1.size:=λg l=>(UH ad g l).2;refine⟨y,rg,rfl,cD ad (λk m cs fz hb=>(ap k (cj hb) (by rw[aa k m];omega)).trans hb),?_,?_,_,o3,u,z,C,hs,H,a7,λg l=>⟨(ay g (a8 g l)).trans (aa g l),λhh=>?_⟩,by rw[aX,aX],λq n=>?_,J' E h.pi (O.ask S.1.1)⟩
  ·rw[<-Q];by_cases G:tc=12
   ·rw[ag G];exact bc G
   rw[ae G,a9 G];exact J _
  ·rw[<-Q];split
   ·exact a0
   simp
  ·have:=hH g hh;have:=(Z g l).1;have:=P.size;omega
  rw[RI]at n;rcases Rm n with n|rfl
  ·exact h.same q n
  rfl
end mK
end
section
open Tryz
namespace mK
open Go.RowKit Go.Shelf Ref
variable{M:Nat->Nat}{rg:List (a_)}
def MC{w0 w:QV}{l n N:Nat}{x y:Xa}(h:Bz w0 w l n N M x y rg)(P:N<=10000000):Calls prog 73 #[.pointer (some ⟨l,2,none⟩),x] w λe w'=>e=.returned (.tuple #[])/\∃ps',WS w0 w' l ps' (N+1) M/\ps'.length=n:=by
 obtain⟨h1,h2,O,ps,o,p,r,K,hs,H,j,m,D,E,F⟩:=h;have J:∀g,x.ownBlock=some g->g≠l:=λg b e=>by
  have:=(m g b).1;rw[e,j.tW]at this;omega
 refine(Gn w l p r K N hs H j.hd x rg h1 RM (λg b=>⟨(m g b).2,J g b⟩) RM (by rw[j.hlen];omega) j.g.size).mono ?_;rintro e w'⟨rfl,vN',G,u,a1,z,B,L,C⟩;obtain⟨o',I⟩:=j.Kd h1 (λg b=>(m g b).1) a1 z B C;exact⟨rfl,ps,⟨⟨o',p,r,vN',G,u,I⟩,E,F⟩,D⟩
def BA(w0 w:QV)(j:Nat)(ps:List kW)(N:Nat)(M:Nat->Nat)(h:WS w0 w j ps N M)(i:Nat)(p:kW)(l:ps[i]?=some p)(A B:Int)(S T:ba)(hS:S.size<=20000000)(hM:M i<=70000000000000)(K:N<=10000000):Calls prog 41 #[ptr j,.int .i64 (i:Int),.agg #[.int .i64 5,.int .i64 A,.int .i64 B,.string S,.string T]] w λe w'=>e=.returned (.bool true)/\∃ps',WS w0 w' j ps' (N+1) (nP M i)/\ps'.length=ps.length:=by
 obtain⟨gL,cL,gR,cR,a1,L,O,P,Q,R,U,V,b0,X,Y,Z⟩:=h.Bv l 5 A B S T;have hc:=Gp h l 5 A B S T hS hM;unfold ptr at hc ⊢;have n:=bZ hc;clear hc h l;unfold im at *;go_enter func41,ntmps41;go_wp2_with fail;refine n.Z.mono ?_;rintro e w1⟨tc,ts,x,rfl,u,z⟩;obtain⟨e0,e3,e4,e5⟩:=kH u;have r:=bZ z;clear u z n;go_wp2_with fail;refine r.Z.mono ?_;rintro e w2⟨y,rg,rfl,b⟩;have m:=ug w2 x y rg rg b.1 b.2.1 (by have:=b.2.2.1;omega) (by have:=b.2.2.1;omega);rw[aS rfl]at m;have aa:j<w2.1.size:=by
  obtain⟨_,_,_,_,_,_,_,_,_,_,I,_⟩:=b;exact cj I.hd.eb
 have F:=bZ m;have E:=bZ b;clear m b r;go_wp2_with(first|(go_at_call 72;refine F.Z.mono ?_;rintro e w3 ⟨rfl,J⟩;have D:=bZ (MC (E.Z.below J) K))|(go_at_call 73;refine D.Z.mono ?_;rintro e w4 ⟨rfl,C⟩;have G:=bZ C;clear C)|(go_at_call 39;refine(tK _ _).mono ?_;rintro e w3 ⟨rfl,rfl⟩));go_ret;exact⟨by simp,G.Z⟩
end mK
end
