/- Out of Hp. -/
import Derived.Test.YtpekpdimdelncaaGreatDoorP32
import Derived.Test.YtpekpdimdelncaaGreatDoorP33
import Derived.Test.YtpekpdimdelncaaGreatDoorP26
import Derived.Test.YtpekpdimdelncaaGreatDoorP29
set_option linter.unusedVariables false
set_option linter.unusedSimpArgs false
set_option maxRecDepth 100000
set_option maxHeartbeats 4000000
set_option linter.defProp false
namespace Go.Proofs.YtpekpdimdelncaaGreatDoor
open Go.RowKit Go.Shelf
section
open bY
variable{s:LS}{M:Nat}{kY key text:a_}
def bY.Nz(h:Sound s)(key):(s.ask key).2.du.length<=40:=by
 have h1:=(h.p8 key).du;have h2:s.fresh.du.length=0:=rfl;have b:=vT s.fresh;have e:s.fresh.ct.length<=40:=h.len;omega
namespace jU
structure PI(s:LS)(M:Nat):Prop where
 sound:Sound s
 fs:hZ s.fresh
 hl:HL s.ct
 jr:(dc s.jr).length<=M
 du:s.du.length<=900
def PI.le{b:Nat}(h:PI s M)(hM:M<=b):PI s b:={h with jr:=ah h.jr hM}
def PI.new:PI LS.new 0 where
 sound:=Sound.new
 fs:=⟨λk b h=>Tl,λk b t h=>Tl,λk e h=>Tl,λk w h=>Tl⟩
 hl:=⟨by decide,λk h=>by cases h⟩
 jr:=af _
 du:=ar _
def PI.fit(h:PI s M):Fit s M:=⟨h.sound.kb,h.sound.cm,h.sound.len,h.jr⟩
def PI.pre(h:PI s M)(hM:M<=100000000000000000):Ref.wH 42 s.fresh where
 kb:=h.sound.kb
 un:=by have:=N7 s.fresh;have:s.fresh.ct.length<=40:=h.sound.len;omega
 cm:=by show s.cm.length+42<=200;rw[h.sound.cm];simp
 nf:=by have:=vT s.fresh;have:s.fresh.ct.length<=40:=h.sound.len;show 0+1000*Rs s.fresh+1000*42<=_;omega
 du:=by have:=vT s.fresh;have:s.fresh.ct.length<=40:=h.sound.len;show 0+Rs s.fresh+42<=_;omega
 fs:=h.fs
 hl:=h.hl
 ph:=by
  have h1:=vT s.fresh;have h2:s.fresh.ct.length<=40:=h.sound.len;have e:(s.fresh.jr.flatMap _).length<=M:=h.jr;have j:LN*Rs s.fresh<=LN*40:=RW _ R5;unfold Ph;have l:LN*40=200000000:=rfl;omega
 br:=λk b=>by
  have b:k∈s.cm:=b;rw[h.sound.cm]at b;cases b
def PI.ask(h:PI s M)(key:a_):PI (s.ask key).2 (M+200000000) where
 sound:=h.sound.ask key
 fs:=by
  have:=(pA 42 key _ h.fs).2.1;exact⟨this.val,this.di,this.kept,λk w b=>by cases b⟩
 hl:=h.hl.dd (h.sound.p8 key).dd
 jr:=by
  have:=M5 h.fs h.sound.kb h.hl key;have h2:(s.jr.flatMap _).length<=M:=h.jr;show((s.ask key).2.jr.flatMap _).length<=_;omega
 du:=by have:=bY.Nz h.sound key;omega
structure GT(key:a_)(th:cC):Prop where
 fine:JP th
 val:th.di=none->L3 th.value
 di:∀t,th.di=some t->LA t
 ks:key.length<=8
 len:(ed key th).length<=100000000
def PI.iD(h:PI s M){th:cC}(j:GT kY th):PI (s.iD kY th).2 (M+200000000):=by
 have p:=h.sound.iD (kY:=kY) j.fine;unfold LS.iD at p ⊢;by_cases r:(bY.cv s.ct kY).isNone=true/\40<=s.ct.length
 ·rw[ag r];exact h.le (aI _ _)
 rw[ae r]at p ⊢;have b:=j.fine.1;exact{
  sound:=p
  fs:=by
   refine⟨λk n hl m=>?_,λk n t hl m=>?_,λk u l=>?_,λk w y=>by cases y⟩
   ·have hl:bY.cv (bY.put s.ct kY th) k=some n:=hl;rw[eG]at hl;split at hl
    ·cases hl;exact j.val m
    exact h.fs.val k n hl m
   ·have hl:bY.cv (bY.put s.ct kY th) k=some n:=hl;rw[eG]at hl;split at hl
    ·cases hl;exact j.di t m
    exact h.fs.di k n t hl m
   have l:cK (bY.put s.ct kY th) k=some u:=l;rw[rC _ _ _ b]at l;split at l
   ·cases l
   exact h.fs.kept k u l
  hl:=⟨p.len,λk b=>by
   have b:(bY.cv (bY.put s.ct kY th) k).isSome=true:=b;rw[eG]at b;split at b
   ·rename_i e;rw[<-e];exact j.ks
   ·exact h.hl.key k b⟩
  jr:=by
   show(dc (s.jr++[ed kY th])).length<=_;rw[eB,aj,jC];have:=h.jr;have:=j.len;omega
  du:=h.du}
def PI.drop(h:PI s M)(b:key.length<=8):PI (s.drop key) (M+200000000) where
 sound:=h.sound.drop key
 fs:=by
  refine⟨λk j hl l=>?_,λk j t hl l=>?_,λk m e=>?_,λk w n=>by cases n⟩
  ·have hl:bY.cv (bY.del s.ct key) k=some j:=hl;rw[pk]at hl;split at hl
   ·cases hl
   exact h.fs.val k j hl l
  ·have hl:bY.cv (bY.del s.ct key) k=some j:=hl;rw[pk]at hl;split at hl
   ·cases hl
   exact h.fs.di k j t hl l
  have e:cK (bY.del s.ct key) k=some m:=e;rw[rD]at e;split at e
  ·cases e
  exact h.fs.kept k m e
 hl:=⟨(h.sound.drop key).len,λk b=>by
  have b:(bY.cv (bY.del s.ct key) k).isSome=true:=b;rw[pk]at b;split at b
  ·cases b
  ·exact h.hl.key k b⟩
 jr:=by
  have:=Ny s key;have:=h.jr;omega
 du:=h.du
def PI.mH(h:PI s M)(e:text.length<=20000000):PI (s.mH key text).2 (M+200000000):=by
 unfold LS.mH;split
 ·exact h.le (aI _ _)
 rename_i b;have b:dB key=true:=TB;have j:=iR b;cases l:sY text with
 |none=>exact h.le (aI _ _)
 |some v =>
  obtain⟨h1,h2⟩:=qS l;refine h.iD ⟨⟨rfl,.inl ⟨rfl,h1⟩⟩,λ_=>h1,(λt e=>by cases e),j,?_⟩;show([112,117,116,32]++key++32::wr 3 v).length<=_;rw[<-h2];simp;omega
def PI.lj(h:PI s M)(e:text.length<=20000000):PI (s.lj key text).2 (M+200000000):=by
 unfold LS.lj;split
 ·exact h.le (aI _ _)
 rename_i b;have b:dB key=true:=TB;have j:=iR b;split
 ·refine h.iD ⟨⟨rfl,.inr ⟨_,rfl,De _⟩⟩,(λh=>by cases h),(λt e=>by cases e;exact xZ _),j,?_⟩;show([115,101,116,32]++key++32::text).length<=_;simp;omega
 exact h.le (aI _ _)
def PI.kX(h:PI s M):PI (s.kX kY).2 (M+200000000):=by
 unfold LS.kX;split
 ·exact h.le (aI _ _)
 rename_i b;have b:dB kY=true:=TB;split
 ·exact h.le (aI _ _)
 exact h.drop (iR b)
def PI.gU(h:PI s M):PI (s.gU kY).2 (M+200000000):=by
 unfold LS.gU;split
 ·exact h.le (aI _ _)
 rename_i n;have n:dB kY=true:=T6;split
 ·exact h.le (aI _ _)
 exact{
  sound:=h.sound.lX kY
  fs:=by
   refine⟨λk l hl j=>?_,λk l t hl j=>?_,λk r e=>?_,λk w u=>by cases u⟩
   ·have hl:bY.cv (bY.da s.ct kY none) k=some l:=hl;rw[fM]at hl;split at hl
    ·obtain⟨p,m,rfl⟩:=SB.1 hl;exact h.fs.val k p m j
    exact h.fs.val k l hl j
   ·have hl:bY.cv (bY.da s.ct kY none) k=some l:=hl;rw[fM]at hl;split at hl
    ·obtain⟨p,m,rfl⟩:=SB.1 hl;exact h.fs.di k p t m j
    exact h.fs.di k l t hl j
   have e:cK (bY.da s.ct kY none) k=some r:=e;rw[ez]at e;split at e
   ·cases hl:bY.cv s.ct k<;>rw[hl]at e<;>cases e
   exact h.fs.kept k r e
  hl:=⟨(h.sound.lX kY).len,λk b=>by
   have b:(bY.cv (bY.da s.ct kY none) k).isSome=true:=b;rw[fM]at b;split at b
   ·rw[Option.isSome_map]at b;exact h.hl.key k b
   ·exact h.hl.key k b⟩
  jr:=by
   show(dc (s.jr++[[108,111,115,101,32]++kY])).length<=_;rw[eB,aj,jC];have:=h.jr;have:=iR n;simp;omega
  du:=h.du}
end jU
end
section
open Tryz
namespace jU
def O_(w p key text)(g:G w)(m:key.size<=281474976710656)(n:bY.dB key.1.1=false):Calls prog 25 #[ptr p,.string key,.string text] w λe r=>e=.returned (.tuple #[.int .i64 1,.int .i64 0])/\Xc w r:=by
 have b:=dT key w g m;rw[n]at b;have j:=bZ b;clear b;unfold ptr;go_enter func25,ntmps25;go_wp2_with fail;refine b_ j.Z λu l=>?_;go_wp2;go_ret2;exact⟨rfl,l⟩
def NA(w F key text)(g:G w)(B:key.size<=281474976710656)(C:bY.dB key.1.1=true)(z:(bY.check text.1.1).1≠0)(E:text.size<=9223372036854775807):Calls prog 25 #[ptr F,.string key,.string text] w λe I=>e=.returned (.tuple #[.int .i64 ((bY.check text.1.1).1:Int),.int .i64 ((bY.check text.1.1).2:Int)])/\Xc w I:=by
 have l:=dT key w g B;rw[C]at l;have r:=λ(b:Xa) (u:Xc w b)=>v7 text b (g.below u g.size) E;have J:¬(((bY.check text.1.1).1:Int)=0):=R5;have m:=bZ l;have n:=bZ r;clear l r z;unfold ptr;go_enter func25,ntmps25;go_wp2_with fail;refine b_ m.Z λb j=>?_;have p:=bZ (n.Z b j);clear n m;go_wp2_with fail;refine p.Z.mono ?_;rintro e K⟨⟨q,rfl,D⟩,y⟩;clear p D;go_wp2;go_ret2;exact⟨rfl,j.trans (y.mono j.size)⟩
def NF(w b key text s L)(h:fI w b s L)(g:G w)(hd:jY w)(r:key.size<=20000000)(u:text.size<=20000000)(hlen:s.ct.length<=40)(p:(dc s.jr).length<=70368744177664):Calls prog 25 #[ptr b,.string key,.string text] w λe n=>e=.returned (.tuple #[.int .i64 ((s.lj key.1.1 text.1.1).1.1:Nat),.int .i64 ((s.lj key.1.1 text.1.1).1.2:Nat)])/\eF w b L (s.lj key.1.1 text.1.1).2 n:=by
 unfold bY.LS.lj;cases m:bY.dB key.1.1 with
 |false =>
  rw[ag rfl];refine b_ (O_ w b key text g R5 m) λn l=>?_;exact⟨rfl,eF.below h l⟩
 |true =>
  rw[ae S5];by_cases j:(bY.check text.1.1).1=0
  ·rw[ag j];exact OP w b key text s L _ h g hd m (bY.yH j).1 hlen p
  rw[ae j];refine b_ (NA w b key text g R5 m j R5) λn l=>?_;exact⟨rfl,eF.below h l⟩
def NG(w p key)(g:G w)(m:key.size<=281474976710656)(n:bY.dB key.1.1=false):Calls prog 47 #[ptr p,.string key] w λe r=>e=.returned (.int .i64 1)/\Xc w r:=by
 have b:=dT key w g m;rw[n]at b;have j:=bZ b;clear b;unfold ptr;go_enter func47,ntmps47;go_wp2_with fail;refine b_ j.Z λu l=>?_;go_wp2;exact VN (v:=.int .i64 1) (by simp[results,results47,go_sem]) rfl ⟨rfl,l⟩
def K9(w b key s L)(h:fI w b s L)(g:G w)(hd:jY w)(u:key.size<=20000000)(p:(dc s.jr).length<=70368744177664):Calls prog 47 #[ptr b,.string key] w λe m=>e=.returned (.int .i64 ((s.kX key.1.1).1:Nat))/\eF w b L (s.kX key.1.1).2 m:=by
 unfold bY.LS.kX;cases l:bY.dB key.1.1 with
 |false =>
  rw[ag rfl];refine b_ (NG w b key g R5 l) λm j=>?_;exact⟨rfl,eF.below h j⟩
 |true =>
  rw[ae S5];cases n:bY.cv s.ct key.1.1 with
  |none =>
   rw[ag (show(none:Option bY.cC).isNone=true from rfl)];refine b_ (G9 w b key s L h g l n) λm j=>?_;exact⟨rfl,eF.below h j⟩
  |some r =>
   rw[ae S5];exact G_ w b key s L r h g hd l n p
end jU
namespace jU
def Lf(w:Xa)(b:Nat)(s:bY.LS)(L:Nat->Prop)(key:ba)(h:fI w b s L)(g:G w)(n:key.size<=20000000):Calls prog 30 #[ptr b,.string key] w λe m=>wW s key.1.1 w m e/\Xc w m:=by
 unfold wW;cases j:bY.dB _ with
 |false=>exact Ca w b key g n j
 |true =>
  have r:key.size<=8:=by rw[size_data];exact iR j
  cases l:bY.cK s.ct _ with
  |none=>exact Hf w b s L key h g R5 j l
  |some p=>exact Hi w b s L key p h g R5 j l
def Ef(w n key s L)(h:fI w n s L)(g:G w)(hd:jY w)(m:key.size<=20000000)(V:(dc s.jr).length<=70368744177664):Calls prog 75 #[ptr n,.string key] w λe T=>e=.returned (.int .i64 ((s.gU key.1.1).1:Nat))/\eF w n L (s.gU key.1.1).2 T:=by
 have u:=dT key w g R5;have F:=bZ (λb (j:Xc w b)=>eF.below h j);unfold bY.LS.gU;cases C:bY.dB _ with
 |false =>
  rw[ag rfl];rw[C]at u;have p:=bZ u;unfold ptr;go_enter func75,ntmps75;go_wp2_with fail;refine b_ p.Z λb l=>?_;go_wp2;go_ret;exact⟨rfl,F.Z _ l⟩
 |true =>
  rw[ae S5];rw[C]at u;have R:=iR C;have X:key.size<=8:=by rw[size_data];exact R
  have p:=bZ u;have r:=bZ (λb (j:Xc w b)=>qC b n s L key (h.st (λk m=>j.block k (h.cz k m).2.1) (eO.below j)) R5);have HL:=bZ (λ(z:bY.cC) (B:bY.cv s.ct key.1.1=some z) b (j:Xc w b)=>Bd b n s L key z (h.st (λk m=>j.block k (h.cz k m).2.1) (eO.below j)) (g.below j g.size) (hd.below j g.size) B R5 (by
   show(dc (s.jr++[[108,111,115,101,32]++key.1.1])).length<=_;rw[eB,aj,bY.jC];simp;omega))
  unfold ptr at r HL ⊢;by_cases y:bY.cK s.ct key.1.1=none
  ·rw[ag y];go_enter func75,ntmps75;go_wp2_with fail;refine b_ p.Z λb l=>?_;go_wp2_with fail;refine(r.Z b l).mono ?_;rintro e U⟨⟨v,rfl,D⟩,E⟩;obtain rfl:=E.symm;rcases D with⟨_,rfl⟩|⟨I,S,h1,_⟩
   ·clear r HL p;go_wp2;go_ret;exact⟨rfl,F.Z _ l⟩
   rw[y]at h1;cases h1
  rw[ae y];go_enter func75,ntmps75;go_wp2_with fail;refine b_ p.Z λb l=>?_;go_wp2_with fail;refine(r.Z b l).mono ?_;rintro e U⟨⟨v,rfl,D⟩,E⟩;obtain rfl:=E.symm;rcases D with⟨h1,_⟩|⟨I,S,h1,rfl,_⟩
  ·exact(y h1).elim
  obtain⟨z,B,_⟩:=Option.bind_eq_some_iff.1 (show(bY.cv s.ct key.1.1).bind _=some I from h1);have J:=bZ (HL.Z z B b l);unfold ptr;go_wp2_with fail;refine b_ J.Z λw3 ⟨M,N,O,P,Q⟩=>?_;have Y:=l.size;have K:Hid (eF w n L (s.lX key.1.1) w3):=bZ ⟨M,N,λk m=>(O k m).imp id (λh=>by omega),P,(eu.below l).trans Q.toeu (λk m=>.inl m)⟩;go_wp2;go_ret;exact⟨rfl,K.Z⟩
end jU
end
section
namespace jU
open Go.RowKit Go.Shelf Ref
structure mB where
 lb:Nat
 sP:bY.LS
 rb:Nat
 sR:bY.LS
structure WP(w0 w:Xa)(wb:Nat)(ps:List mB)(N:Nat)(o:Nat->Nat)(vL vR:Xb)(vN:Fin 3->Xb)(hs:Fin 3->List (Xb×Nat×Nat))(H:Nat->Prop):Prop where
 hd:jS w wb vL vR vN N hs H
 hlen:∀q,(hs q).length<=4*N
 mI:w.ownsRow 8 29 1 vL ps.length (ps.map λp=>ptr p.lb)
 om:w.ownsRow 8 102 1 vR ps.length (ps.map λp=>ptr p.rb)
 tW:o wb=0
 tL:∀g,vL.ownBlock=some g->o g=0
 tR:∀g,vR.ownBlock=some g->o g=0
 tH:∀k,H k->o k=1
 prog:∀(i:Nat) (p:mB),ps[i]?=some p->∃L,fI w p.lb p.sP L/\∀k,L k->o k=2*i+2
 doc:∀(i:Nat) (p:mB),ps[i]?=some p->∃R,jm p.rb p.sR w R/\∀k,R k->o k=2*i+3
 g:G w
 uc:jY w
 w8:8<=wb
 eD:Xc w0 w
 old:∀k,k<w0.1.size->o k=1000000000000
 few:ps.length<=1000000
structure Fo(F:Nat->Prop)(w:Xa):Prop where
 lo:∀k,F k->8<=k
 si:∀k,F k->∀(cs:Array Xb) (t:TypeId) (fz:Nat×Nat),w.1[k]?=some (.cells cs t fz)->¬Ho t/\¬OZ t
section
variable {F:Nat->Prop}{w w':Xa}
def Fo.keeps(h:Fo F w)(l:eu F w w'):cT w w':=λk e t j b m=>(l.block k (cj b) (λhx=>(h.si k hx e t j b).1 m)).trans b
def Fo.kn(h:Fo F w)(l:eu F w w'):KN w w':=λk e t j b m=>(l.block k (cj b) (λhx=>(h.si k hx e t j b).2 m)).trans b
def Fo.below(h:Fo F w)(b:eu F w w')(e:8<=w.1.size):Below 8 w w':=⟨b.os,b.tape,b.output,b.size,λk j=>b.block k R5 (λhx=>by have:=h.lo k hx;omega)⟩
def Fp(w):Fo (λ_=>False) w:=⟨λk b=>b.elim,λk b=>b.elim⟩
def NN{l:Nat}{s:bY.LS}{L:Nat->Prop}(h:fI w l s L):Fo L w:=⟨λk j=>(h.cz k j).1,λk j m t r b=>by
 rcases(h.cz k j).2.2 with⟨p,c,h1⟩|⟨n,y,u,h1,h2⟩
 ·rw[h1]at b;cases b
 ·rw[h1]at b;cases b;refine⟨λhi=>h2.si (.inl hi),λe=>?_⟩;rcases h2 with rfl|rfl|rfl|rfl|rfl|rfl|rfl<;>(rcases e with e|e<;>cases e)⟩
def Pd{R:Nat->Prop}(h:Typed w R):Fo R w:=⟨λk b=>(h k b).1,λk b j t m e=>by
 obtain⟨_,l,p,n,h1,h2⟩:=h k b;rw[h1]at e;cases e;refine⟨λhi=>?_,h2.no⟩;rcases h2 with rfl|rfl|rfl|rfl|rfl|rfl<;>(rcases hi with hi|hi|hi<;>cases hi)⟩
end
def jm.st{w w':Xa}{b:Nat}{s:bY.LS}{R:Nat->Prop}(h:jm b s w R)(hs:∀k,R k->w'.1[k]?=w.1[k]?)(e:KN w w'):jm b s w' R:=by
 obtain⟨d,h⟩:=h;exact⟨d,h.st hs e⟩
section
variable {w0 w w':Xa}{wb:Nat}{ps:List mB}{N:Nat}{o:Nat->Nat}{vL vR:Xb}{vN:Fin 3->Xb}{hs:Fin 3->List (Xb×Nat×Nat)}{H:Nat->Prop}
def WP.stays(h:WP w0 w wb ps N o vL vR vN hs H){F:Nat->Prop}(j:eu F w w')(hF:Fo F w){t:Nat}(E:∀k,F k->o k=t):(t≠0->t≠1->jS w' wb vL vR vN N hs H)/\(t≠0->w'.ownsRow 8 29 1 vL ps.length (ps.map λp=>ptr p.lb)/\w'.ownsRow 8 102 1 vR ps.length (ps.map λp=>ptr p.rb)) /\(∀i p,ps[i]?=some p->t≠2*i+2->∃L,fI w' p.lb p.sP L/\(∀k,L k->o k=2*i+2/\k<w.1.size))/\(∀i p,ps[i]?=some p->t≠2*i+3->∃R,jm p.rb p.sR w' R/\(∀k,R k->o k=2*i+3/\k<w.1.size))/\G w'/\jY w'/\(t≠1000000000000->Xc w0 w'):=by
 have m:∀k,k<w.1.size->o k≠t->w'.1[k]?=w.1[k]? := λk b l=>j.block k b (λhx=>l (E k hx));have B:=hF.below j h.g.size;refine⟨λr h1=>h.hd.st (λk b=>?_) j.size,λr=>⟨cJ h.mI (λk b I J n=>(m k (cj n) (by rw[h.tL k b];exact λe=>r e.symm)).trans n),cJ h.om (λk b I J n=>(m k (cj n) (by rw[h.tR k b];exact λe=>r e.symm)).trans n)⟩,λi p z l=>?_,λi p z l=>?_,h.g.below B (af _),h.uc.below B (af _),λl=>h.eD.trans ⟨j.os,j.tape,j.output,j.size,λk b=>j.block k (aw b h.eD.size) (λhx=>l ((E k hx).symm.trans (h.old k b)))⟩⟩
 ·rcases b with b|rfl
  ·exact m k (h.hd.cz k b).2.1 (by rw[h.tH k b];exact λe=>h1 e.symm)
  exact m k (cj h.hd.eb) (by rw[h.tW];exact λe=>r e.symm)
 ·obtain⟨L,u,C⟩:=h.prog i p z;exact⟨L,u.st (λk b=>m k (u.cz k b).2.1 (by rw[C k b];exact λe=>l e.symm)) (hF.keeps j).stay,λk b=>⟨C k b,(u.cz k b).2.1⟩⟩
 obtain⟨R,y,D⟩:=h.doc i p z;exact⟨R,jm.st y (λk b=>m k (y.cz.lt b) (by rw[D k b];exact λe=>l e.symm)) (hF.kn j),λk b=>⟨D k b,y.cz.lt b⟩⟩
def WP.below(h:WP w0 w wb ps N o vL vR vN hs H)(j:Xc w w'):WP w0 w' wb ps N o vL vR vN hs H:=by
 have u:eu (λ_=>False) w w':=⟨j.os,j.tape,j.output,j.size,λk e _=>j.block k e⟩;obtain⟨_,_,y,z,B,C,D⟩:=h.stays u (Fp w) (t:=0) (λk e=>e.elim);refine⟨h.hd.below j,h.hlen,cJ h.mI (λk e n r l=>(j.block k (cj l)).trans l),cJ h.om (λk e n r l=>(j.block k (cj l)).trans l),h.tW,h.tL,h.tR,h.tH,λi p m=>?_,λi p m=>?_,B,C,h.w8,D S4,h.old,h.few⟩
 ·obtain⟨L,a,b⟩:=y i p m R5;exact⟨L,a,λk e=>(b k e).1⟩
 obtain⟨R,a,b⟩:=z i p m R5;exact⟨R,a,λk e=>(b k e).1⟩
def lW{w:Xa}{e:TypeId}{n m:Nat}{v:Xb}{xs:List Xb}(h:w.ownsRow 8 e m v n xs){k:Nat}(b:v.ownBlock=some k):k<w.1.size:=(VT h k b).2
def WP.Cc(h:WP w0 w wb ps N o vL vR vN hs H){i:Nat}{p:mB}(y:ps[i]?=some p):∃L,fI w p.lb p.sP L/\(∀k,L k->o k=2*i+2)/\∀D w' (l X:Nat->Prop),fI w' p.lb D l->(∀k,l k->L k\/w.1.size<=k)->eu L w w'->(∀k,X k->w.1.size<=k/\¬l k)->∃C,WP w0 w' wb (ps.set i {p with sP:=D}) N C vL vR vN hs H/\(∀k,k<w.1.size->C k=o k)/\(∀k,X k->C k=1):=by
 obtain⟨L,G,B⟩:=h.prog i p y;refine⟨L,G,B,λD w' l X K M O E=>?_⟩;obtain⟨R,S,T,I,U,V,Y⟩:=h.stays O (NN G) B;have hi:=(aA.1 y).1
 classical
 have m:∀k,k<w.1.size->(if l k then 2*i+2 else if X k then 1 else o k)=o k:=λk e=>by
  by_cases h1:l k
  ·rw[ag h1];rcases M k h1 with h2|h2
   ·exact(B k h2).symm
   omega
  rw[ae h1,ae (λhx=>by have:=(E k hx).1;omega)]
 obtain⟨P,Q⟩:=S R5;refine⟨λk=>if l k then 2*i+2 else if X k then 1 else o k,⟨R R5 R5,h.hlen,?_,?_,(m _ (cj h.hd.eb)).trans h.tW,λg r=>(m g (lW h.mI r)).trans (h.tL g r),λg r=>(m g (lW h.om r)).trans (h.tR g r),λk e=>(m k (h.hd.cz k e).2.1).trans (h.tH k e),λj q n=>?_,λj q n=>?_,U,V,h.w8,Y (by have:=h.few;omega),λk e=>(m k (aw e h.eD.size)).trans (h.old k e),by rw[aY];exact h.few⟩,m,λk e=>?_⟩
 ·rw[aY,R3];rw[kR _ i _ (by rw[Q6,y];rfl)];exact P
 ·rw[aY,R3];rw[kR _ i _ (by rw[Q6,y];rfl)];exact Q
 ·by_cases u:i=j
  ·subst u;rw[Q8 hi]at n;cases n;exact⟨l,K,λk e=>ag e⟩
  rw[RG u]at n;obtain⟨J,a,b⟩:=T j q n R5;exact⟨J,a,λk e=>(m k (b k e).2).trans (b k e).1⟩
 ·by_cases u:i=j
  ·subst u;rw[Q8 hi]at n;cases n;obtain⟨z,a,b⟩:=I i p y R5;exact⟨z,a,λk e=>(m k (b k e).2).trans (b k e).1⟩
  rw[RG u]at n;obtain⟨z,a,b⟩:=I j q n R5;exact⟨z,a,λk e=>(m k (b k e).2).trans (b k e).1⟩
 show(if l k then 2*i+2 else if X k then 1 else o k)=1;rw[ae (E k e).2,ag e]
def WP.Fq(h:WP w0 w wb ps N o vL vR vN hs H){i:Nat}{p:mB}(u:ps[i]?=some p):∃R,jm p.rb p.sR w R/\∀D w',fb (jm p.rb D) w R w'->∃G,WP w0 w' wb (ps.set i {p with sR:=D}) N G vL vR vN hs H/\(∀k,k<w.1.size->G k=o k)/\w.1.size<=w'.1.size/\(∀k,k<w.1.size->o k≠2*i+3->w'.1[k]?=w.1[k]?):=by
 obtain⟨R,E,C⟩:=h.doc i p u;refine⟨R,E,λD w' M=>?_⟩;obtain⟨y,K,L,_,B⟩:=M;obtain⟨T,U,I,V,X,Y,Z⟩:=h.stays B (Pd E.cz) C;have hi:=(aA.1 u).1
 classical
 have l:∀k,k<w.1.size->(if y k then 2*i+3 else o k)=o k:=λk e=>by
  by_cases h1:y k
  ·rw[ag h1];rcases L k h1 with h2|h2
   ·exact(C k h2).symm
   omega
  rw[ae h1]
 obtain⟨Q,S⟩:=U R5;refine⟨λk=>if y k then 2*i+3 else o k,⟨T R5 R5,h.hlen,?_,?_,(l _ (cj h.hd.eb)).trans h.tW,λg n=>(l g (lW h.mI n)).trans (h.tL g n),λg n=>(l g (lW h.om n)).trans (h.tR g n),λk e=>(l k (h.hd.cz k e).2.1).trans (h.tH k e),λj q m=>?_,λj q m=>?_,X,Y,h.w8,Z (by have:=h.few;omega),λk e=>(l k (aw e h.eD.size)).trans (h.old k e),by rw[aY];exact h.few⟩,l,B.size,λk e O=>B.block k e (λP=>O (C k P))⟩
 ·rw[aY,R3];rw[kR _ i _ (by rw[Q6,u];rfl)];exact Q
 ·rw[aY,R3];rw[kR _ i _ (by rw[Q6,u];rfl)];exact S
 ·by_cases r:i=j
  ·subst r;rw[Q8 hi]at m;cases m;obtain⟨z,a,b⟩:=I i p u R5;exact⟨z,a,λk e=>(l k (b k e).2).trans (b k e).1⟩
  rw[RG r]at m;obtain⟨z,a,b⟩:=I j q m R5;exact⟨z,a,λk e=>(l k (b k e).2).trans (b k e).1⟩
 by_cases r:i=j
 ·subst r;rw[Q8 hi]at m;cases m;exact⟨y,K,λk e=>ag e⟩
 rw[RG r]at m;obtain⟨J,a,b⟩:=V j q m R5;exact⟨J,a,λk e=>(l k (b k e).2).trans (b k e).1⟩
end
end jU
end
section
open Tryz
namespace jU
open Go.RowKit Go.Shelf Ref
def uu(c w):Calls prog 39 #[.int .i64 c] w λe w'=>e=.returned (.int .i64 c)/\w'=w:=by
 go_enter func39,ntmps39;go_wp2;go_ret;exact⟨rfl,rfl⟩
section
variable {w0 w w':Xa}{wb:Nat}{ps:List mB}{N:Nat}{o:Nat->Nat}{vL vR:Xb}{vN:Fin 3->Xb}{hs:Fin 3->List (Xb×Nat×Nat)}{H:Nat->Prop}
def WP.Qd(f:Nat->Nat)(h:WP w0 w wb ps N o vL vR vN hs H)(j:Xc w w'):∃u,WP w0 w' wb ps N u vL vR vN hs H/\(∀k,w.1.size<=k->u k=f k)/\∀k,k<w.1.size->u k=o k:=by
 have B:eu (λ_=>False) w w':=⟨j.os,j.tape,j.output,j.size,λk e _=>j.block k e⟩;obtain⟨_,_,C,D,E,F,G⟩:=h.stays B (Fp w) (t:=0) (λk e=>e.elim);have l:∀k,k<w.1.size->(if k<w.1.size then o k else f k)=o k:=λk e=>ag e;refine⟨λk=>if k<w.1.size then o k else f k,⟨h.hd.below j,h.hlen,cJ h.mI (λk e y z m=>(j.block k (cj m)).trans m),cJ h.om (λk e y z m=>(j.block k (cj m)).trans m),(l _ (cj h.hd.eb)).trans h.tW,λg n=>(l g (lW h.mI n)).trans (h.tL g n),λg n=>(l g (lW h.om n)).trans (h.tR g n),λk e=>(l k (h.hd.cz k e).2.1).trans (h.tH k e),λi p r=>?_,λi p r=>?_,E,F,h.w8,G S4,λk e=>(l k (aw e h.eD.size)).trans (h.old k e),h.few⟩,λk e=>ae R5,l⟩
 ·obtain⟨L,a,b⟩:=C i p r R5;exact⟨L,a,λk e=>(l k (b k e).2).trans (b k e).1⟩
 obtain⟨R,a,b⟩:=D i p r R5;exact⟨R,a,λk e=>(l k (b k e).2).trans (b k e).1⟩
def WP.box(h:WP w0 w wb ps N o vL vR vN hs H)(e:Xc w w'):∃b,WP w0 w' wb ps N b vL vR vN hs H/\(∀k,w.1.size<=k->b k=0)/\∀k,k<w.1.size->b k=o k:=h.Qd (λ_=>0) e
def WP.Qe(h:WP w0 w wb ps N o vL vR vN hs H){i:Nat}{p:mB}(u:ps[i]?=some p):∃b m j n,vL=.slice (some ⟨b,0,none⟩) ps.length m/\vR=.slice (some ⟨j,0,none⟩) ps.length n/\b<w.1.size/\j<w.1.size/\w.cell? ⟨b,i,none⟩=some (ptr p.lb)/\w.cell? ⟨j,i,none⟩=some (ptr p.rb)/\w.cell? ⟨wb,0,none⟩=some vL/\w.cell? ⟨wb,1,none⟩=some vR/\wb<w.1.size:=by
 have hi:=(aA.1 u).1;have hcell:∀{e:TypeId}{v:Xb}{f:mB->Xb},w.ownsRow 8 e 1 v ps.length (ps.map f)->∃g c,v=.slice (some ⟨g,0,none⟩) _ c/\g<w.1.size/\w.cell? ⟨g,i,none⟩=some (f p):=λ{e v f} r=>by
  rcases r.2 with⟨_,G⟩|⟨g,D,F,E,_,l,_⟩
  ·omega
  subst E;have:=r.cells (g:=g) rfl i (f p) (by rw[Q6,u];rfl);rw[addr_add,aG]at this;exact⟨g,D,rfl,cj l,this⟩
 obtain⟨b,m,y,z,B⟩:=hcell h.mI;obtain⟨j,n,b1,b2,C⟩:=hcell h.om;have l:=h.hd.eb;exact⟨b,m,j,n,y,b1,z,b2,B,C,by simp[World.cell?,l],by simp[World.cell?,l],cj l⟩
end
structure WS(w0 w:Xa)(wb:Nat)(ps:List mB)(N:Nat)(M:Nat->Nat):Prop where
 wp:∃o vL vR vN hs H,WP w0 w wb ps N o vL vR vN hs H
 same:∀p∈ps,p.sR=p.sP
 pi:∀(j:Nat) (p:mB),ps[j]?=some p->PI p.sP (M j)
def sT(M:Nat->Nat)(i:Nat):Nat->Nat:=λj=>if j=i then M j+200000000 else M j
def Ft(M i j):M j<=sT M i j:=by
 unfold sT;split
 ·omega
 exact af _
def NP(M i j):sT M i j<=M j+200000000:=by
 unfold sT;split
 ·exact af _
 omega
def fU(w:Xa)(K A B:Int)(S T:ba):Xa:=w.alloc (.cells #[.int .i64 K,.int .i64 A,.int .i64 B,.string S,.string T] 96)
def pG{w w':Xa}{K A B:Int}{S T:ba}(h:w'.1[w.1.size]?=some (.cells #[.int .i64 K,.int .i64 A,.int .i64 B,.string S,.string T] 96 (0,0))):w'.cell? ⟨w.1.size,0,none⟩=some (.int .i64 K)/\w'.cell? ⟨w.1.size,3,none⟩=some (.string S)/\w'.cell? ⟨w.1.size,4,none⟩=some (.string T)/\w.1.size<w'.1.size:=by
 refine⟨by simp[World.cell?,h],by simp[World.cell?,h],by simp[World.cell?,h],cj h⟩
def wX(w K A B S T):(fU w K A B S T).1[w.1.size]?=some (.cells #[.int .i64 K,.int .i64 A,.int .i64 B,.string S,.string T] 96 (0,0)):=heap_alloc_new w _
def iT(w K A B S T):Xc w (fU w K A B S T):=(VM _ w).alloc (af _) _
def Lg{ps:List mB}{M:Nat->Nat}{i:Nat}{p:mB}{s':bY.LS}(m:ps[i]?=some p)(n:∀(j) (p),ps[j]?=some p->PI p.sP (M j))(l:PI s' (M i+200000000)):∀j q,((ps.set i {p with sP:=s'}).set i {p with sP:=s',sR:=s'})[j]?=some q->PI q.sP (sT M i j):=λj q b=>by
 rw[SY]at b;by_cases e:i=j
 ·subst e;rw[Q8 (aA.1 m).1]at b;cases b;unfold sT;rw[ag rfl];exact l
 rw[RG e]at b;exact(n j q b).le (Ft M i j)
def Pf{w0 w:Xa}{wb:Nat}{ps:List mB}{N:Nat}{M:Nat->Nat}{i:Nat}{p:mB}{s':bY.LS}(m:ps[i]?=some p)(hs:∀p∈ps,p.sR=p.sP)(n:∀(j) (p),ps[j]?=some p->PI p.sP (M j))(l:PI s' (M i+200000000))(r:∃o vL vR vN hs H,WP w0 w wb ((ps.set i {p with sP:=s'}).set i {p with sP:=s',sR:=s'}) N o vL vR vN hs H):∃e,WS w0 w wb e N (sT M i)/\e.length=ps.length:=by
 refine⟨_,⟨r,λq b=>?_,Lg m n l⟩,by rw[aY,aY]⟩
 ·rw[SY]at b;rcases SG b with b|rfl
  ·exact hs q b
  rfl
def oo{w0 w:Xa}{wb:Nat}{ps:List mB}{N:Nat}{M:Nat->Nat}(h:WS w0 w wb ps N M){i:Nat}{p:mB}(j:ps[i]?=some p)(K A B S T){f1 f2:FuncId}{n r:Array Xb}{C D:Xb}{s':bY.LS}(J:PI s' (M i+200000000))(Q:∀W L,fI W p.lb p.sP L->G W->jY W->Calls prog f1 n W λe w'=>e=.returned C/\eF W p.lb L s' w')(V:∀W R,jm p.rb p.sP W R->Calls prog f2 r W λe w'=>e=.returned D/\fb (jm p.rb s') W R w'):Calls prog f1 n (fU w K A B S T) λe b=>e=.returned C/\b.1[w.1.size]?=some (.cells #[.int .i64 K,.int .i64 A,.int .i64 B,.string S,.string T] 96 (0,0))/\Calls prog f2 r b λe m=>e=.returned D/\∃z,WS w0 m wb z N (sT M i)/\z.length=ps.length:=by
 obtain⟨o,vL,vR,vN,hs,H,hw⟩:=h.wp;obtain⟨o1,l,ab,_⟩:=hw.box (iT w K A B S T);obtain⟨L,O,P,ak⟩:=l.Cc j;have y:=wX w K A B S T;refine b_ (Q _ L O l.g l.uc) λb ⟨E,F,I,g3,u⟩=>?_;obtain⟨o2,ao,av,_⟩:=ak s' b E (λ_=>False) F I u (λk Z=>Z.elim);have aa:¬L w.1.size:=λhl=>by
  have h1:=P _ hl;have h2:=ab _ (af _);omega
 have ad:(ps.set i {p with sP:=s'})[i]?=some {p with sP:=s'}:=Q8 (aA.1 j).1;obtain⟨R,X,am⟩:=ao.Fq ad;have ai:=h.same p (aJ j);refine⟨rfl,(u.block _ (cj y) aa).trans y,?_⟩;have Y:jm p.rb p.sP b R:=by rw[<-ai];exact X
 refine b_ (V b R Y) λm U=>?_;obtain⟨o3,ap,_⟩:=am s' m U;exact⟨rfl,Pf j h.same h.pi J ⟨o3,vL,vR,vN,hs,H,ap⟩⟩
end jU
end
section
namespace jU
open Go.RowKit Go.Shelf Ref
variable{ps:List mB}{M:Nat->Nat}
def WS.qp{w0 w:Xa}{j:Nat}{N:Nat}(h:WS w0 w j ps N M){i:Nat}{p:mB}(n:ps[i]?=some p)(K A B S T):∃b l e m,(fU w K A B S T).cell? ⟨j,0,none⟩=some (.slice (some ⟨b,0,none⟩) ps.length l)/\(fU w K A B S T).cell? ⟨j,1,none⟩=some (.slice (some ⟨e,0,none⟩) ps.length m)/\b<(fU w K A B S T).1.size/\e<(fU w K A B S T).1.size/\(fU w K A B S T).cell? ⟨b,i,none⟩=some (.pointer (some ⟨p.lb,0,none⟩))/\(fU w K A B S T).cell? ⟨e,i,none⟩=some (.pointer (some ⟨p.rb,0,none⟩))/\j<(fU w K A B S T).1.size/\i<(ps.length:Int) /\(fU w K A B S T).cell? ⟨w.1.size,0,none⟩=some (.int .i64 K)/\(fU w K A B S T).cell? ⟨w.1.size,3,none⟩=some (.string S)/\(fU w K A B S T).cell? ⟨w.1.size,4,none⟩=some (.string T)/\w.1.size<(fU w K A B S T).1.size:=by
 obtain⟨o,L,P,O,J,H,I⟩:=h.wp;obtain⟨b,l,e,m,rfl,rfl,r,u,y,z,C,D,E⟩:=(I.below (iT w K A B S T)).Qe n;obtain⟨b1,b2,F,G⟩:=pG (wX w K A B S T);exact⟨b,l,e,m,C,D,r,u,y,z,E,by have:=(aA.1 n).1;omega,b1,b2,F,G⟩
def Eg(w0 w r ps N M)(h:WS w0 w r ps N M)(i p)(j:ps[i]?=some p)(K A B S T)(D:K=2\/K=3\/K=4\/K=8)(hS:S.size<=20000000)(hT:T.size<=20000000)(hM:M i<=70000000000000):Calls Tryz.prog 41 #[ptr r,.int .i64 i,.agg #[.int .i64 K,.int .i64 A,.int .i64 B,.string S,.string T]] w λe I=>e=.returned (.bool true)/\∃y,WS w0 I r y N (sT M i)/\y.length=ps.length:=by
 obtain⟨gL,cL,gR,cR,J,O,P,Q,U,V,X,Y,Z,b3,b4,b5⟩:=h.qp j K A B S T;have l:=h.pi i p j;have hj:=l.jr;have u:=l.sound.len;rcases D with rfl|rfl|rfl|rfl
 case' inl =>
  have b:=oo h j 2 A B S T (l.mH (key:=S.1.1) (text:=T.1.1) (by rw[<-size_data];exact hT)) (λW L a g d=>MB W p.lb S T p.sP L a g d R5 R5 u R5) (λW R a=>KS W p.rb p.sP R S T a R5 hS hT R5);generalize ((p.sP.mH _ _).1:Nat)=n at b;unfold ptr at b ⊢;have m:=bZ b
 case' inr.inl =>
  have b:=oo h j 3 A B S T (l.lj (key:=S.1.1) (text:=T.1.1) (by rw[<-size_data];exact hT)) (λW L a g d=>NF W p.lb S T p.sP L a g d hS hT u R5) (λW R a=>KV W p.rb p.sP R S T a R5 hS hT R5);generalize ((p.sP.lj _ _).1.1:Nat)=n at b;generalize ((p.sP.lj _ _).1.2:Nat)=ca at b;unfold ptr at b ⊢;have m:=bZ b
 case' inr.inr.inl =>
  have b:=oo h j 4 A B S T (l.kX (kY:=S.1.1)) (λW L a g d=>K9 W p.lb S p.sP L a g d hS R5) (λW R a=>G0 W p.rb p.sP R S a R5 hS R5);generalize ((p.sP.kX _).1:Nat)=n at b;unfold ptr at b ⊢;have m:=bZ b
 case' inr.inr.inr =>
  have b:=oo h j 8 A B S T (l.gU (kY:=S.1.1)) (λW L a g d=>Ef W p.lb S p.sP L a g d hS R5) (λW R a=>B7 W p.rb p.sP R S a R5 hS R5);generalize ((p.sP.gU _).1:Nat)=n at b;unfold ptr at b ⊢;have m:=bZ b
 all_goals
  unfold fU at *;go_enter Tryz.func41,Tryz.ntmps41;go_wp2_with(first|((first|go_at_call 23|go_at_call 25|go_at_call 47|go_at_call 75);refine b_ m.Z λw1 ⟨E,F⟩=>?_;obtain⟨e0,e3,e4,e5⟩:=pG E;have z:=bZ F)|((first|go_at_call 68|go_at_call 69|go_at_call 70|go_at_call 76);refine b_ z.Z λw2 G=>?_;have C:=bZ G)|(go_at_call 39;refine dL (uu _ _) ?_));go_ret;exact⟨by simp,C.Z⟩
end jU
namespace jU
open Go.RowKit Go.Shelf Ref
section
variable {w0 w w':Xa}{l:Nat}{ps:List mB}{N:Nat}{o:Nat->Nat}{u z:Xb}{D:Fin 3->Xb}{C:Fin 3->List (Xb×Nat×Nat)}{H:Nat->Prop}
def Oh:∀(q:Fin 3) (t),t=hty q\/t=p7 q->¬Ho t/\¬OZ t:=by
 have h:∀q:Fin 3,(¬Ho (hty q)/\¬OZ (hty q))/\¬Ho (p7 q)/\¬OZ (p7 q):=by
  unfold Ho OZ
  decide
 rintro q t (rfl|rfl)
 ·exact(h q).1
 exact(h q).2
def WP.Li(h:WP w0 w l ps N o u z D C H){q:Fin 3}{x:Xb}{m:Nat}{xs:List Xb}(hx:w.ownsRow 8 (p7 q) (mA q) x m xs)(K:∀g,x.ownBlock=some g->o g=1){e:Ending}(hP:Ld w l u z N C H x e w'):∃o' X V I,WP w0 w' l ps (N+1) o' u z X V I:=by
 obtain⟨_,X,V,I,hd,hl,ak,B⟩:=hP;have hF:Fo (λk=>H k\/k=l\/x.ownBlock=some k) w:=by
  refine⟨λk b=>?_,λk b M t O J=>?_⟩
  ·rcases b with b|rfl|b
   ·exact(h.hd.cz k b).1
   ·exact h.w8
   exact(VT hx k b).1
  rcases b with b|rfl|b
  ·obtain⟨_,_,_,ad,t',ai,y,q',ht⟩:=h.hd.cz k b;rw[y]at J;cases J;exact Oh q' _ ht
  ·rw[h.hd.eb]at J;cases J;exact⟨(λhi=>by rcases hi with hi|hi|hi<;>cases hi),(λE=>by rcases E with E|E<;>cases E)⟩
  obtain⟨ad,ai,y⟩:=cE hx b;rw[y]at J;cases J;exact Oh q _ (.inr rfl)
 have Z:∀k,k<w.1.size->2<=o k->w'.1[k]?=w.1[k]? := λk b E=>B.block k b (λj=>by
  rcases j with j|rfl|j
  ·have:=h.tH k j;omega
  ·have:=h.tW;omega
  ·have:=K k j;omega)
 have ab:∀k,k<w.1.size->o k=0->k≠l->w'.1[k]?=w.1[k]? := λk b E hw=>B.block k b (λj=>by
  rcases j with j|j|j
  ·have:=h.tH k j;omega
  ·exact hw j
  ·have:=K k j;omega)
 have aa:∀{e:TypeId}{n m:Nat}{v:Xb}{xs:List Xb},w.ownsRow 8 e m v n xs->e≠93->∀k,v.ownBlock=some k->k≠l:=λF he k b=>by
  obtain⟨M,O,y⟩:=cE F b;exact yR y h.hd.eb he
 have Y:=hF.below B h.g.size
 classical
 have F:∀k,k<w.1.size->o k≠1->(if I k then 1 else o k)=o k:=λk b E=>by
  by_cases h1:I k
  ·exfalso;rcases ak k h1 with h2|h2|h2
   ·exact E (h.tH k h2)
   ·exact E (K k h2)
   omega
  exact ae h1
 refine⟨λk=>if I k then 1 else o k,X,V,I,⟨hd,λr=>by have:=hl r;have:=h.hlen r;omega,cJ h.mI (λk b M O y=>(ab k (cj y) (h.tL k b) (aa h.mI S4 k b)).trans y),cJ h.om (λk b M O y=>(ab k (cj y) (h.tR k b) (aa h.om S4 k b)).trans y),(F _ (cj h.hd.eb) (by rw[h.tW];omega)).trans h.tW,λg G=>(F g (lW h.mI G) (by rw[h.tL g G];omega)).trans (h.tL g G),λg G=>(F g (lW h.om G) (by rw[h.tR g G];omega)).trans (h.tR g G),λk b=>ag b,λi p U=>?_,λi p U=>?_,h.g.below Y (af _),h.uc.below Y (af _),h.w8,h.eD.trans ⟨B.os,B.tape,B.output,B.size,λk b=>B.block k (aw b h.eD.size) (λj=>by
  have h0:=h.old k b;rcases j with j|rfl|j
  ·have:=h.tH k j;omega
  ·have:=h.tW;omega
  ·have:=K k j;omega)⟩,λk b=>(F k (aw b h.eD.size) (by rw[h.old k b];decide)).trans (h.old k b),h.few⟩⟩
 ·obtain⟨L,P,Q⟩:=h.prog i p U;exact⟨L,P.st (λk b=>Z k (P.cz k b).2.1 (by rw[Q k b];omega)) (hF.keeps B).stay,λk b=>(F k (P.cz k b).2.1 (by rw[Q k b];omega)).trans (Q k b)⟩
 obtain⟨R,S,T⟩:=h.doc i p U;exact⟨R,jm.st S (λk b=>Z k (S.cz.lt b) (by rw[T k b];omega)) (hF.kn B),λk b=>(F k (S.cz.lt b) (by rw[T k b];omega)).trans (T k b)⟩
end
def tE(q:Fin 3)(w0 w:Xa)(l:Nat)(n N:Nat)(M:Nat->Nat)(x:Xb)(m:Nat)(xs:List Xb):Prop :=w.ownsRow 8 (p7 q) (mA q) x m xs/\m<=900/\∃(ps:List mB) (o:Nat->Nat) (u z:Xb) (D:Fin 3->Xb) (C:Fin 3->List (Xb×Nat×Nat)) (H:Nat->Prop),WP w0 w l ps N o u z D C H/\(∀g,x.ownBlock=some g->o g=1/\¬H g)/\ps.length=n/\(∀p∈ps,p.sR=p.sP)/\∀(j:Nat) (p:mB),ps[j]?=some p->PI p.sP (M j)
def tE.below{q:Fin 3}{w0 w w':Xa}{l n N:Nat}{M:Nat->Nat}{x:Xb}{m:Nat}{xs:List Xb}(h:tE q w0 w l n N M x m xs)(b:Xc w w'):tE q w0 w' l n N M x m xs:=by
 obtain⟨h1,j,ps,o,u,z,D,C,H,p,r⟩:=h;exact⟨cJ h1 (λk E y B e=>(b.block k (cj e)).trans e),j,ps,o,u,z,D,C,H,p.below b,r⟩
def tE.lt{q:Fin 3}{w0 w:Xa}{l n N:Nat}{M:Nat->Nat}{x:Xb}{m:Nat}{xs:List Xb}(h:tE q w0 w l n N M x m xs):l<w.1.size:=by
 obtain⟨_,_,_,_,_,_,_,_,_,b,_⟩:=h;exact cj b.hd.eb
def Ai{q:Fin 3}{f:FuncId}(K:ur q f){w0 w:Xa}{l n N:Nat}{M:Nat->Nat}{x:Xb}{m:Nat}{xs:List Xb}(h:tE q w0 w l n N M x m xs)(S:N<=25000000):Calls Tryz.prog f #[.pointer (some ⟨l,2,none⟩),x] w λe w'=>e=.returned (.tuple #[])/\∃B,WS w0 w' l B (N+1) M/\B.length=n:=by
 obtain⟨h1,F,ps,o,u,z,D,C,H,j,p,G,I,J⟩:=h;have P:∀g,x.ownBlock=some g->g≠l:=λg b e=>by
  have:=(p g b).1;rw[e,j.tW]at this;omega
 refine(K w l u z D N C H j.hd x m xs h1 F (λg b=>⟨(p g b).2,P g b⟩) R5 (λr=>by have:=j.hlen r;omega) j.g.size).mono ?_;intro e w' y;obtain⟨Q,R,L,E,O⟩:=j.Li h1 (λg b=>(p g b).1) y;exact⟨y.1,ps,⟨⟨Q,u,z,R,L,E,O⟩,I,J⟩,G⟩
def Hj{w0 w:Xa}{l:Nat}{ps:List mB}{N:Nat}{M:Nat->Nat}(h:WS w0 w l ps N M){i:Nat}{p:mB}(O:ps[i]?=some p)(K A B S T)(hS:S.size<=20000000)(hM:M i<=70000000000000):Calls Tryz.prog 22 #[ptr p.lb,.string S] (fU w K A B S T) λe m=>∃F X x,e=.returned (.tuple #[.string X,.int .i64 F,x])/\m.1[w.1.size]?=some (.cells #[.int .i64 K,.int .i64 A,.int .i64 B,.string S,.string T] 96 (0,0))/\Calls Tryz.prog 71 #[ptr p.rb,.string S] m λe G=>∃y rg,e=.returned (.tuple #[.string X,.int .i64 F,y])/\dX G x rg/\dX G y rg/\tE 0 w0 G l ps.length N (sT M i) x rg.length (rg.map str):=by
 obtain⟨o,u,z,D,C,H,hw⟩:=h.wp;have Z:=iT w K A B S T;obtain⟨o1,P,a0,_⟩:=hw.box Z;have U:=wX w K A B S T;have V:=h.pi i p O;have a5:=h.same p (aJ O);have hi:=(aA.1 O).1;have hH:∀k,H k->k<w.1.size:=λk r=>(hw.hd.cz k r).2.1;have J:∀w,dX w _ []:=λw=>⟨rfl,.inl ⟨rfl,rfl⟩⟩;cases I:bY.dB _ with
 |false =>
  refine b_ (Dt _ p.lb S P.g R5 I) λm hB=>?_;refine⟨1,⟨#[]⟩,_,rfl,(hB.block _ (cj U)).trans U,?_⟩;refine(Cd m p.rb S hS I).mono ?_;rintro e G⟨rfl,rfl⟩;exact⟨_,[],rfl,J _,J _,J _,by simp,ps,o1,u,z,D,C,H,P.below hB,(λg n=>by cases n),rfl,h.same,λj q E=>(h.pi j q E).le (Ft M i j)⟩
 |true =>
  obtain⟨L,hL,ap,a6⟩:=P.Cc O;have bj:S.size<=8:=by rw[size_data];exact iR I
  refine(My _ p.lb S p.sP L (M i) hL P.g P.uc R5 I V.fit R5).mono ?_;rintro e m⟨x,F,X,Y,rfl,a8,g1,g2,g3,g4,_,ab⟩;have hX:∀k,x.ownBlock=some k->(fU w K A B S T).1.size<=k/\¬Y k:=λk r=>by
   rcases ab with⟨rfl,_⟩|⟨gx,cx,rfl,a,b,_⟩
   ·cases r
   cases r;exact⟨a,b⟩
  obtain⟨o2,a9,bh,ad⟩:=a6 _ m Y (λk=>x.ownBlock=some k) g1 g2 g4.toeu hX;have aC:¬L w.1.size:=λhl=>by
   have h1:=ap _ hl;have h2:=a0 _ (af _);omega
  obtain⟨rg,aa⟩:∃rg,(if F=12 then(p.sP.ask S.1.1).2.cY else[])=rg:=⟨_,rfl⟩;rw[aa]at ab;have ak:dX m x rg:=by
   rcases ab with⟨rfl,rfl⟩|⟨gx,cx,rfl,a,b,c⟩
   ·exact J _
   exact mW c (ah hw.g.size Z.size)
  have a4:=bY.vW 42 S.1.1 p.sP.fresh (by show p.sP.cm.length+42<=200;rw[V.sound.cm];simp) (by show 0<=200;omega);have a3:(ps.set i {p with sP:=(p.sP.ask _).2})[i]?=some {p with sP:=(p.sP.ask S.1.1).2}:=Q8 hi;obtain⟨R,av,a7⟩:=a9.Fq a3;have ax:jm p.rb p.sP m R:=by rw[<-a5];exact av
  refine⟨F,X,x,rfl,(g4.block _ (cj U) aC).trans U,?_⟩;refine(Lh m p.rb p.sP R S ax (Oc p.rb 42) (V.pre R5) hS I).mono ?_;rintro e G⟨bl,bm,y,ai,rfl,bf,bg,hP⟩;rw[a8]at ai;cases ai;obtain⟨o3,bc,a2,bk,ay⟩:=a7 _ G (hP.imp (λY ao=>ao.Q1));have bd:∀g,x.ownBlock=some g->g<m.1.size:=λg n=>(VT ak g n).2;have am:=cJ ak (λk r cs fz hb=>(ay k (cj hb) (by rw[ad k r];omega)).trans hb);refine⟨y,rg,rfl,am,?_,am,?_,_,o3,u,z,D,C,H,bc,λg n=>⟨(a2 g (bd g n)).trans (ad g n),λhh=>?_⟩,by rw[aY,aY],λq E=>?_,Lg O h.pi (V.ask S.1.1)⟩
  ·rw[<-aa];by_cases Q:F=12
   ·rw[ag Q];exact bg Q
   rw[ae Q,bf Q];exact J _
  ·rw[<-aa];split
   ·exact ah a4 S4
   simp
  ·have:=hH g hh;have:=(hX g n).1;have:=Z.size;omega
  rw[SY]at E;rcases SG E with E|rfl
  ·exact h.same q E
  rfl
end jU
namespace jU
open Go.RowKit Go.Shelf Ref
def Ce(w0 w j ps N M)(h:WS w0 w j ps N M)(i p)(m:ps[i]?=some p)(A B S T)(hS:S.size<=20000000)(hM:M i<=70000000000000)(I:N<=25000000):Calls Tryz.prog 41 #[ptr j,.int .i64 i,.agg #[.int .i64 5,.int .i64 A,.int .i64 B,.string S,.string T]] w λe P=>e=.returned (.bool true)/\∃r,WS w0 P j r (N+1) (sT M i)/\r.length=ps.length:=by
 obtain⟨gL,cL,gR,cR,R,U,V,X,Y,Z,a7,a8,b0,b3,b4,b5⟩:=h.qp m 5 A B S T;have l:=Hj h m 5 A B S T hS hM;unfold ptr at l ⊢;have u:=bZ l;unfold fU at *;go_enter Tryz.func41,Tryz.ntmps41;go_wp2_with fail;refine u.Z.mono ?_;rintro e w1⟨tc,ts,x,rfl,J,K⟩;obtain⟨e0,e3,e4,e5⟩:=pG J;have z:=bZ K;go_wp2_with fail;refine z.Z.mono ?_;rintro e Q⟨y,rg,rfl,hx,O,b⟩;have n:=uN Q x y rg rg hx O (by have:=b.2.1;omega) (by have:=b.2.1;omega);rw[aQ rfl]at n;have E:=bZ n;have D:=bZ b;go_wp2_with(first|(go_at_call 72;refine b_ E.Z λw3 G=>?_;have C:=bZ (Ai Hd (D.Z.below G) I))|(go_at_call 73;refine b_ C.Z λw4 L=>?_;have F:=bZ L)|(go_at_call 39;refine dL (uu _ _) ?_));go_ret;exact⟨by simp,F.Z⟩
end jU
end
section
open Tryz
namespace jU
open Go.RowKit Go.Shelf Ref
def NQ{w:Xa}{rb:Nat}(h:w.1[rb]?=some (.cells #[.slice none 0 0,.string ⟨#[]⟩,.slice none 0 0,.slice none 0 0,.slice none 0 0,.slice none 0 0] 101 (0,0)))(E:8<=rb):jm rb bY.LS.new w (λk=>k=rb):=by
 have j:∀{e:TypeId}{m:Nat},w.ownsRow 8 e m _ 0 []:=λ{e m}=>⟨by simp,.inl ⟨rfl,rfl⟩⟩;refine⟨[],[],[],_,_,_,_,_,⟨h,rfl,j,rfl,(λi p e F u=>by cases F),j,⟨λk n=>rfl,af _,(λk w n=>by cases n)⟩,j,j,j,λg b=>?_,(λg b=>by cases b),(λe u=>by cases u),List.nodup_nil,λk n=>?_⟩⟩
 ·rcases b with b|b|b|b|b<;>cases b
 subst n;exact⟨E,_,_,_,h,.inl rfl⟩
section
variable {w0 w w':Xa}{z:Nat}{ps:List mB}{N:Nat}{o:Nat->Nat}{B C r vR':Xb}{y:Fin 3->Xb}{D:Fin 3->List (Xb×Nat×Nat)}{H l:Nat->Prop}{lb rb:Nat}
def WP.more(h:WP w0 w z ps N o B C y D H)(ao:ps.length<1000000)(n:eu (λk=>k=z\/B.ownBlock=some k\/C.ownBlock=some k) w w')(ak:w'.1[z]?=some (.cells #[r,vR',.int .i64 N,y 0,y 1,y 2] 93 (0,0)))(hL:w'.ownsRow 8 29 1 r (ps.length+1) (ps.map (λp=>ptr p.lb)++[ptr lb]))(ab:∀g,r.ownBlock=some g->B.ownBlock=some g\/w.1.size<=g)(hR:w'.ownsRow 8 102 1 vR' (ps.length+1) (ps.map (λp=>ptr p.rb)++[ptr rb]))(ai:∀g,vR'.ownBlock=some g->C.ownBlock=some g\/w.1.size<=g)(aa:fI w' lb bY.LS.new l)(M:∀k,l k->w.1.size<=k/\r.ownBlock≠some k/\vR'.ownBlock≠some k)(ad:jm rb bY.LS.new w' (λk=>k=rb))(P:w.1.size<=rb/\¬l rb/\r.ownBlock≠some rb/\vR'.ownBlock≠some rb):∃o',WP w0 w' z (ps++[⟨lb,bY.LS.new,rb,bY.LS.new⟩]) N o' r vR' y D H:=by
 have hF:Fo (λk=>k=z\/B.ownBlock=some k\/C.ownBlock=some k) w:=by
  refine⟨λk b=>?_,λk b cs t fz E=>?_⟩
  ·rcases b with rfl|b|b
   ·exact h.w8
   ·exact(VT h.mI k b).1
   exact(VT h.om k b).1
  rcases b with rfl|b|b
  ·rw[h.hd.eb]at E;cases E;exact⟨(λhi=>by rcases hi with hi|hi|hi<;>cases hi),(λj=>by rcases j with j|j<;>cases j)⟩
  ·obtain⟨Y,Z,Q⟩:=cE h.mI b;rw[Q]at E;cases E;exact⟨(λhi=>by rcases hi with hi|hi|hi<;>cases hi),(λj=>by rcases j with j|j<;>cases j)⟩
  obtain⟨Y,Z,Q⟩:=cE h.om b;rw[Q]at E;cases E;exact⟨(λhi=>by rcases hi with hi|hi|hi<;>cases hi),(λj=>by rcases j with j|j<;>cases j)⟩
 have G:∀k,k<w.1.size->1<=o k->w'.1[k]?=w.1[k]? := λk b j=>n.block k b (λhx=>by
  rcases hx with rfl|hx|hx
  ·have:=h.tW;omega
  ·have:=h.tL k hx;omega
  ·have:=h.tR k hx;omega)
 have T:=hF.below n h.g.size
 classical
 have F:∀k,k<w.1.size->(if l k then 2*ps.length+2 else if k=rb then 2*ps.length+3 else if w.1.size<=k then 0 else o k)=o k:=λk b=>by
  rw[ae (λh1=>by have:=(M k h1).1;omega),ae R5,ae R5]
 have X:∀k,(w.1.size<=k\/o k=0)->¬l k->k≠rb->(if l k then 2*ps.length+2 else if k=rb then 2*ps.length+3 else if w.1.size<=k then 0 else o k)=0:=λk b h1 h2=>by
  rw[ae h1,ae h2];by_cases J:w.1.size<=k
  ·rw[ag J]
  rw[ae J];rcases b with b|b
  ·exact(J b).elim
  exact b
 have am:=h.hd.on ak (af _) (λk b=>G k (h.hd.cz k b).2.1 (by rw[h.tH k b];omega)) n.size;refine⟨λk=>if l k then 2*ps.length+2 else if k=rb then 2*ps.length+3 else if w.1.size<=k then 0 else o k,⟨am,h.hlen,by rw[aj,aZ];exact hL,by rw[aj,aZ];exact hR,(F _ (cj h.hd.eb)).trans h.tW,λg u=>?_,λg u=>?_,λk b=>(F k (h.hd.cz k b).2.1).trans (h.tH k b),λi p m=>?_,λi p m=>?_,h.g.below T (af _),h.uc.below T (af _),h.w8,h.eD.trans ⟨n.os,n.tape,n.output,n.size,λk b=>G k (aw b h.eD.size) (by rw[h.old k b];decide)⟩,λk b=>(F k (aw b h.eD.size)).trans (h.old k b),by rw[aj];show ps.length+1<=_;omega⟩⟩
 ·refine X g ?_ (λh1=>(M g h1).2.1 u) (λe=>P.2.2.1 (e▸u));rcases ab g u with h1|h1
  ·exact .inr (h.tL g h1)
  exact .inl h1
 ·refine X g ?_ (λh1=>(M g h1).2.2 u) (λe=>P.2.2.2 (e▸u));rcases ai g u with h1|h1
  ·exact .inr (h.tR g h1)
  exact .inl h1
 ·by_cases S:i<ps.length
  ·rw[aP S]at m;obtain⟨L,K,U⟩:=h.prog i p m;exact⟨L,K.st (λk b=>G k (K.cz k b).2.1 (by rw[U k b];omega)) (hF.keeps n).stay,λk b=>(F k (K.cz k b).2.1).trans (U k b)⟩
  rw[aX R5]at m;have I:i-ps.length=0:=by
   have:=(aA.1 m).1;simp at this;omega
  rw[I]at m;cases m;obtain rfl:i=ps.length:=R5;exact⟨l,aa,λk b=>ag b⟩
 by_cases S:i<ps.length
 ·rw[aP S]at m;obtain⟨R,O,V⟩:=h.doc i p m;exact⟨R,jm.st O (λk b=>G k (O.cz.lt b) (by rw[V k b];omega)) (hF.kn n),λk b=>(F k (O.cz.lt b)).trans (V k b)⟩
 rw[aX R5]at m;have I:i-ps.length=0:=by
  have:=(aA.1 m).1;simp at this;omega
 rw[I]at m;cases m;obtain rfl:i=ps.length:=R5;refine⟨_,ad,λk b=>?_⟩;subst b;show(if l k then 2*ps.length+2 else if k=k then 2*ps.length+3 else _)=_;rw[ae P.2.1,ag rfl]
end
def Cf{w:Xa}{t e:TypeId}(Q:prog.underlying t=some (.slice e))(M:(prog.info? e).map (λi=>(i.zero,i.size,i.bytes))=some (some (.pointer none),1,8)){v:Xb}{n:Nat}{xs:List Xb}(P:w.ownsRow 8 e 1 v n xs)(p)(K:n<=10000000)(L:8<=w.1.size):∃g F w',(Builtin.append_ #[t,t] t #[v,.slice (some ⟨w.1.size,0,none⟩) 1 1]).run prog (w.alloc (.cells #[.pointer (some ⟨p,0,none⟩)] e))=.ok (.slice (some ⟨g,0,none⟩) (n+1) F) w'/\w'.ownsRow 8 e 1 (.slice (some ⟨g,0,none⟩) (n+1) F) (n+1) (xs++[ptr p])/\eu (λk=>v.ownBlock=some k) w w'/\(v.ownBlock=some g\/w.1.size<g):=by
 have b:Below _ w (w.alloc (.cells #[.pointer (some ⟨p,0,none⟩)] e)):=(VM _ w).alloc (af _) _;have O:=heap_alloc_new w (.cells #[.pointer (some ⟨p,0,none⟩)] e);obtain⟨g,F,w',h1,h2,m,E,T⟩:=iN t t e _ 1 8 Q M rfl S4 v n xs (cJ P (λk I R S J=>(b.block k (cj J)).trans J)) ⟨w.1.size,0,none⟩ 1 [ptr p] rfl (λj u G=>by
  rw[addr_add,aG];simp only[World.cell?,O]
  match j,G with
  |0,G=>simp at G;rw[<-G];rfl) (λu hu=>by
  simp at hu;rw[hu];rfl) R5 Th (ah L b.size)
 refine⟨g,F,w',h1,h2,⟨m.os.trans b.os,m.tape.trans b.tape,m.output.trans b.output,ah b.size m.size,λk I K=>(m.block k (aw I b.size) (λe=>K e.symm)).trans (b.block k I)⟩,?_⟩;rcases E with E|E
 ·exact .inl E
 right;rw[E];simp
def Qf:(prog.info? 29).map (λi=>(i.zero,i.size,i.bytes))=some (some (.pointer none),1,8):=S8
def Qg:(prog.info? 102).map (λi=>(i.zero,i.size,i.bytes))=some (some (.pointer none),1,8):=S8
def Fu(w b j v):eu (λk=>k=b) w (w.setCell ⟨b,j,none⟩ v):=⟨rfl,rfl,rfl,by simp,λk m e=>VU w ⟨b,j,none⟩ k v e⟩
def jT{F b:Nat->Prop}{w w':Xa}(h:eu F w w')(hF:∀k,F k->b k):eu b w w':=⟨h.os,h.tape,h.output,h.size,λk j m=>h.block k j (λe=>m (hF k e))⟩
end jU
end
namespace jU
def Aj(c:Int)(s:ba)(w:Xa):Calls Tryz.prog 110 #[.agg #[.int .i64 c,.string s],.agg #[.int .i64 c,.string s]] w λe l=>e=.returned (.bool true)/\Xc w l:=by
 have j:Xc w ((w.alloc (.cells #[.int .i64 c,.string s] 59)).alloc (.cells #[.int .i64 c,.string s] 166)):=((VM _ w).alloc (af _) _).alloc S5 _;have hd:decide (c=c)=true:=aQ rfl;have b:=bZ j;clear j;go_enter Tryz.func110,Tryz.ntmps110;go_wp2_with fail
 go_quiet ((go_at_call 39;exact Calls.quiet_of_same (uu _ _)))
 go_wp2;go_ret;exact⟨by simp,by first|exact b.Z|exact b.Z.drew|exact b.Z.trans ((gH _ _).mono b.Z.size)⟩
end jU
section
namespace jU
open Go.RowKit Go.Shelf Ref
def WS.below{w0 w w':Xa}{b:Nat}{ps:List mB}{N:Nat}{M:Nat->Nat}(h:WS w0 w b ps N M)(e:Xc w w'):WS w0 w' b ps N M:=by
 obtain⟨o,m,r,n,j,H,l⟩:=h.wp;exact⟨⟨o,m,r,n,j,H,l.below e⟩,h.same,h.pi⟩
def qt(y:bY.rS):∃n r e l j m,dm y=[.string n,.string r,.int .i64 e,.string l,.int .i64 j,.string m]:=by
 obtain⟨e,l,_,h1⟩:=Go.Proofs.YtpekpdimdelncaaGreatDoor.dw y.was;obtain⟨j,m,_,h2⟩:=Go.Proofs.YtpekpdimdelncaaGreatDoor.dw y.now;exact⟨_,_,e,l,j,m,by unfold dm;rw[h1,h2];rfl⟩
section
variable {w0 w w':Xa}{b:Nat}{ps:List mB}{N:Nat}{M:Nat->Nat}{i:Nat}{p:mB}
def WS.ready(h:WS w0 w b ps N M)(j:Xc w w'){q:Fin 3}{x:Xb}{m:Nat}{xs:List Xb}(hx:w'.ownsRow w.1.size (p7 q) (mA q) x m xs)(r:m<=900):tE q w0 w' b ps.length N M x m xs:=by
 obtain⟨o,C,E,D,y,H,e⟩:=h.wp;obtain⟨B,z,u,_⟩:=e.Qd (λ_=>1) j;refine⟨mW hx e.g.size,r,ps,B,C,E,D,y,H,z,λg l=>?_,rfl,h.same,h.pi⟩;have:=(VT hx g l).1;exact⟨u g this,λn=>by have:=(e.hd.cz g n).2.1;omega⟩
def WS.prog(h:WS w0 w b ps N M)(l:ps[i]?=some p):∃L,fI w p.lb p.sP L/\G w:=by
 obtain⟨o,n,u,r,m,H,e⟩:=h.wp;obtain⟨L,j,_⟩:=e.prog i p l;exact⟨L,j,e.g⟩
def WS.doc(h:WS w0 w b ps N M)(e:ps[i]?=some p):∃R,jm p.rb p.sP w R:=by
 obtain⟨o,n,u,r,m,H,l⟩:=h.wp;obtain⟨R,j,_⟩:=l.doc i p e;exact⟨R,by rw[<-h.same p (aJ e)];exact j⟩
end
def Lm(w0 w b ps N M)(h:WS w0 w b ps N M)(i:Nat)(p:mB)(E:ps[i]?=some p)(A B S T)(hN:N<=25000000):Calls Tryz.prog 74 #[ptr b,.int .i64 i,.agg #[.int .i64 6,.int .i64 A,.int .i64 B,.string S,.string T]] w λe w'=>e=.returned (.bool true)/\∃ap,WS w0 w' b ap (N+1) M/\ap.length=ps.length:=by
 obtain⟨gL,cL,gR,cR,a1,a2,a3,a4,a5,a6,a7,a8,b0,b3,b4,b5⟩:=h.qp E 6 A B S T;have G:=h.below (iT w 6 A B S T);obtain⟨L,hL,_⟩:=G.prog E;obtain⟨R,d,es,fl,vA,vF,vB,bj,av,I⟩:=G.doc E;have a0:=(h.pi i p E).du;have U:=NM _ p.lb p.sP L hL R5;have V:(fU w 6 A B S T).ownsRow 8 199 6 av p.sP.du.length (p.sP.du.flatMap dm):=I.runs;have r5:(fU w 6 A B S T).cell? ⟨p.rb,5,none⟩=some av:=cr I.eb rfl;have r6:=cj I.eb;obtain⟨oN,cN,rfl⟩:=dD V;have am:=λF (hB:Below (fU w 6 A B S T).1.size (fU w 6 A B S T) F) x (hx:F.ownsRow (fU w 6 A B S T).1.size 61 6 x p.sP.du.length (p.sP.du.flatMap dm))=>G.ready (q:=2) hB hx a0;generalize p.sP.du=rn at *;unfold ptr at U ⊢;have Z:=bZ U;have ab:=bZ V;have aa:=bZ am;clear U V am G h I hL E;unfold fU at *;go_enter Tryz.func74,Tryz.ntmps74;go_wp2_with fail;refine Z.Z.mono ?_;rintro e F⟨x,rfl,hx,C⟩;dsimp only;obtain⟨ox,cx,rfl⟩:=dD hx;have q5:=cell_later C r5;have q6:=aw r6 C.size;have z:=bZ (And.intro (aa.Z F C _ hx) (cJ ab.Z (λk hk cs fz r=>(C.block k (cj r)).trans r)));clear Z aa ab hx C a1 a2 a3 a4 a5 a6 b0 b3 b4 b5 r5 r6;go_wp2
 go_loopw [9,12] (λbg X wr=>∃k:Nat,bg=.bool true/\X=.int .i64 (k:Int)/\k<=rn.length/\Hid (Xc F wr)) (λ_ X _=>rn.length-(intOf X).toNat)
 case atStart=>exact⟨0,by simp,rfl,ar _,bZ (VM _ _)⟩
 case round =>
  obtain⟨k,rfl,rfl,hk,l⟩:=hrel;by_cases bc:k<rn.length
  ·have a9:(k:Int)<(rn.length:Int):=R5;have K:=aq bc;generalize rn[k]=y at K;obtain⟨kx,nx,c1,s1,c2,s2,ad⟩:=qt y;have Q:∀a,(dm a).length=6:=λa=>by obtain⟨_,_,_,_,_,_,h⟩:=qt a;rw[h];rfl
   obtain⟨ga,ca,bd,ai,O⟩:=fK Q S4 z.Z.1.1 K;obtain⟨gb,cb,bf,ak,P⟩:=fK Q S4 z.Z.2 K;cases bd;cases bf;rw[ad]at O P;have j:=bZ (And.intro O (And.intro P (And.intro ai ak)));clear O P ad Q K ai ak;have x2:=cell_later l.Z (j.Z.1 2 _ rfl);have y2:=cell_later l.Z (j.Z.2.1 2 _ rfl);have x3:=cell_later l.Z (j.Z.1 3 _ rfl);have y3:=cell_later l.Z (j.Z.2.1 3 _ rfl);have J:=aw j.Z.2.2.1 l.Z.size;have r:=aw j.Z.2.2.2 l.Z.size
   go_upto_region 11 with fail
   go_cut [13]from 50 to 110 (λv Y=>v=.bool true/\Hid (Xc wr Y))
   case first =>
    go_region_with (go_at_call 110;refine b_ (Aj _ _ _) λw4 D=>?_;have u:=bZ D;clear D)
    all_goals
     go_wp2
     go_meet
     case rel=>exact⟨rfl,bZ (((VM _ wr).drew).trans u.Z)⟩
   case rest =>
    obtain⟨rfl,u⟩:=hcut;clear x2 x3 y2 y3 J r;have n:=bZ (l.Z.trans (u.Z.mono l.Z.size));generalize wc=W4 at *;have x4:=cell_later n.Z (j.Z.1 4 _ rfl);have y4:=cell_later n.Z (j.Z.2.1 4 _ rfl);have x5:=cell_later n.Z (j.Z.1 5 _ rfl);have y5:=cell_later n.Z (j.Z.2.1 5 _ rfl);have J:=aw j.Z.2.2.1 n.Z.size;have r:=aw j.Z.2.2.2 n.Z.size
    apply_assumption
    go_upto_region 12 with fail
    go_cut [14]from 50 to 110 (λv Y=>v=.bool true/\Hid (Xc W4 Y))
    case first =>
     go_region_with (go_at_call 110;refine b_ (Aj _ _ _) λw4 D=>?_;have u:=bZ D;clear D)
     all_goals
      go_wp2
      go_meet
      case rel=>exact⟨rfl,bZ (((VM _ W4).drew).trans u.Z)⟩
    case rest =>
     obtain⟨rfl,ax⟩:=hcut;clear x4 x5 y4 y5 J r;have m:=bZ (n.Z.trans (ax.Z.mono n.Z.size));generalize wc=W5 at *;have x0:=cell_later m.Z (j.Z.1 0 _ rfl);have y0:=cell_later m.Z (j.Z.2.1 0 _ rfl);have x1:=cell_later m.Z (j.Z.1 1 _ rfl);have y1:=cell_later m.Z (j.Z.2.1 1 _ rfl);rw[aR]at x0 y0;have J:=aw j.Z.2.2.1 m.Z.size;have r:=aw j.Z.2.2.2 m.Z.size
     apply_assumption
     go_upto_region 13 with fail
     go_quiet (fail)
     go_wp2
     go_roundw
     case rel=>exact⟨k+1,by simp,by go_num,by omega,bZ (by first|exact m.Z|exact m.Z.drew|exact m.Z.trans ((gH _ _).mono m.Z.size))⟩
     case measure=>simp[intOf];omega
  have a9:¬(k:Int)<(rn.length:Int):=R5;have ay:=bZ (Ai Ee (z.Z.1.below l.Z) hN);have bh:=(z.Z.1.below l.Z).lt;clear z l;go_wp2_with(go_at_call 111;refine b_ ay.Z λw4 ao=>?_;have aC:=bZ ao;clear ao);go_ret;exact⟨by simp,aC.Z⟩
end jU
end
