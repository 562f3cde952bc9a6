/- Out of Q3. -/
import Derived.Test.YtpekpdimdelncaaGreatDoorP15
import Derived.Test.YtpekpdimdelncaaGreatDoorP06
set_option linter.unusedVariables false
set_option linter.unusedSimpArgs false
set_option maxRecDepth 100000
set_option maxHeartbeats 4000000
set_option linter.defProp false
namespace Go.Proofs.YtpekpdimdelncaaGreatDoor
open Go.RowKit Go.Shelf
section
open bY
open Tryz
namespace Ref
variable{c d:UInt8}{l p x:a_}{ps:List (a_)}{f:a_->Bool}
def EL(s:ba)(h:0<s.size):s.1.1.head?=some s[0]:=by rw[RZ,byte_at s 0 h]
def EM(s:ba)(h:0<s.size):s.1.1.getLast?=some (s[s.size-1]' R5):=by
 rw[SJ,<-VO,byte_at s _ R5]
theorem Js(h:c≠d):((c.toNat) != (d.toNat:Int))=true:=by
 grind [A3]
theorem Jt(h:c=d):((c.toNat) != (d.toNat:Int))=false:=by
 grind
def Gk(s:ba)(h:2<=s.size):(s.extract 1 (s.size-1)).1.1=(s.1.1.drop 1).dropLast:=by
 rw[VV,Ta,aV,<-VO]
def x9(s w)(D:8<=w.1.size)(G:s.size<=20000000):Calls prog 194 #[.string s] w λe F=>∃o n c,e=.returned (.tuple #[.slice o n c,.bool (fG s.1.1).isSome])/\n=((fG s.1.1).getD []).length/\iY w F (.slice o n c) ((fG s.1.1).getD []):=by
 have I:s.1.1.length=s.size:=by rw[VO]
 by_cases h2:2<=s.size
 ·have C:¬(s.size:Int)<2:=R5;have b:0<s.size:=R5;by_cases j:s[0]=123
  ·have z:((s[0].toNat:Int) != 123)=false:=Jt (d:=123) j;by_cases m:s[s.size-1]=125
   ·have B:((s[s.size-1].toNat:Int) != 125)=false:=Jt (d:=125) m;have E:gX s.1.1=some ((s.1.1.drop 1).dropLast):=by
     unfold gX;rw[ag ⟨by omega,by rw[EL s b,j],by rw[EM s b,m]⟩]
    have hx:=Gk s h2;have r:=bZ (C' _ w D (by rw[VO,hx,List.length_dropLast,aV];omega));rw[hx]at r;have hi:fG s.1.1=some (gd (s.1.1.drop 1).dropLast):=by unfold fG;rw[E];rfl
    rw[hi];go_enter func194,ntmps194;go_wp2_with fail;refine r.Z.mono ?_;rintro e J⟨v,rfl,u⟩;obtain⟨o,c,rfl⟩:=u.form;have y:=bZ u;dsimp only;go_wp2;go_ret2;exact⟨_,_,_,rfl,rfl,y.Z⟩
   have B:((s[s.size-1].toNat:Int) != 125)=true:=Js (d:=125) m;have hi:fG s.1.1=none:=by
    unfold fG gX;rw[ae (λh=>m (by have:=h.2.2;rw[EM s b]at this;exact aB this))];rfl
   rw[hi];go_enter func194,ntmps194;go_wp2;go_ret2;exact⟨_,_,_,rfl,rfl,iY.nil w⟩
  have z:((s[0].toNat:Int) != 123)=true:=Js (d:=123) j;have hi:fG s.1.1=none:=by
   unfold fG gX;rw[ae (λh=>j (by have:=h.2.1;rw[EL s b]at this;exact aB this))];rfl
  rw[hi];go_enter func194,ntmps194;go_wp2;go_ret2;exact⟨_,_,_,rfl,rfl,iY.nil w⟩
 have C:(s.size:Int)<2:=R5;have hi:fG s.1.1=none:=by
  unfold fG gX;rw[ae (λh=>by have:=h.1;omega)];rfl
 rw[hi];go_enter func194,ntmps194;go_wp2;go_ret2;exact⟨_,_,_,rfl,rfl,iY.nil w⟩
theorem x_(l):dU l=(j_ l).isSome:=by
 unfold dU j_;by_cases h:2<=l.length/\l.length<=32/\l.head?=some 39/\l.getLast?=some 39
 ·have e:l_ l 1=(((l.drop 1).dropLast).all λc=>fW c&&!(c==39)):=by
   unfold l_;rw[Ta,aV];have:l.length-1-1=(l.length-1)-1:=rfl;rfl
  grind
 grind
theorem zy:∀r e d q b p,p∈me r e d q b->p∈b\/p.length<=e.length+r.length
 |[],e,d,q,b,p,h=>by
  grind [me,List.mem_singleton.1]
 |c::r,e,d,q,b,p,h=>by
  have j:∀d q,p∈me r (e++[c]) d q b->p∈b\/p.length<=e.length+(c::r).length:=λd q h=>by
   rcases zy r _ d q b p h with h|h
   ·grind
   grind
  rw[me]at h;split at h
  ·grind
  split at h
  ·grind
  split at h
  ·grind
  split at h
  ·grind
  split at h
  ·rcases zy r _ _ _ _ p h with h|h
   ·grind
   grind
  grind
def ya(h:fG l=some ps)(b:p∈ps):p.length<=l.length:=by
 unfold fG at h;cases hi:gX l with
 |none=>rw[hi]at h;cases h
 |some x =>
  rw[hi]at h;cases h;have e:=congrArg List.length (s8 hi);simp at e;unfold gd at b;split at b
  ·cases b
  rcases zy _ _ _ _ _ p b with h|h
  ·cases h
  simp at h;omega
def PH:Nat->Option (List (a_))->Bool
 |0,_=>false
 |_+1,none=>false
 |m+1,some ps=>decide (ps.length<=12)&&ps.all λp=>(rv m p).isSome
def Mg{n:Nat}(h1:d_ l=none)(h2:j_ l=none):(rv n l).isSome=PH n (fG l):=by
 rw[p9,h1,h2];unfold fG
 match n with
 |0=>rfl
 |m+1 =>
  simp only;cases gX l with
  |none=>rfl
  |some x =>
   simp only[R0];show _=(decide _&&_);rw[<-sA];split
   ·rw[aN R5];rfl
   rw[aQ R5,Option.isSome_map];rfl
def Ju{i:Nat}(h:ps[i]?=some x):(ps.drop i).all f=(f x&&(ps.drop (i+1)).all f):=by
 obtain⟨h1,h2⟩:=aA.1 h;rw[aU h1,RL,h2]
def rk(n:Nat)(s w)(X:8<=w.1.size)(T:s.size<=20000000)(ai:n<=3)(N:∀m,n=m+1->∀(s) (w),8<=w.1.size->s.size<=20000000->Calls prog 146 #[.string s,.int .i64 m] w λe D=>e=.returned (.bool (rv m s.1.1).isSome)/\Xc w D):Calls prog 146 #[.string s,.int .i64 n] w λe D=>e=.returned (.bool (rv n s.1.1).isSome)/\Xc w D:=by
 have am:s.1.1.length=s.size:=by rw[VO]
 have B:=bZ (qz s w T);have y:=bZ (eR s w T);have z:=bZ (x9 s w X T);rw[x_]at y;cases I:d_ s.1.1 with
 |some i =>
  have r:(rv n s.1.1).isSome=true:=by rw[p9,I];rfl
  rw[r];rw[I]at B;unfold pv at B;generalize (j_ s.1.1).isSome=b at y;generalize (fG s.1.1)=q at z;go_enter func146,ntmps146;go_wp2_with fail;refine b_ B.Z λu j=>?_;obtain rfl:=j.symm;go_wp2_with fail;refine b_ y.Z λu j=>?_;obtain rfl:=j;go_wp2_with fail;refine z.Z.mono ?_;rintro e u⟨o,m,c,rfl,R,r⟩;have C:=bZ r.eD;go_wp2;go_ret;exact⟨rfl,C.Z⟩
 |none =>
  rw[I]at B;unfold pv at B;cases M:j_ s.1.1 with
  |some b =>
   have r:(rv n s.1.1).isSome=true:=by rw[p9,I,M];rfl
   rw[r];rw[M]at y;simp only[SI]at y;generalize (fG s.1.1)=q at z;go_enter func146,ntmps146;go_wp2_with fail;refine b_ B.Z λu j=>?_;obtain rfl:=j.symm;go_wp2_with fail;refine b_ y.Z λu j=>?_;obtain rfl:=j;go_wp2_with fail;refine z.Z.mono ?_;rintro e u⟨o,m,c,rfl,R,r⟩;have C:=bZ r.eD;go_wp2;go_ret;exact⟨rfl,C.Z⟩
  |none =>
   rw[Mg I M];rw[M]at y;simp only[Option.isSome_none]at y;have G:=λps p h S=>ya (l:=s.1.1) (ps:=ps) h (p:=p) S;generalize (fG s.1.1)=q at z G ⊢;cases q with
   |none =>
    simp only[Option.isSome_none,Option.getD_none,Ra]at z;have r:PH n none=false:=Tp;rw[r];go_enter func146,ntmps146;go_wp2_with fail;refine b_ B.Z λu j=>?_;obtain rfl:=j.symm;go_wp2_with fail;refine b_ y.Z λu j=>?_;obtain rfl:=j;go_wp2_with fail;refine z.Z.mono ?_;rintro e u⟨o,m,c,rfl,R,r⟩;have C:=bZ r.eD;go_wp2;go_ret;exact⟨rfl,C.Z⟩
   |some ps =>
    simp only[SI,Option.getD_some]at z;have G:=λp S=>G ps p rfl S;cases n with
    |zero =>
     show Calls prog 146 #[.string s,.int .i64 0] w λe D=>e=.returned (.bool false)/\Xc w D;go_enter func146,ntmps146;go_wp2_with fail;refine b_ B.Z λu j=>?_;obtain rfl:=j.symm;go_wp2_with fail;refine b_ y.Z λu j=>?_;obtain rfl:=j;go_wp2_with fail;refine z.Z.mono ?_;rintro e u⟨o,m,c,rfl,R,r⟩;have C:=bZ r.eD;go_wp2;go_ret;exact⟨rfl,C.Z⟩
    |succ n =>
     have N:=bZ (N n rfl);have ak:(((n:Int)+1)==0)=false:=Tc;show Calls prog 146 #[.string s,.int .i64 ((n+1:Nat):Int)] w λe D=>e=.returned (.bool (decide (ps.length<=12)&&ps.all λp=>(rv n p).isSome))/\Xc w D;by_cases V:ps.length<=12
     ·have ab:¬(12:Int)<(ps.length:Int):=R5;rw[aQ V,Ru];go_enter func146,ntmps146;go_wp2_with fail;refine b_ B.Z λu j=>?_;obtain rfl:=j.symm;go_wp2_with fail;refine b_ y.Z λu j=>?_;obtain rfl:=j;go_wp2_with fail;refine z.Z.mono ?_;rintro e u⟨o,m,c,rfl,rfl,r⟩;have HR:=bZ r;go_wp2
      go_loopw [10] (λU wr=>∃(i:Nat),i<=ps.length/\U=.int .i64 i/\Hid (iY w wr (.slice o ps.length c) ps)/\Hid ((ps.drop i).all (λp=>(rv n p).isSome)=ps.all (λp=>(rv n p).isSome))) (λU _=>ps.length-(intOf U).toNat)
      case atStart=>exact⟨0,ar _,rfl,HR,bZ rfl⟩
      case round =>
       obtain⟨i,hi,rfl,F,J⟩:=hrel;by_cases Z:i<ps.length
       ·have ad:(i:Int)<(ps.length:Int):=R5;have hx:=aq Z;obtain⟨g,rfl,hg,hcell⟩:=F.Z.cell hx;have K:=Ju (f:=λp=>(rv n p).isSome) hx;have E:=bZ (N.Z ⟨ps[i].toArray⟩ wr (ah X F.Z.eD.size) (by rw[VO];show ps[i].length<=_;have:=G _ (Si Z);omega));have hd:(⟨ps[i].toArray⟩:ba).1.1=ps[i]:=rfl;rw[hd]at E;unfold str at hcell;cases Y:(rv n ps[i]).isSome with
        |true =>
         rw[Y]at E K;have aa:Hid ((ps.drop (i+1)).all (λp=>(rv n p).isSome)=ps.all (λp=>(rv n p).isSome)):=bZ (by rw[<-J.Z,K,Ru]);go_wp2_with fail;refine b_ E.Z λw2 Q=>?_;have P:=bZ (F.Z.below Q);go_wp2;exact⟨⟨i+1,by omega,by go_num,P,aa⟩,by simp[intOf];omega⟩
        |false =>
         rw[Y]at E K;have L:ps.all (λp=>(rv n p).isSome)=false:=by rw[<-J.Z,K,RS]
         have O:=bZ L;go_wp2_with fail;refine b_ E.Z λw2 Q=>?_;have P:=bZ (F.Z.below Q);go_wp2;go_ret;exact⟨by rw[O.Z];rfl,P.Z.eD⟩
       obtain rfl:i=ps.length:=R5;have L:ps.all (λp=>(rv n p).isSome)=true:=by rw[<-J.Z,aT (af _)];rfl
       have O:=bZ L;clear J L N G;go_wp2;go_ret;exact⟨by rw[O.Z];rfl,F.Z.eD⟩
     have ab:(12:Int)<(ps.length:Int):=R5;rw[aN V,RS];go_enter func146,ntmps146;go_wp2_with fail;refine b_ B.Z λu j=>?_;obtain rfl:=j.symm;go_wp2_with fail;refine b_ y.Z λu j=>?_;obtain rfl:=j;go_wp2_with fail;refine z.Z.mono ?_;rintro e u⟨o,m,c,rfl,rfl,r⟩;have C:=bZ r.eD;go_wp2;go_ret;exact⟨rfl,C.Z⟩
def tg:∀(n:Nat) (s) (w) (b:8<=w.1.size) (j:s.size<=20000000),n<=3 ->Calls prog 146 #[.string s,.int .i64 n] w λe y=>e=.returned (.bool (rv n s.1.1).isSome)/\Xc w y:=by
 intro n
 induction n with
 |zero=>exact λs w b j _=>rk 0 s w b j R5 (λm e=>by omega)
 |succ n u=>exact λs w b j r=>rk _ s w b j r (λm e s w b j=>by
   obtain rfl:n=m:=R5;exact u s w b j R5)
end Ref
end
section
open bY
open Tryz
variable{B b:Nat}{l:a_}{n:a_×Wo}{x:Xb}{m:List (a_×Wo)}
def yb{w w':Xa}(h:Hr B b l w)(e:Xc w w'):Hr B b l w':=by
 have f:∀p,Lib.BuilderAt 188 5 B b p (Lib.byteCells l) w->Lib.BuilderAt 188 5 B b p (Lib.byteCells l) w':=by
  rintro p⟨h1,v,h2,j,r⟩;exact⟨h1,v,(e.block b (cj h2)).trans h2,lx j e,r⟩
 rcases h with h|h
 ·exact .inl (f _ h)
 exact .inr (f _ h)
def size_data(x:ba):x.size=x.1.1.length:=by rfl
def OA{w:Xa}(h:Hr B b l w):b<w.1.size:=by
 rcases h with h|h
 ·exact h.lt
 exact h.lt
def tj(key:a_)(r)(m:List (a_×Wo))(k)(n:a_×Wo)(e:m[k]?=some n):dA key ⟨r,m.take (k+1)⟩=dA key ⟨r,m.take k⟩++g_ n:=by
 have j:=(aA.1 e).1;unfold dA;rw[Tv j,Rm];have:m[k]=n:=by rw[aq j]at e;exact aB e
 simp[this]
def rl{w:Xa}(h1:n.1.length<=200)(h2:ij w n.2 x):(g_ n).length<=100202:=by
 have:=lL h2;simp[g_];omega
def kB{w:Xa}{kY:a_}{r:Wo}{x:Xb}{m:List (a_×Wo)}{sl:Xb}(C:kY.length<=200)(p:ij w r x)(h:eA w m sl):∀k,k<=m.length->(dA kY ⟨r,m.take k⟩).length<=100206+k*100202
 |0,_=>by
  have:=lL p;simp[dA];omega
 |k+1,E=>by
  obtain⟨u,h1,h2,e⟩:=h;obtain⟨n,j⟩:∃n,m[k]?=some n:=⟨_,aq R5⟩;obtain⟨q,D⟩:∃q,u[k]?=some q:=⟨_,aq R5⟩;obtain⟨_,y,z⟩:=e k n q j D;have F:=kB C p ⟨u,h1,h2,e⟩ k R5;have:=rl y z;rw[tj kY r m k n j,aj];omega
def Gl(qs:List (Xb×Xb×Xb))(k q)(r:qs[k]?=some q):(qs.flatMap iL)[3*k]?=some q.1/\(qs.flatMap iL)[3*k+1]?=some q.2.1/\(qs.flatMap iL)[3*k+2]?=some q.2.2:=by
 induction qs generalizing k with
 |nil=>simp at r
 |cons p qs y =>
  cases k with
  |zero =>
   simp at r;subst r;exact⟨rfl,rfl,rfl⟩
  |succ k =>
   simp at r;obtain⟨h1,h2,u⟩:=y k r;have e:∀j,(List.flatMap iL (p::qs))[3*(k+1)+j]?=(qs.flatMap iL)[3*k+j]? := λj=>by
    rw[Q7,aX (by simp[iL];omega)]
    congr 1
    simp[iL];omega
   exact⟨(e 0).trans h1,(e 1).trans h2,(e 2).trans u⟩
def eA.cell{w:Xa}{sl:Xb}(h:eA w m sl):∃o c,sl=.slice o m.length c/\∀k n,m[k]?=some n->∃g x y,o=some ⟨g,0,none⟩/\g<w.1.size/\n.1.length<=200/\w.cell? ⟨g,k*3,none⟩=some (str n.1)/\w.cell? ⟨g,k*3+1,none⟩=some x/\w.cell? ⟨g,k*3+2,none⟩=some y/\ij w n.2 (.agg #[x,y]):=by
 obtain⟨r,h1,h2,I⟩:=h;rcases h1.2 with⟨rfl,G⟩|⟨g,C,K,rfl,L,u,P,M,Q,J⟩
 ·refine⟨none,0,by rw[G],λk n p=>?_⟩;have:=(aA.1 p).1;omega
 refine⟨some ⟨g,0,none⟩,C,rfl,λk n p=>?_⟩;have O:=(aA.1 p).1;obtain⟨q,z⟩:∃q,r[k]?=some q:=⟨_,aq R5⟩;obtain⟨D,E,F⟩:=I k n q p z;obtain⟨d1,d2,d3⟩:=Gl r k q z;have hcell:∀j v,(r.flatMap iL)[j]?=some v->w.cell? ⟨g,j,none⟩=some v:=λj v e=>by
  have N:=(aA.1 e).1;rw[<-J]at e;rw[S2]at e;split at e
  ·simp[World.cell?,u];rw[<-Sc];exact e
  cases e
 rw[Nat.mul_comm k 3];exact⟨g,q.2.1,q.2.2,rfl,cj u,E,by rw[hcell _ _ d1,D],hcell _ _ d2,hcell _ _ d3,F⟩
def zC(w L kp q key)(h:iM w L kp q)(g:G w)(hk:key.size<=200):Calls prog 61 #[ptr q,.string key] w λe p=>e=.returned (str (dA key.1.1 kp))/\Xc w p:=by
 obtain⟨c,i,sl,P,_,O,hN,_,bN⟩:=h;have c0:w.cell? ⟨q,0,none⟩=some c:=cr P rfl;have c1:w.cell? ⟨q,1,none⟩=some i:=cr P rfl;have c2:w.cell? ⟨q,2,none⟩=some sl:=cr P rfl;have hq:q<w.1.size:=cj P;have hlen:=kB (kY:=key.1.1) (by simpa using hk) O hN;obtain⟨o,cp,rfl,hcell⟩:=hN.cell;obtain⟨ci,y,he,hy⟩:=O.form;cases he;have bR:=lL O;have hz:=size_mk (gO kp.dR);obtain⟨x,hx⟩:∃x:ba,(⟨(gO kp.dR).toArray⟩:ba)=x:=⟨_,rfl⟩;have bp:x.1.1=gO kp.dR:=TH;have bn:str (gO kp.dR)=.string x:=by rw[<-hx];rfl
 rw[hx]at hz;have Z:Xc w (w.alloc (.cells #[.pointer none,.slice none 0 0] 188)):=(VM _ _).alloc (af _) _;have ay:=mS (w.alloc (.cells #[.pointer none,.slice none 0 0] 188)) (g.below Z g.size) (O.keeps (cT.below Z));rw[bn]at ay;have bh:=Lib.fresh_isBuilder 188 5 w;have a7:=bZ ay;have a2:=bZ bh;have X:=bZ hlen;have aC:=bZ hcell;have bx:=bZ bp;clear ay bh hlen hcell hx bn bp O hN P;unfold ptr;rcases hy with rfl|⟨ty,a,rfl⟩
 all_goals
  go_enter func61,ntmps61;go_wp2_with fail;refine b_ a7.Z λw1 aa=>?_;have ab:Xc w w1:=Z.trans (aa.mono S5);have bg:Hr w.1.size w.1.size [] w1:=yb a2.Z aa;have bI:=X.Z 0 (ar _);have T:(⟨#[107,101,101,112,32]⟩++key++⟨#[32]⟩++x:ba).1.1=dA key.1.1 ⟨kp.dR,kp.cH.take 0⟩:=by
   simp[dA,bx.Z]
  have bK:(⟨#[107,101,101,112,32]⟩++key++⟨#[32]⟩++x:ba).size<=100206:=by
   rw[size_data,T];omega
  have bm:0<(⟨#[107,101,101,112,32]⟩++key++⟨#[32]⟩++x:ba).size:=by
   rw[size_data,T];simp[dA]
  have J:=bZ (oK w.1.size w.1.size [] _ w1 bg bm (by rw[Ra];omega) g.size ab.size);have a3:=bZ T;clear a7 a2 bI T bg;go_wp2_with fail;refine b_ J.Z λw2 ⟨ap,a8,_⟩=>?_;have ad:Xc w w2:=ab.trans a8;rw[Rz,a3.Z]at ap;have d2:w2.cell? ⟨q,2,none⟩=some (.slice o kp.cH.length cp):=(ad.cell (p:=⟨q,2,none⟩) hq).trans c2;clear J a3 bK bm c0 c1 c2 aa ab a8;go_wp2
  go_loopw [23] (λi wr=>∃k:Nat,k<=kp.cH.length/\i=.int .i64 k/\Hr w.1.size w.1.size (dA key.1.1 ⟨kp.dR,kp.cH.take k⟩) wr/\Xc w wr) (λi _=>kp.cH.length-(intOf i).toNat)
  case atStart=>exact⟨0,ar _,rfl,ap,ad⟩
  case round =>
   obtain⟨k,bH,rfl,R,z⟩:=hrel;clear ap ad d2;by_cases bJ:k<kp.cH.length
   ·obtain⟨nd,ax⟩:∃nd,kp.cH[k]?=some nd:=⟨_,aq bJ⟩;obtain⟨I,x0,u,rfl,av,bl,e0,e1,e2,ao⟩:=aC.Z k nd ax;have f0:wr.cell? ⟨I,k*3,none⟩=some (str nd.1):=(z.cell (p:=⟨I,k*3,none⟩) av).trans e0;have f1:wr.cell? ⟨I,k*3+1,none⟩=some x0:=(z.cell (p:=⟨I,k*3+1,none⟩) av).trans e1;have f2:wr.cell? ⟨I,k*3+2,none⟩=some u:=(z.cell (p:=⟨I,k*3+2,none⟩) av).trans e2;obtain⟨r,yn,bE,bL⟩:=ao.form;cases bE;unfold str at f0;have bf:=ao.keeps (cT.below z);have bw:=bZ bf;have bt:=bZ ax;clear e0 e1 e2 ao bf ax;obtain⟨j,S⟩:∃j:ba,(⟨nd.1.toArray⟩:ba)=j:=⟨_,rfl⟩;have bO:j.size<=200:=by rw[<-S,size_mk];exact bl
    have br:=bZ (show j.1.1=nd.1 by rw[<-S]);rw[S]at f0;clear S;have Q:ij (wr.alloc (.cells #[.string j,.int .i64 r,u] 133)).drew nd.2 (.agg #[.int .i64 r,u]):=bw.Z.keeps (cT.below (((VM _ wr).alloc (af _) _).drew));have a9:Xc wr (wr.alloc (.cells #[.string j,.int .i64 r,u] 133)).drew:=((VM _ wr).alloc (af _) _).drew;have bj:G (wr.alloc (.cells #[.string j,.int .i64 r,u] 133)).drew:=(g.below z g.size).below a9 (ah g.size z.size);have a6:=bZ (mS _ bj Q);have bS:=lL Q;have bM:=size_mk (gO nd.2);obtain⟨xs,V⟩:∃xs:ba,(⟨(gO nd.2).toArray⟩:ba)=xs:=⟨_,rfl⟩;have bq:xs.1.1=gO nd.2:=by rw[<-V]
    rw[V]at bM;have bz:=bZ (show str (gO nd.2)=.string xs by rw[<-V];rfl);have a4:=bZ (λ(w3:Xa) (D:Below (wr.alloc (.cells #[.string j,.int .i64 r,u] 133)).drew.1.size (wr.alloc (.cells #[.string j,.int .i64 r,u] 133)).drew w3)=>show w3.cell? ⟨wr.1.size,0,none⟩=some (.string j)/\w3.cell? ⟨wr.1.size,1,none⟩=some (.int .i64 r)/\w3.cell? ⟨wr.1.size,2,none⟩=some u from by
     obtain⟨hc,_⟩:=oq D;rw[hc _ _ S5,hc _ _ S5,hc _ _ S5];exact⟨by simp[go_sem],by simp[go_sem],by simp[go_sem]⟩)
    have U:(⟨#[32]⟩++j++⟨#[61]⟩++xs:ba).1.1=g_ nd:=by
     simp[g_,bq,br.Z]
    have J:=bZ (λ(w3:Xa) (D:Below (wr.alloc (.cells #[.string j,.int .i64 r,u] 133)).drew.1.size (wr.alloc (.cells #[.string j,.int .i64 r,u] 133)).drew w3)=>show Calls prog 95 #[.pointer (some ⟨w.1.size,0,none⟩),.string (⟨#[32]⟩++j++⟨#[61]⟩++xs)] w3 (λe p=>e=.returned (.tuple #[.int .i64 (⟨#[32]⟩++j++⟨#[61]⟩++xs:ba).size,.nilIface])/\Hr w.1.size w.1.size (dA key.1.1 ⟨kp.dR,kp.cH.take k⟩++(⟨#[32]⟩++j++⟨#[61]⟩++xs:ba).1.1) p/\Below w.1.size w3 p/\∀(k:Nat) (M:Array Xb) (t:TypeId) (N:Nat×Nat),w3.1[k]?=some (.cells M t N)->t≠5->k≠w.1.size->p.1[k]?=some (.cells M t N))/\(∀C,Hr w.1.size w.1.size (dA key.1.1 ⟨kp.dR,kp.cH.take k⟩++(⟨#[32]⟩++j++⟨#[61]⟩++xs:ba).1.1) C->Below w.1.size w3 C->(∀(k:Nat) (M:Array Xb) (t:TypeId) (N:Nat×Nat),w3.1[k]?=some (.cells M t N)->t≠5->k≠w.1.size->C.1[k]?=some (.cells M t N))->(C.cell? ⟨wr.1.size,0,none⟩=some (.string j)/\C.cell? ⟨wr.1.size,1,none⟩=some (.int .i64 r)/\C.cell? ⟨wr.1.size,2,none⟩=some u)/\Hr w.1.size w.1.size (dA key.1.1 ⟨kp.dR,kp.cH.take (k+1)⟩) C/\Xc w C)from by
     have ai:Xc wr w3:=a9.trans (D.mono S5);have bP:=X.Z k bH;have bQ:(⟨#[32]⟩++j++⟨#[61]⟩++xs:ba).size<=100202:=by
      rw[size_data,U];exact rl bl Q
     refine⟨oK _ _ _ _ w3 (yb R ai) (by rw[size_data,U];simp[g_]) R5 g.size (ah z.size ai.size),λC h5 ak am=>⟨?_,?_,(z.trans (ai.mono z.size)).trans ak⟩⟩
     ·have bD:w3.1[wr.1.size]?=some (.cells #[.string j,.int .i64 r,u] 133 (0,0)):=(D.block wr.1.size S5).trans (heap_alloc_new wr _);have Y:=am _ _ _ _ bD S4 (by have:=OA R;omega);exact⟨by simp[World.cell?,Y],by simp[World.cell?,Y],by simp[World.cell?,Y]⟩
     ·rw[U,<-tj key.1.1 kp.dR kp.cH k nd bt.Z]at h5;exact h5)
    clear V bq Q bj U;have F:(λp:Xa=>p.cell? ⟨wr.1.size,0,none⟩=some (.string j)/\p.cell? ⟨wr.1.size,1,none⟩=some (.int .i64 r)/\p.cell? ⟨wr.1.size,2,none⟩=some u) (wr.alloc (.cells #[.string j,.int .i64 r,u] 133)).drew:=⟨by simp[go_sem],by simp[go_sem],by simp[go_sem]⟩;rcases bL with rfl|⟨tn,an,rfl⟩
    all_goals
     go_wp2_with fail;refine wp_region_held_drew (S:=λp=>p.cell? ⟨wr.1.size,0,none⟩=some (.string j)/\p.cell? ⟨wr.1.size,1,none⟩=some (.int .i64 r)/\p.cell? ⟨wr.1.size,2,none⟩=some _) S8 F (λhHeld=>?_);refine dP 0 rfl F ?_;simp only[Act.put,au,Xd,Xe];refine dP 1 rfl F ?_;simp only[Act.put,au,Xd,Xe];refine wpAnyH_take (i:=2) (v:=?_) rfl S8 S8 S8 (λ_ _ _ h=>h) (Or.inl ⟨by rfl,?_⟩) F ?_
     rotate_left
     ·intro p s0;go_simp;rw[ae R5]
      try with_reducible rfl
     simp only[Act.put,au,Xd,Xe];refine wpAnyH_take (i:=3) (v:=?_) rfl S8 S8 S8 (λ_ _ _ h=>h) (Or.inl ⟨by rfl,?_⟩) F ?_
     rotate_left
     ·intro p s0;go_simp;rw[ae R5]
      try with_reducible rfl
     simp only[Act.put,au,Xd,Xe];refine dP 4 rfl F ?_;simp only[Act.put,au,Xd,Xe];refine dP 5 rfl F ?_;simp only[Act.put,au,Xd,Xe];refine wpAnyH_ready (rs:=[6]) S8 S5 ?_;refine AllReadyH.cons rfl (λK E=>?_) AllReadyH.nil;go_simp;refine b_ a6.Z λw3 D=>?_;rw[bz.Z];have bc:=a4.Z w3 D;refine E.out _ _ bc (λ_=>?_);clear E;obtain⟨bo,bd⟩:=J.Z w3 D;have bv:=bZ bo;have bu:=bZ bd;clear bo bd J a4 a6 D;refine wpAnyH_ready (rs:=[7]) S8 S5 ?_;refine AllReadyH.cons rfl (λK E=>?_) AllReadyH.nil;go_simp;rw[ae R5,Oper.upon_value];go_simp;refine E.out _ _ bc (λ_=>?_);clear E;refine wpAnyH_ready (rs:=[8]) S8 S5 ?_;refine AllReadyH.cons rfl (λK E=>?_) AllReadyH.nil;go_simp;refine b_ bv.Z λC ⟨bC,ak,am⟩=>?_;obtain⟨bB,bG⟩:=bu.Z C bC ak am;refine E.out _ _ bB (λ_=>?_);clear E;refine wpAnyH_done S8 ?_ _;go_wp2;refine⟨⟨k+1,by omega,by go_num,bG⟩,?_⟩;simp[intOf];omega
   have a5:=bZ (Builder_String_any w.1.size w.1.size _ wr R z.size);have bk:kp.cH.take k=kp.cH:=Ri R5;have a0:=bZ (λ(p:Xa) (hB:Below w.1.size wr p)=>show Ending.returned (.string ⟨(dA key.1.1 ⟨kp.dR,kp.cH.take k⟩).toArray⟩)=.returned (str (dA key.1.1 kp))/\Xc w p from⟨by rw[bk];rfl,z.trans hB⟩);clear R z X aC bk;go_wp2_with fail;refine b_ a5.Z λw6 bA=>?_;have bF:=a0.Z w6 bA;clear a0 a5;go_wp2;go_ret;exact bF
end
section
open bY
open Tryz
variable{k key:a_}{L:Nat->Prop}{m p:Nat}{ct:List (a_×cC)}{th:cC}
def mV{α β:Type}(f:α->β):∀{l:List α},(l.map f).Nodup->∀{a b:α},a∈l->b∈l->f a=f b->a=b
 |[],_,_,_,h,_,_=>by simp at h
 |x::l,e,a,b,n,m,j=>by
  simp only[Rr,R1]at e;rcases aK.1 n with h1|h1
  ·rcases aK.1 m with h2|h2
   ·exact h1.trans h2.symm
   exact(e.1 (by rw[<-h1,j];exact aE.2 ⟨b,h2,rfl⟩)).elim
  rcases aK.1 m with h2|h2
  ·exact(e.1 (by rw[<-h2,<-j];exact aE.2 ⟨a,h1,rfl⟩)).elim
  exact mV f e.2 h1 h2 j
def pw(b:List (a_×(cC×Nat)))(k:a_):bY.cv (b.map λx=>(x.1,x.2.1)) k=(bY.cv b k).map (λx=>x.1) :=jI (λx:a_×(cC×Nat)=>(x.1,x.2.1)) (λ_ x=>x.1) (λ_=>rfl) b k
def vH(b:List (a_×(cC×Nat)))(k:a_):bY.cv (b.map λx=>(x.1,ptr x.2.2)) k=(bY.cv b k).map (λx=>ptr x.2) :=jI (λx:a_×(cC×Nat)=>(x.1,ptr x.2.2)) (λ_ x=>ptr x.2) (λ_=>rfl) b k
def vJ{α:Type}{l:List (a_×α)}{a:α}(e:(l.map (·.1)).Nodup)(h:(k,a)∈l):bY.cv l k=some a:=by
 obtain⟨j,b⟩:=Sa h;exact lf e b
def jc.at{w:Xa}{L:Nat->Prop}{m:Nat}{ct:List (a_×cC)}(h:jc w L m ct){key:a_}{th:cC}(u:bY.cv ct key=some th):∃p,ft w L th p/\(∀c,key.length<=maxLen->(Instr.lookup 104 (.map (some m)) (str key) c).run prog w=.ok (if c=true then .tuple #[ptr p,.bool true]else ptr p) w):=by
 obtain⟨j,h1,h2,z,r,B,C⟩:=h;have b:(bY.cv j key).map (λx=>x.1)=some th:=by
  rw[<-u,h1,pw]
 cases hx:bY.cv j key with
 |none=>rw[hx]at b;cases b
 |some x =>
  rw[hx]at b;have e:x.1=th:=TB;subst e;have y:=lP hx;refine⟨x.2,r _ y,λc l=>?_⟩;have n:bY.cv (j.map λx=>(x.1,ptr x.2.2)) key=some (ptr x.2):=by
   rw[vH,hx];rfl
  cases c
  ·have:=h2.Ey underlying104 l (z:=.pointer none) S8;rw[this,n];rfl
  have:=h2.cv underlying104 l (z:=.pointer none) S8;rw[this,n];rfl
def jc.vK{w:Xa}(h:jc w L m ct)(b:bY.cv ct key=none)(j:key.length<=maxLen):(Instr.lookup 104 (.map (some m)) (str key) true).run prog w=.ok (.tuple #[.pointer none,.bool false]) w:=by
 obtain⟨e,h1,h2,n,r,u,y⟩:=h;have hx:bY.cv e key=Option.none:=by
  rw[h1,pw]at b;cases hx:bY.cv e key with
  |none=>rfl
  |some x=>rw[hx]at b;cases b
 have l:bY.cv (e.map λx=>(x.1,ptr x.2.2)) key=Option.none:=by
  rw[vH,hx];rfl
 have:=h2.cv underlying104 j (z:=.pointer Option.none) S8;rw[this,l]
def jc.set{w:Xa}(h:jc w L m ct)(S:bY.cv ct key=some th)(o v)(j:(o=none/\v=.pointer none)\/∃u r,o=some u/\v=ptr r/\iM w L u r/\th.di≠none)(T:(Instr.lookup 104 (.map (some m)) (str key) false).run prog w=.ok (ptr p) w)(Q:key.length<=maxLen):jc (w.setCell ⟨p,3,none⟩ v) L m (bY.da ct key o):=by
 obtain⟨n,ao,am⟩:=h.at S;have ak:n=p:=by
  have:=am false Q;rw[T]at this;simp[ptr]at this;exact this.symm
 subst ak;obtain⟨l,h1,h2,N,X,O,Y⟩:=h;obtain⟨v0,r0,k0,P,aa,V,Z,h8⟩:=ao;have I:=zo P 3 v;have B:=h2.nodup;rw[Rb]at B;have B:(l.map (·.1)).Nodup:=B;have hx:∃x∈l,x.1=key/\x.2.1=th/\x.2.2=n:=by
  have D:(bY.cv l key).map (λx=>x.1)=some th:=by
   rw[<-S,h1,pw]
  cases hx:bY.cv l key with
  |none=>rw[hx]at D;cases D
  |some x =>
   rw[hx]at D;have e:x.1=th:=by simpa using D
   refine⟨_,lP hx,rfl,e,?_⟩;have ad:bY.cv (l.map λx=>(x.1,ptr x.2.2)) key=some (ptr x.2):=by
    rw[vH,hx];rfl
   have:=h2.Ey underlying104 Q (z:=.pointer none) S8;rw[T,ad]at this;simp[ptr]at this;exact this.symm
 obtain⟨x0,U,M,F,G⟩:=hx;have E:eO w (w.setCell ⟨n,3,none⟩ v):=I.stay (.inr (.inr (.inr (.inr (.inl rfl)))));have R:K2 L w (w.setCell ⟨n,3,none⟩ v):=λk _ cs t fz hc C=>I.cells hc (λe=>by rcases C with C|C<;>(rw[C]at e;revert e;decide));refine⟨l.map (λx=>if x.1==key then(x.1,({x.2.1 with kept:=o},x.2.2))else x),?_,?_,?_,?_,?_,Y⟩
 ·rw[h1,bY.da,Rb,Rb];refine RH (λx _=>?_);simp only[R2];split<;>rfl
 ·have e:(l.map (λx=>if x.1==key then(x.1,({x.2.1 with kept:=o},x.2.2))else x)).map (λx=>(x.1,ptr x.2.2))=l.map (λx=>(x.1,ptr x.2.2)):=by
   rw[Rb];refine RH (λx _=>?_);simp only[R2];split<;>rfl
  rw[e];exact h2.same (I.map h2)
 ·have e:(l.map (λx=>if x.1==key then(x.1,({x.2.1 with kept:=o},x.2.2))else x)).map (·.2.2)=l.map (·.2.2):=by
   rw[Rb];refine RH (λx _=>?_);simp only[R2];split<;>rfl
  rw[e];exact N
 ·intro x' K;obtain⟨x,hx,rfl⟩:=aE.1 K;by_cases z:x.1=key
  ·have ap:x=x0:=mV (λy:a_×(cC×Nat)=>y.1) B hx U (z.trans M.symm);subst ap;rw[ag (by simp[z])];refine⟨v0,r0,v,?_,?_,?_,?_,?_⟩
   ·show(w.setCell _ _).1[x.2.2]?=_;rw[G,gG P 3 v,F];rfl
   ·show L x.2.2;rw[G];exact aa
   ·show x.2.1.came.length<=200;rw[F];exact V
   ·show(x.2.1.di=none/\_)\/_;rw[F];rcases Z with⟨a,b,c,d⟩|⟨t,a,b,c,d,e,f⟩
    ·refine .inl ⟨a,b,c.st E,?_⟩;rcases j with⟨j,_⟩|⟨u,r,_,_,_,j⟩
     ·exact j
     exact(j a).elim
    exact .inr ⟨t,a,b,c,d,e,f.st E⟩
   rcases j with⟨j,J⟩|⟨u,r,j,J,ab,_⟩
   ·exact .inl ⟨j,J⟩
   exact .inr ⟨u,r,j,J,ab.st R E⟩
  rw[ae (by simp[z])];have ai:x.2.2≠n:=λe=>z (by
   have:=mV (λy:a_×(cC×Nat)=>y.2.2) N hx U (e.trans G.symm);rw[this];exact M)
  exact(X x hx).st (VX w ⟨n,3,none⟩ v x.2.2 ai) R E
 intro x' K;obtain⟨x,hx,rfl⟩:=aE.1 K;split
 ·exact O x hx
 exact O x hx
def LP.kept{w:Xa}{r:Nat}{s:LS}{n:Nat}{u z vn y:Xb}(h:LP w r s L m n u z vn y)(C:bY.cv s.ct key=some th)(o v)(N:(o=none/\v=.pointer none)\/∃I G,o=some I/\v=ptr G/\iM w L I G/\th.di≠none)(E:(Instr.lookup 104 (.map (some m)) (str key) false).run prog w=.ok (ptr p) w)(j:key.length<=maxLen):cO w r L {s with ct:=bY.da s.ct key o} (w.setCell ⟨p,3,none⟩ v):=by
 have O:∃l,w.1[p]?=some (.cells l 124 (0,0))/\L p:=by
  obtain⟨U,Q,P⟩:=h.ct.at C;have:=P false j;rw[E]at this;simp[ptr]at this;subst this;obtain⟨h1,l,h2⟩:=Q.block;exact⟨l,h2,h1⟩
 obtain⟨l,B,J⟩:=O;have e:=zo B 3 v;have F:LT 124:=.inr (.inr (.inr (.inr (.inl rfl))));have D:LP (w.setCell ⟨p,3,none⟩ v) r {s with ct:=bY.da s.ct key o} L m n u z vn y:={
  eb:=e.cells h.eb S4
  here:=h.here
  ne:=h.ne
  ct:=h.ct.set C o v N E j
  done:=h.done.tn e F
  cm:=jf h.cm e S4
  cY:=jf h.cY e S4
  du:=jf h.du e S4
  jr:=jf h.jr e S4
  dQ:=h.dQ
  apart:=h.apart
  oS:=h.oS
  cz:=vk h.cz e F (λb m=>by cases m;exact⟨_,_,gG B 3 v⟩)}
 refine⟨L,⟨m,n,u,z,vn,y,D⟩,λk j=>.inl j,λk j=>j,h.I_ D (eu.grown e.g J) (λk j l t S K M=>e.cells K (by rcases M with rfl|rfl<;>decide)) ?_⟩;obtain⟨T,V,R,_⟩:=h.ct;exact e.map R
end
section
open bY
open Tryz
variable{b:Nat}{s j:LS}{L:Nat->Prop}
theorem cO.size{w w':Xa}(h:cO w b L s w'):w.1.size<=w'.1.size:=by
 obtain⟨_,_,_,_,h⟩:=h;exact h.size
def cO.g{w w':Xa}{b:Nat}{s j:LS}{L:Nat->Prop}(h:cO w b L s w')(e:fI w b j L)(g:G w):G w':=by
 obtain⟨_,_,_,_,h⟩:=h;exact EB e h.toeu g
def cO.uc{w w':Xa}(h:cO w b L s w')(e:fI w b j L)(g:G w)(hd:jY w):jY w':=by
 obtain⟨_,_,_,_,h⟩:=h;exact zA e h.toeu g hd
def cO.keeps{w w':Xa}(h:cO w b L s w')(e:fI w b j L):cT w w':=by
 obtain⟨_,_,_,_,h⟩:=h;exact xW e h.toeu
def cO.then{w w1:Xa}{r:LS}(h:cO w b L r w1):∃L1,fI w1 b r L1/\(∀k,L k->L1 k)/\∀m n,cO w1 b L1 m n->cO w b L m n:=by
 obtain⟨L1,h1,h2,l,p⟩:=h;refine⟨L1,h1,l,λm n hx=>?_⟩;obtain⟨u,y,z,B,C⟩:=hx;refine⟨u,y,λk e=>?_,λk e=>B k (l k e),p.trans C h2 l⟩;rcases z k e with e|e
 ·exact h2 k e
 have:=p.size;exact .inr R5
def Bd(w b s L key th)(h:fI w b s L)(g:G w)(hd:jY w)(F:bY.cv s.ct key.1.1=some th)(X:key.size<=200)(P:(dc (s.lX key.1.1).jr).length<=140737488355328):Calls prog 114 #[ptr b,.string key] w λe l=>e=.returned (.tuple #[])/\cO w b L (s.lX key.1.1) l:=by
 obtain⟨D,V,vb,vr,vn,vj,h⟩:=h;have E:key.1.1.length<=maxLen:=Tr;obtain⟨p,Q,J⟩:=h.ct.at F;have y:=J false E;have I:(Instr.lookup 104 (.map (some D)) (str key.1.1) false).run prog w=.ok (ptr p) w:=y;have n:=h.kept F none (.pointer none) (.inl ⟨rfl,rfl⟩) I E;have T:w.cell? ⟨b,0,none⟩=some (.map (some D)):=cr h.eb rfl;obtain⟨v0,Z,R,u,_⟩:=Q;have U:w.cell? ⟨p,3,none⟩=some R:=cr u rfl;have z3:w.frozen? ⟨p,3,none⟩=false:=fq u;have r:fI w b s L:=⟨_,_,_,_,_,_,h⟩;have M:∀m,fI (w.setCell ⟨p,3,none⟩ (.pointer none)) b {s with ct:=bY.da s.ct key.1.1 none} m->Calls prog 59 #[ptr b,.string (⟨#[108,111,115,101,32]⟩++key)] (w.setCell ⟨p,3,none⟩ (.pointer none)) (λe l=>e=.returned (.tuple #[])/\cO (w.setCell ⟨p,3,none⟩ (.pointer none)) b m (s.lX key.1.1) l):=by
  intro m N;have z:(⟨#[108,111,115,101,32]⟩++key:ba).1.1=[108,111,115,101,32]++key.1.1:=S5;have Y:(⟨#[108,111,115,101,32]⟩++key:ba).size=5+key.size:=by rw[size_data,z,aj,<-size_data];rfl
  have:=pT _ b {s with ct:=bY.da s.ct key.1.1 none} m (⟨#[108,111,115,101,32]⟩++key) N (n.g r g) (n.uc r g hd) R5 (by rw[z];exact P);rw[z]at this;exact this
 obtain⟨L1,h1,_,K⟩:=n.then;have C:=bZ (M L1 h1);have B:=bZ (λl=>K (s.lX key.1.1) l);rw[dG]at y;simp only[Ss,Ry]at y;clear M J I h1 K h r u n;unfold ptr at *;go_enter func114,ntmps114;go_wp2_with fail;refine b_ C.Z λS hx=>?_;have O:=B.Z S hx;clear C B hx;go_wp2
 go_end0
 exact⟨rfl,O⟩
def Jv(w b s L key th kp l)(h:fI w b s L)(g:G w)(hd:jY w)(R:bY.cv s.ct key.1.1=some th)(ai:th.di≠none)(D:iM w L kp l)(hk:key.size<=200)(O:(dc (s.keep key.1.1 kp).jr).length<=140737488355328):Calls prog 143 #[ptr b,.string key,ptr l] w λe B=>e=.returned (.tuple #[])/\cO w b L (s.keep key.1.1 kp) B:=by
 obtain⟨M,db,vb,vr,vn,vj,h⟩:=h;have P:key.1.1.length<=maxLen:=Tr;obtain⟨p,ab,T⟩:=h.ct.at R;have E:=T false P;have S:(Instr.lookup 104 (.map (some M)) (str key.1.1) false).run prog w=.ok (ptr p) w:=E;have m:=h.kept R (some kp) (ptr l) (.inr ⟨kp,l,rfl,rfl,D,ai⟩) S P;have c0:w.cell? ⟨b,0,none⟩=some (.map (some M)):=cr h.eb rfl;obtain⟨v0,r0,k0,y,_⟩:=ab;have c3:w.cell? ⟨p,3,none⟩=some k0:=cr y rfl;have z3:w.frozen? ⟨p,3,none⟩=false:=fq y;have r:fI w b s L:=⟨_,_,_,_,_,_,h⟩;have F:=zo y 3 (ptr l);have Q:iM (w.setCell ⟨p,3,none⟩ (ptr l)) L kp l:=D.st (λk _ cs t fz hc z=>F.cells hc (λe=>by rcases z with z|z<;>(rw[z]at e;revert e;decide))) (F.stay (.inr (.inr (.inr (.inr (.inl rfl))))));have V:=zC _ L kp l key Q (m.g r g) hk;have aa:(dA key.1.1 kp).length<=140737488355328:=by
  have:(dc (s.keep key.1.1 kp).jr)=dc s.jr++bY.line (dA key.1.1 kp):=by
   show dc (s.jr++[dA key.1.1 kp])=_;rw[eB]
  rw[this,aj,jK]at O;omega
 obtain⟨L1,h1,_,U⟩:=m.then;have X:∀n,Below (w.setCell ⟨p,3,none⟩ (ptr l)).1.size (w.setCell ⟨p,3,none⟩ (ptr l)) n->Calls prog 59 #[ptr b,str (dA key.1.1 kp)] n (λe B=>e=.returned (.tuple #[])/\cO w b L (s.keep key.1.1 kp) B):=by
  intro n u;have C:=cO.below h1 u;have g2:=C.g h1 (m.g r g);have d2:=C.uc h1 (m.g r g) (m.uc r g hd);obtain⟨Z,h2,_,ad⟩:=C.then;have:=pT n b {s with ct:=bY.da s.ct key.1.1 (some kp)} Z ⟨(dA key.1.1 kp).toArray⟩ h2 g2 d2 (by rw[size_mk];exact aa) (by rw[zB];exact O);rw[zB]at this;refine b_ this λB hx=>?_;exact⟨rfl,U _ _ (ad _ _ hx)⟩
 have J:=bZ X;have I:=bZ V;rw[dG]at E;simp only[Ss,Ry]at E;clear X V T S h1 U h r y m D Q F;unfold ptr at *;go_enter func143,ntmps143;go_wp2_with fail;refine b_ I.Z λn u=>?_;have K:=bZ (J.Z n u);clear I J u;go_wp2_with fail;refine b_ K.Z λw3 N=>?_;have Y:=bZ N;clear K N;go_wp2
 go_end0
 exact⟨rfl,Y.Z⟩
def EN(w:Xa)(L:Nat->Prop)(o:Option gl)(v:Xb):Prop:=(o=none/\v=.pointer none)\/∃l e,o=some l/\v=ptr e/\iM w L l e
def qC(w b s L key)(h:fI w b s L)(N:key.size<=200):Calls prog 56 #[ptr b,.string key] w λe I=>(∃v,e=.returned v/\EN w L (cK s.ct key.1.1) v)/\I=w:=by
 obtain⟨E,M,T,V,vn,U,h⟩:=h;have z:key.1.1.length<=maxLen:=Tr;have J:w.cell? ⟨b,0,none⟩=some (.map (some E)):=cr h.eb rfl;cases l:bY.cv s.ct key.1.1 with
 |none =>
  have n:=h.ct.vK l z;rw[dG]at n;have m:cK s.ct key.1.1=none:=by unfold cK;rw[l];rfl
  rw[m];clear h l m;unfold ptr;go_enter func56,ntmps56;go_wp2;go_ret;exact⟨⟨_,rfl,.inl ⟨rfl,rfl⟩⟩,rfl⟩
 |some C =>
  obtain⟨p,G,B⟩:=h.ct.at l;have n:=B true z;rw[dG]at n;simp only[aO]at n;have m:cK s.ct key.1.1=C.kept:=by unfold cK;rw[l];rfl
  rw[m];obtain⟨S,R,u,y,_,_,_,r⟩:=G;have K:w.cell? ⟨p,3,none⟩=some u:=cr y rfl;have F:∃q,u=.pointer q:=by
   rcases r with⟨_,rfl⟩|⟨P,O,_,rfl,_⟩
   ·exact⟨_,rfl⟩
   exact⟨_,rfl⟩
  have D:=bZ (show EN w L C.kept u from r);obtain⟨Q,rfl⟩:=F;clear h l m y r B;unfold ptr at *;go_enter func56,ntmps56;go_wp2;go_ret;exact⟨⟨_,rfl,D.Z⟩,rfl⟩
end
section
open bY
open Tryz
variable{b u j m:Nat}{k kY:a_}{cs:Array Xb}{fz:Nat×Nat}{l:List (a_×Xb)}{v:Xb}{xs:List Xb}{L:Nat->Prop}{s s':LS}{ct:List (a_×cC)}
structure Tm(w w':Xa)(b:Nat):Prop where
 g:w.grownBy w' (some b)
 was:∃es c,w.1[b]?=some (.map es c)
def Tm.cells{w w':Xa}(h:Tm w w' b){k:Nat}{t:TypeId}(n:w.1[k]?=some (.cells cs t fz)):w'.1[k]?=some (.cells cs t fz):=by
 obtain⟨p,c,j⟩:=h.was;refine(h.g.block k (cj n) (λe=>?_)).trans n;cases e;rw[n]at j;cases j
def Tm.stay{w w':Xa}(h:Tm w w' b):eO w w':=cT.stay (λk cs t fz e _=>h.cells e)
def Tm.map{w w':Xa}{k:Nat}(h:Tm w w' b)(n:fQ w k l)(p:k≠b):w'.1[k]?=w.1[k]? :=h.g.block k n.lt (λe=>p TD)
def zD{w w':Xa}{n size:Nat}{e:TypeId}(h:w.ownsRow 8 e size v n xs)(r:Tm w w' b):w'.ownsRow 8 e size v n xs :=cJ h (λg _ cs fz p=>r.cells p)
def Jw{w w':Xa}(h:∀k,L k->8<=k/\((∃n c,w.1[k]?=some (.map n c))\/∃cs t fz,w.1[k]?=some (.cells cs t fz)/\LT t))(p:Tm w w' b)(j:∃n c,w'.1[b]?=some (.map n c)):∀k,L k->8<=k/\((∃n c,w'.1[k]?=some (.map n c))\/∃cs t fz,w'.1[k]?=some (.cells cs t fz)/\LT t):=by
 intro k z;obtain⟨y,h1⟩:=h k z;refine⟨y,?_⟩;by_cases e:k=b
 ·subst e;exact .inl j
 rcases h1 with⟨n,c,h1⟩|⟨cs,t,fz,h1,h2⟩
 ·exact .inl ⟨n,c,(p.g.block k (Rl.1 h1).1 (λr=>e (by cases r;rfl))).trans h1⟩
 exact .inr ⟨cs,t,fz,p.cells h1,h2⟩
def qe{α β:Type}(f:α->β):∀{l:List α},l.Nodup->(∀x∈l,∀y∈l,f x=f y->x=y)->(l.map f).Nodup
 |[],_,_=>by simp
 |a::l,n,p=>by
  simp only[Rr,R1]at n ⊢;refine⟨λr=>?_,qe f n.2 (λx hx y z=>p x (aS _ hx) y (aS _ z))⟩;obtain⟨b,j,e⟩:=aE.1 r;exact n.1 (p b (aS _ j) a Rg e▸j)
def ud{α β:Type}(F:α->β)(l:List (a_×α))(k:a_)(a):(bY.put l k a).map (λx=>(x.1,F x.2))=bY.put (l.map λx=>(x.1,F x.2)) k (F a):=by
 have e:=jI (λx:a_×α=>(x.1,F x.2)) (λ_ x=>F x) (λ_=>rfl) l k;unfold bY.put;rw[e];cases hx:bY.cv l k with
 |none=>simp
 |some b =>
  simp only[R0,SI,aO,Rb];refine RH (λx _=>?_);simp only[R2];split<;>rfl
def EO{α β:Type}(F:α->β)(l:List (a_×α))(k:a_):(bY.del l k).map (λx=>(x.1,F x.2))=bY.del (l.map λx=>(x.1,F x.2)) k:=by
 unfold bY.del;rw[List.filter_map];rfl
def Gm{α β:Type}(f:a_×α->β){l:List (a_×α)}{a:α}(B:(l.map (·.1)).Nodup)(r:(l.map f).Nodup)(p:∀x∈l,f x≠f (k,a)):((bY.put l k a).map f).Nodup:=by
 have C:=qY _ B;unfold bY.put;split
 ·rw[Rb];refine qe _ C (λx hx y n e=>?_);simp only[R2]at e;by_cases h1:x.1=k
  ·by_cases h2:y.1=k
   ·exact mV (λz:a_×α=>z.1) B hx n (h1.trans h2.symm)
   rw[ag T4,ae (by simp[h2])]at e;exact(p y n e.symm).elim
  by_cases h2:y.1=k
  ·rw[ae T4,ag (by simp[h2])]at e;exact(p x hx e).elim
  rw[ae T4,ae (by simp[h2])]at e;exact mV f r hx n e
 rw[aZ,Sh];refine⟨r,by simp,?_⟩;intro x hx y n e;obtain⟨z,D,rfl⟩:=aE.1 hx;simp at n;exact p z D (e.trans n)
def LP.tm{w w1:Xa}{u:Nat}{s s':LS}{L:Nat->Prop}{j m:Nat}{p y vn r:Xb}(h:LP w u s L j m p y vn r){b:Nat}(e:Tm w w1 b)(E:∃D c,w1.1[b]?=some (.map D c))(I:L b)(G:jc w1 L j s'.ct)(F:je w1 L m s'.done)
  (z:s'.cm=s.cm) (n:s'.cY=s.cY) (B:s'.du=s.du) (C:s'.jr=s.jr):LP w1 u s' L j m p y vn r :={
  eb:=e.cells h.eb
  here:=h.here
  ne:=h.ne
  ct:=G
  done:=F
  cm:=by rw[z];exact zD h.cm e
  cY:=by rw[n];exact zD h.cY e
  du:=by rw[B];exact zD h.du e
  jr:=by rw[C];exact zD h.jr e
  dQ:=h.dQ
  apart:=h.apart
  oS:=by rw[n];exact h.oS
  cz:=Jw h.cz e E}
def LP.QR{w w1:Xa}{n r vn p:Xb}(h:LP w u s L j m n r vn p)(B:Tm w w1 b)(z:L b)(y:LP w1 u s' L j m n r vn p):eF w u L s' w1 :=⟨L,⟨j,m,n,r,vn,p,y⟩,λk e=>.inl e,λk e=>e,eu.grown B.g z⟩
def LP.QS{w w1:Xa}{p y vn r:Xb}(h:LP w u s L j m p y vn r)(n:Tm w w1 b)(B:L b)(D:j≠b)(z:LP w1 u s' L j m p y vn r):cO w u L s' w1:=by
 refine⟨L,⟨j,m,p,y,vn,r,z⟩,λk e=>.inl e,λk e=>e,h.I_ z (eu.grown n.g B) (λk e cs t fz C F=>n.cells C) ?_⟩;obtain⟨G,I,E,_⟩:=h.ct;exact n.map E D
def jc.tm{w w':Xa}(h:jc w L j ct)(e:Tm w w' b)(r:j≠b):jc w' L j ct:=by
 have p:w'.1[j]?=w.1[j]? := by obtain⟨_,_,p,_⟩:=h;exact e.map p r
 exact h.st p (λk _ cs fz n=>e.cells n) (λk _ cs t fz n y=>e.cells n) e.stay
def je.tm{w w':Xa}{done:List (a_×Wo)}(h:je w L m done)(n:Tm w w' b)(p:m≠b):je w' L m done:=by
 have e:w'.1[m]?=w.1[m]? := by obtain⟨_,_,e,_⟩:=h;exact n.map e p
 exact h.st e n.stay
def LP.OB{w:Xa}{R T vn S:Xb}(h:LP w u s L j m R T vn S){th:cC}{p:Nat}(Q:ft w L th p)(O:∀x q,ft w L x q->(∃k,bY.cv s.ct k=some x/\(Instr.lookup 104 (.map (some j)) (str k) false).run prog w=.ok (ptr q) w)->q≠p)(N:kY.length<=8)(hlen:s.ct.length<=100):∃y,(Instr.mapUpdate 104 (.map (some j)) (str kY) (ptr p)).run prog w=.ok () y/\eF w u L {s with ct:=bY.put s.ct kY th} y/\cT w y/\(∀(k:Nat) (cs) (t) (fz),w.1[k]?=some (.cells cs t fz)->y.1[k]?=some (.cells cs t fz)):=by
 obtain⟨z,h1,h2,J,D,E,B⟩:=h.ct;have C:(z.map (·.1)).Nodup:=by have:=h2.nodup;rw[Rb]at this;exact this
 have U:z.length<=100:=UC;obtain⟨y,P,F,M,V⟩:=h2.put underlying104 (k:=kY) Th (by rw[aH];unfold maxLen;omega) _;have r:Tm w y j:=⟨M,h2.isMap⟩;have K:∀x∈z,x.2.2≠p:=λx hx=>by
  refine O x.2.1 x.2.2 (D x hx) ⟨x.1,?_,?_⟩
  ·rw[h1,pw,vJ C (a:=x.2) (by exact hx)];rfl
  have:=h2.Ey underlying104 (k:=x.1) (by have:=E x hx;unfold maxLen;omega) (z:=.pointer none) S8;rw[this,vH,vJ C (a:=x.2) (by exact hx)];rfl
 refine⟨y,P,h.QR r B (h.tm r F.isMap B ⟨bY.put z kY (th,p),?_,?_,?_,?_,?_,B⟩ (h.done.tm r (λe=>h.ne e.symm)) rfl rfl rfl rfl),λk cs t fz n _=>r.cells n,λk cs t fz n=>r.cells n⟩
 ·show bY.put s.ct kY th=_;rw[h1];exact(ud (λx:cC×Nat=>x.1) z kY (th,p)).symm
 ·have:=ud (λx:cC×Nat=>ptr x.2) z kY (th,p);rw[this];exact F
 ·exact Gm (λx:a_×(cC×Nat)=>x.2.2) C J K
 ·intro x hx;have I:∀th q,ft w L th q->ft y L th q:=λth q G=>by
   obtain⟨_,cs,n⟩:=G.block;exact G.st ((r.cells n).trans n.symm) (λk _ cs t fz n _=>r.cells n) r.stay
  rcases kL hx with hx|rfl
  ·exact I _ _ (D x hx)
  exact I _ _ Q
 intro x hx;rcases kL hx with hx|rfl
 ·exact E x hx
 exact N
def LP.OC{w:Xa}{K N vn M:Xb}(h:LP w u s L j m K N vn M)(ty)(I:kY.length<=maxLen):∃r,(Builtin.delete_ #[104,9] ty #[.map (some j),str kY]).run prog w=.ok (.tuple #[]) r/\eF w u L {s with ct:=bY.del s.ct kY} r:=by
 obtain⟨p,h1,h2,E,C,F,z⟩:=h.ct;obtain⟨r,J,D,G,O⟩:=h2.del underlying104 (k:=kY) (ty:=ty) I;have n:Tm w r j:=⟨G,h2.isMap⟩;have B:∀x,x∈bY.del p kY->x∈p:=λx hx=>(Sj.1 hx).1;refine⟨r,J,h.QR n z (h.tm n D.isMap z ⟨bY.del p kY,?_,?_,?_,?_,λx hx=>F x (B x hx),z⟩ (h.done.tm n (λe=>h.ne e.symm)) rfl rfl rfl rfl)⟩
 ·show bY.del s.ct kY=_;rw[h1];exact(EO (λx:cC×Nat=>x.1) p kY).symm
 ·have:=EO (λx:cC×Nat=>ptr x.2) p kY;rw[this];exact D
 ·exact((SM).map _).nodup E
 intro x hx;obtain⟨_,cs,y⟩:=(C x (B x hx)).block;exact(C x (B x hx)).st ((n.cells y).trans y.symm) (λk _ cs t fz y _=>n.cells y) n.stay
def LP.OD{w:Xa}{I K vn J:Xb}(h:LP w u s L j m I K vn J){r:Wo}(G:ij w r v)(E:kY.length<=maxLen)(hlen:s.done.length<maxLen):∃n,(Instr.mapUpdate 105 (.map (some m)) (str kY) v).run prog w=.ok () n/\cO w u L {s with done:=bY.put s.done kY r} n/\(∀(k:Nat) (cs) (t) (fz),w.1[k]?=some (.cells cs t fz)->n.1[k]?=some (.cells cs t fz)):=by
 obtain⟨p,h1,h2,B,y⟩:=h.done;have M:p.length=s.done.length:=UC;obtain⟨n,F,z,D,N⟩:=h2.put underlying105 (k:=kY) E (by rw[aH];omega) v;have e:Tm w n m:=⟨D,h2.isMap⟩;refine⟨n,F,h.QS e y h.ne (h.tm e z.isMap y (h.ct.tm e h.ne) ⟨bY.put p kY (r,v),?_,?_,?_,y⟩ rfl rfl rfl rfl),λk cs t fz C=>e.cells C⟩
 ·show bY.put s.done kY r=_;rw[h1];exact(ud (λx:Wo×Xb=>x.1) p kY (r,v)).symm
 ·have:=ud (λx:Wo×Xb=>x.2) p kY (r,v);rw[this];exact z
 intro x hx;rcases kL hx with hx|rfl
 ·exact(B x hx).st e.stay
 exact G.st e.stay
def LP.Mh{w:Xa}{C E vn D:Xb}(h:LP w u s L j m C E vn D)(ty):∃e,(Builtin.clear_ #[105] ty #[.map (some m)]).run prog w=.ok (.tuple #[]) e/\cO w u L {s with done:=[]} e/\(∀(k:Nat) (cs) (t) (fz),w.1[k]?=some (.cells cs t fz)->e.1[k]?=some (.cells cs t fz)):=by
 obtain⟨F,h1,h2,G,p⟩:=h.done;obtain⟨e,B,r,z,I⟩:=h2.clear underlying105 (ty:=ty);have n:Tm w e m:=⟨z,h2.isMap⟩;exact⟨e,B,h.QS n p h.ne (h.tm n r.isMap p (h.ct.tm n h.ne) ⟨[],rfl,r,λx hx=>by simp at hx,p⟩ rfl rfl rfl rfl),λk cs t fz y=>n.cells y⟩
theorem je.cv{w:Xa}{done:List (a_×Wo)}(h:je w L m done)(z:kY.length<=maxLen):(bY.cv done kY=none/\(Instr.lookup 105 (.map (some m)) (str kY) true).run prog w=.ok (.tuple #[.agg #[.int .i64 0,.nilIface],.bool false]) w) \/∃r v,bY.cv done kY=some r/\ij w r v/\(Instr.lookup 105 (.map (some m)) (str kY) true).run prog w=.ok (.tuple #[v,.bool true]) w:=by
 obtain⟨n,h1,h2,y,C⟩:=h;have p:bY.cv done kY=(bY.cv n kY).map (λx=>x.1):=by
  rw[h1];exact jI (λx:a_×(Wo×Xb)=>(x.1,x.2.1)) (λ_ x=>x.1) (λ_=>rfl) n kY
 have B:=jI (λx:a_×(Wo×Xb)=>(x.1,x.2.2)) (λ_ x=>x.2) (λ_=>rfl) n kY;have e:=h2.cv underlying105 (k:=kY) z (z:=.agg #[.int .i64 0,.nilIface]) S8;rw[B]at e;cases hx:bY.cv n kY with
 |none =>
  rw[hx]at p e;exact .inl ⟨p,e⟩
 |some x =>
  rw[hx]at p e;exact .inr ⟨x.1,x.2,p,y _ (lP hx),e⟩
end
section
open Tryz
def Gn(w k key c y)(m:y=.nilIface\/∃t a,y=.iface t a)(b)(j:w.cell? ⟨b,0,none⟩=some (.string key)):Calls prog 205 #[.agg #[.string k,.int .i64 c,y],.pointer (some ⟨b,0,none⟩)] w λe n=>e=.returned (.bool (k.toList==key.toList))/\Xc w n:=by
 have l:b<w.1.size:=by
  rcases Ro b w.1.size with h|h
  ·exact h
  simp[World.cell?,R9 h]at j
 have p:∀o,(w.alloc o).cell? ⟨b,0,none⟩=some (.string key):=λo=>(VS (VR w o b l)).trans j;rcases m with rfl|⟨t,a,rfl⟩
 all_goals
  go_enter func205,ntmps205;go_wp2;go_ret;exact⟨rfl,(VM _ _).alloc (af _) _⟩
def toList_eq(a b:ba):(a.toList==b.toList)=(a.1.1==b.1.1):=by rw[VP,VP]
def qf{α:Type}:∀{l:List (a_×α)}{k:Nat}{n:a_×α},l[k]?=some n->(bY.cv l n.1).isSome=true
 |[],_,_,h=>by simp at h
 |p::l,0,n,h=>by
  simp at h;subst h;rw[bY.ee,ag rfl];rfl
 |p::l,k+1,n,h=>by
  simp at h;rw[bY.ee];split
  ·rfl
  exact qf h
def xw(w l sl key m)(h:eA w l sl)(hn:l.length<=1000)(J:w.cell? ⟨m,0,none⟩=some (.string key)):Calls prog 252 #[sl,.func (.func 205) #[] #[.pointer (some ⟨m,0,none⟩)]] w λe w'=>(∃j:Int,e=.returned (.int .i64 j)/\decide (0<=j)=(bY.cv l key.1.1).isSome)/\Xc w w':=by
 obtain⟨o,cp,rfl,hcell⟩:=h.cell;have aa:m<w.1.size:=by
  rcases Ro m w.1.size with h|h
  ·exact h
  simp[World.cell?,R9 h]at J
 have L:=bZ hcell;clear hcell h;go_enter func252,ntmps252;go_wp2
 go_loopw [8] (λi wr=>∃k:Nat,k<=l.length/\i=.int .i64 k/\(∀j,j<k->∀n,l[j]?=some n->n.1≠key.1.1)/\Xc w wr) (λi _=>l.length-(intOf i).toNat)
 case atStart=>exact⟨0,ar _,rfl,λj z=>by omega,VM _ _⟩
 case round =>
  obtain⟨k,hk,rfl,D,b⟩:=hrel;by_cases ab:k<l.length
  ·obtain⟨nd,K⟩:∃nd,l[k]?=some nd:=⟨_,aq ab⟩;obtain⟨u,x0,U,rfl,G,ad,N,O,P,R⟩:=L.Z k nd K;have f0:wr.cell? ⟨u,k*3,none⟩=some (str nd.1):=(b.cell (p:=⟨u,k*3,none⟩) G).trans N;have f1:wr.cell? ⟨u,k*3+1,none⟩=some x0:=(b.cell (p:=⟨u,k*3+1,none⟩) G).trans O;have f2:wr.cell? ⟨u,k*3+2,none⟩=some U:=(b.cell (p:=⟨u,k*3+2,none⟩) G).trans P;have Q:wr.cell? ⟨m,0,none⟩=some (.string key):=(b.cell (p:=⟨m,0,none⟩) aa).trans J;obtain⟨Y,yn,Z,T⟩:=R.form;cases Z;unfold str at f0;have r:=bZ (Gn wr ⟨nd.1.toArray⟩ key Y U T m Q);have C:=toList_eq ⟨nd.1.toArray⟩ key;rw[zB]at C;have M:=bZ K;have X:=bZ D;clear N O P R K D Q J;rcases T with rfl|⟨tn,an,rfl⟩
   all_goals
    by_cases y:nd.1=key.1.1
    ·have B:((⟨nd.1.toArray⟩:ba).toList==key.toList)=true:=by rw[C];simp[y]
     rw[B]at r;have E:=bZ y;clear C B y;go_wp2_with fail;refine b_ r.Z λw3 F=>?_;clear r;go_wp2;go_ret;refine⟨⟨(k:Int),rfl,?_⟩,b.trans (F.mono b.size)⟩;rw[<-E.Z,qf M.Z];simp
    have B:((⟨nd.1.toArray⟩:ba).toList==key.toList)=false:=by rw[C];simpa using y
    rw[B]at r;have E:=bZ y;clear C B y;go_wp2_with fail;refine b_ r.Z λw3 F=>?_;clear r;go_wp2;refine⟨⟨_,_,_,_,_,_,_,_,_,_,_,_,_,?_,rfl⟩,?_⟩
    ·refine⟨k+1,by omega,by go_num,λj z n I=>?_,b.trans (F.mono b.size)⟩;rcases(by omega:j<k\/j=k)with z|rfl
     ·exact X.Z j z n I
     rw[M.Z]at I;cases I;exact E.Z
    simp[intOf];omega
  have S:bY.cv l key.1.1=none:=bY.jz.2 (λp hp e=>by
   obtain⟨j,z⟩:=Sa hp;have:=(aA.1 z).1;exact D j R5 p z e)
  have V:=bZ S;clear D S L;go_wp2;go_ret;refine⟨⟨-1,rfl,?_⟩,b⟩;rw[V.Z];rfl
def sB(w l sl key n)(h:eA w l sl)(y:l.length<=1000)(p:w.cell? ⟨n,0,none⟩=some (.string key)):Calls prog 204 #[sl,.func (.func 205) #[] #[.pointer (some ⟨n,0,none⟩)]] w λe z=>e=.returned (.bool (bY.cv l key.1.1).isSome)/\Xc w z:=by
 obtain⟨o,B,rfl,_⟩:=h.cell;have m:=bZ (xw w l _ key n h y p);clear h p;generalize (bY.cv l key.1.1).isSome=b at m;go_enter func204,ntmps204;go_wp2_with fail;refine m.Z.mono ?_;rintro e C⟨⟨j,rfl,u⟩,r⟩;clear m;subst u;go_wp2;go_ret;exact⟨rfl,r⟩
end
