/- Out of Q3. -/
import Derived.Test.YtpekpdimdelncaaGreatDoorP21
import Derived.Test.YtpekpdimdelncaaGreatDoorP07
set_option linter.unusedVariables false
set_option linter.unusedSimpArgs false
set_option maxRecDepth 100000
set_option maxHeartbeats 4000000
set_option linter.defProp false
namespace Go.Proofs.YtpekpdimdelncaaGreatDoor
open Go.RowKit Go.Shelf
section
open bY
open Tryz
namespace Ref
variable{c d:UInt8}{l p x:a_}{ps:List (a_)}{f:a_->Bool}
def DW(s:ba)(h:0<s.size):s.1.1.head?=some s[0]:=by rw[QI,byte_at s 0 h]
def DX(s:ba)(h:0<s.size):s.1.1.getLast?=some (s[s.size-1]' RM):=by
 rw[Rr,<-UB,byte_at s _ RM]
def Io(h:c≠d):((c.toNat) != (d.toNat:Int))=true:=by rw[bne,xp,aF h];rfl
def Ip(h:c=d):((c.toNat) != (d.toNat:Int))=false:=by rw[bne,xp,aS h];rfl
def Fp(s:ba)(h:2<=s.size):(s.extract 1 (s.size-1)).1.1=(s.1.1.drop 1).dropLast:=by
 rw[UG,RV,aO,<-UB]
def rD(s w)(y:8<=w.1.size)(hs:s.size<=20000000):Calls prog 194 #[.string s] w λe w'=>∃o n c,e=.returned (.tuple #[.slice o n c,.bool (fy s.1.1).isSome])/\n=((fy s.1.1).getD []).length/\iO w w' (.slice o n c) ((fy s.1.1).getD []):=by
 have B:s.1.1.length=s.size:=by rw[UB]
 by_cases h2:2<=s.size
 ·have u:¬(s.size:Int)<2:=RM;have b:0<s.size:=RM;by_cases j:s[0]=123
  ·have e1:((s[0].toNat:Int) != 123)=false:=Ip (d:=123) j;by_cases hb:s[s.size-1]=125
   ·have e2:((s[s.size-1].toNat:Int) != 125)=false:=Ip (d:=125) hb;have z:gD s.1.1=some ((s.1.1.drop 1).dropLast):=by
     unfold gD;rw[ag ⟨by omega,by rw[DW s b,j],by rw[DX s b,hb]⟩]
    have hx:=Fp s h2;have m:=bZ (Ct _ w y (by rw[UB,hx,List.length_dropLast,aO];omega));rw[hx]at m;have hi:fy s.1.1=some (fU (s.1.1.drop 1).dropLast):=by unfold fy;rw[z];rfl
    rw[hi];go_enter func194,ntmps194;go_wp2_with fail;refine m.Z.mono ?_;rintro e w1⟨v,rfl,hv⟩;obtain⟨o,c,rfl⟩:=hv.form;have r:=bZ hv;dsimp only;go_wp2_with fail;go_ret2;exact⟨_,_,_,rfl,rfl,r.Z⟩
   have e2:((s[s.size-1].toNat:Int) != 125)=true:=Io (d:=125) hb;have hi:fy s.1.1=none:=by
    unfold fy gD;rw[ae (λh=>hb (by have:=h.2.2;rw[DX s b]at this;exact aB this))];rfl
   rw[hi];go_enter func194,ntmps194;go_wp2_with fail;go_ret2;exact⟨_,_,_,rfl,rfl,iO.nil w⟩
  have e1:((s[0].toNat:Int) != 123)=true:=Io (d:=123) j;have hi:fy s.1.1=none:=by
   unfold fy gD;rw[ae (λh=>j (by have:=h.2.1;rw[DW s b]at this;exact aB this))];rfl
  rw[hi];go_enter func194,ntmps194;go_wp2_with fail;go_ret2;exact⟨_,_,_,rfl,rfl,iO.nil w⟩
 have u:(s.size:Int)<2:=RM;have hi:fy s.1.1=none:=by
  unfold fy gD;rw[ae (λh=>by have:=h.1;omega)];rfl
 rw[hi];go_enter func194,ntmps194;go_wp2_with fail;go_ret2;exact⟨_,_,_,rfl,rfl,iO.nil w⟩
def xz(l):dN l=(jS l).isSome:=by
 unfold dN jS;by_cases h:2<=l.length/\l.length<=32/\l.head?=some 39/\l.getLast?=some 39
 ·have e:lN l 1=(((l.drop 1).dropLast).all λc=>fH c&&!(c==39)):=by
   unfold lN;rw[RV,aO];have:l.length-1-1=(l.length-1)-1:=rfl;rfl
  rw[aS h,Qk,e];cases hb:(((l.drop 1).dropLast).all λc=>fH c&&!(c==39)) with
  |true=>rw[ag ⟨h.1,h.2.1,h.2.2.1,h.2.2.2,rfl⟩];rfl
  |false=>rw[ae (λh=>by cases h.2.2.2.2)];rfl
 rw[aF h,Qz,ae (λh2=>h ⟨h2.1,h2.2.1,h2.2.2.1,h2.2.2.2.1⟩)];rfl
def yU:∀r e d q b p,p∈lP r e d q b->p∈b\/p.length<=e.length+r.length
 |[],e,d,q,b,p,h=>by
  rw[lP]at h;rcases aK.1 h with h|h
  ·exact .inl h
  rw[P1.1 h];exact .inr (aJ _ _)
 |c :: r,e,d,q,b,p,h=>by
  have go:∀d q,p∈lP r (e++[c]) d q b->p∈b\/p.length<=e.length+(c :: r).length:=λd q h=>by
   rcases yU r _ d q b p h with h|h
   ·exact .inl h
   refine .inr ?_;rw[aj,aD]at h;rw[aM];omega
  rw[lP]at h;split at h
  ·exact go _ _ h
  split at h
  ·exact go _ _ h
  split at h
  ·exact go _ _ h
  split at h
  ·exact go _ _ h
  split at h
  ·rcases yU r _ _ _ _ p h with h|h
   ·rcases aK.1 h with h|h
    ·exact .inl h
    rw[P1.1 h];exact .inr (aJ _ _)
   refine .inr ?_;rw[aM];simp at h;omega
  exact go _ _ h
def xA(h:fy l=some ps)(b:p∈ps):p.length<=l.length:=by
 unfold fy at h;cases hi:gD l with
 |none=>rw[hi]at h;cases h
 |some x =>
  rw[hi]at h;cases h;have hl:=congrArg List.length (sC hi);simp at hl;unfold fU at b;split at b
  ·cases b
  rcases yU _ _ _ _ _ p b with h|h
  ·cases h
  simp at h;omega
def Ou:Nat->Option (List (a_))->Bool
 |0,_=>false
 |_+1,none=>false
 |m+1,some ps=>decide (ps.length<=12)&&ps.all λp=>(rv m p).isSome
def KX{n:Nat}(h1:dT l=none)(h2:jS l=none):(rv n l).isSome=Ou n (fy l):=by
 rw[pP,h1,h2];unfold fy
 match n with
 |0=>rfl
 |m+1 =>
  simp only;cases gD l with
  |none=>rfl
  |some x =>
   simp only[QJ];show _=(decide _&&_);rw[<-rW];split
   ·rw[aF RM];rfl
   rw[aS RM,Option.isSome_map];rfl
def Iq{i:Nat}(h:ps[i]?=some x):(ps.drop i).all f=(f x&&(ps.drop (i+1)).all f):=by
 obtain⟨h1,h2⟩:=az.1 h;rw[aR h1,Qy,h2]
def qU(n:Nat)(s w)(S:8<=w.1.size)(hs:s.size<=20000000)(aa:n<=3)(L:∀m,n=m+1->∀(s) (w),8<=w.1.size->s.size<=20000000->Calls prog 146 #[.string s,.int .i64 m] w λe w'=>e=.returned (.bool (rv m s.1.1).isSome)/\Xb w w'):Calls prog 146 #[.string s,.int .i64 n] w λe w'=>e=.returned (.bool (rv n s.1.1).isSome)/\Xb w w':=by
 have ad:s.1.1.length=s.size:=by rw[UB]
 have z:=bZ (qe s w hs);have u:=bZ (eJ s w hs);have y:=bZ (rD s w S hs);rw[xz]at u;cases F:dT s.1.1 with
 |some i =>
  have r:(rv n s.1.1).isSome=true:=by rw[pP,F];rfl
  rw[r];rw[F]at z;unfold oP at z;generalize (jS s.1.1).isSome=b at u;generalize (fy s.1.1)=q at y;go_enter func146,ntmps146;go_wp2_with fail;refine z.Z.mono ?_;rintro e w1⟨rfl,j⟩;obtain rfl:=j.symm;go_wp2_with fail;refine u.Z.mono ?_;rintro e w1⟨rfl,j⟩;obtain rfl:=j;go_wp2_with fail;refine y.Z.mono ?_;rintro e w1⟨o,m,c,rfl,P,r⟩;have B:=bZ r.eh;go_wp2_with fail;go_ret;exact⟨rfl,B.Z⟩
 |none =>
  rw[F]at z;unfold oP at z;cases K:jS s.1.1 with
  |some b =>
   have r:(rv n s.1.1).isSome=true:=by rw[pP,F,K];rfl
   rw[r];rw[K]at u;simp only[Rq]at u;generalize (fy s.1.1)=q at y;go_enter func146,ntmps146;go_wp2_with fail;refine z.Z.mono ?_;rintro e w1⟨rfl,j⟩;obtain rfl:=j.symm;go_wp2_with fail;refine u.Z.mono ?_;rintro e w1⟨rfl,j⟩;obtain rfl:=j;go_wp2_with fail;refine y.Z.mono ?_;rintro e w1⟨o,m,c,rfl,P,r⟩;have B:=bZ r.eh;go_wp2_with fail;go_ret;exact⟨rfl,B.Z⟩
  |none =>
   rw[KX F K];rw[K]at u;simp only[Rv]at u;have E:=λps p h Q=>xA (l:=s.1.1) (ps:=ps) h (p:=p) Q;generalize (fy s.1.1)=q at y E ⊢;cases q with
   |none =>
    simp only[Rv,Option.getD_none,P6]at y;have r:Ou n none=false:=Sb;rw[r];go_enter func146,ntmps146;go_wp2_with fail;refine z.Z.mono ?_;rintro e w1⟨rfl,j⟩;obtain rfl:=j.symm;go_wp2_with fail;refine u.Z.mono ?_;rintro e w1⟨rfl,j⟩;obtain rfl:=j;go_wp2_with fail;refine y.Z.mono ?_;rintro e w1⟨o,m,c,rfl,P,r⟩;have B:=bZ r.eh;go_wp2_with fail;go_ret;exact⟨rfl,B.Z⟩
   |some ps =>
    simp only[Rq,Option.getD_some]at y;have E:=λp Q=>E ps p rfl Q;cases n with
    |zero =>
     show Calls prog 146 #[.string s,.int .i64 0] w λe w'=>e=.returned (.bool false)/\Xb w w';go_enter func146,ntmps146;go_wp2_with fail;refine z.Z.mono ?_;rintro e w1⟨rfl,j⟩;obtain rfl:=j.symm;go_wp2_with fail;refine u.Z.mono ?_;rintro e w1⟨rfl,j⟩;obtain rfl:=j;go_wp2_with fail;refine y.Z.mono ?_;rintro e w1⟨o,m,c,rfl,P,r⟩;have B:=bZ r.eh;go_wp2_with fail;go_ret;exact⟨rfl,B.Z⟩
    |succ n =>
     have L:=bZ (L n rfl);have ab:(((n:Int)+1)==0)=false:=R5;show Calls prog 146 #[.string s,.int .i64 ((n+1:Nat):Int)] w λe w'=>e=.returned (.bool (decide (ps.length<=12)&&ps.all λp=>(rv n p).isSome))/\Xb w w';by_cases R:ps.length<=12
     ·have X:¬(12:Int)<(ps.length:Int):=RM;rw[aS R,Qk];go_enter func146,ntmps146;go_wp2_with fail;refine z.Z.mono ?_;rintro e w1⟨rfl,j⟩;obtain rfl:=j.symm;go_wp2_with fail;refine u.Z.mono ?_;rintro e w1⟨rfl,j⟩;obtain rfl:=j;go_wp2_with fail;refine y.Z.mono ?_;rintro e w1⟨o,m,c,rfl,rfl,r⟩;have V:=bZ r;go_wp2_with fail
      go_loopw [10] (λiv wr=>∃(i:Nat),i<=ps.length/\iv=.int .i64 i/\Hid (iO w wr (.slice o ps.length c) ps)/\Hid ((ps.drop i).all (λp=>(rv n p).isSome)=ps.all (λp=>(rv n p).isSome))) (λiv _=>ps.length-(intOf iv).toNat)
      case atStart=>exact⟨0,au _,rfl,V,bZ rfl⟩
      case round =>
       obtain⟨i,hi,rfl,D,G⟩:=hrel;by_cases T:i<ps.length
       ·have Z:(i:Int)<(ps.length:Int):=RM;have hx:=aq T;obtain⟨g,rfl,Y,hcell⟩:=D.Z.cell hx;have I:=Iq (f:=λp=>(rv n p).isSome) hx;have C:=bZ (L.Z ⟨ps[i].toArray⟩ wr (ah S D.Z.eh.size) (by rw[UB];show ps[i].length<=_;have:=E _ (Q4 T);omega));have hd:(⟨ps[i].toArray⟩:ba).1.1=ps[i]:=rfl;rw[hd]at C;unfold str at hcell;cases hb:(rv n ps[i]).isSome with
        |true =>
         rw[hb]at C I;have U:Hid ((ps.drop (i+1)).all (λp=>(rv n p).isSome)=ps.all (λp=>(rv n p).isSome)):=bZ (by rw[<-G.Z,I,Qk]);go_wp2_with fail;refine C.Z.mono ?_;rintro e w2⟨rfl,O⟩;have N:=bZ (D.Z.below O);go_wp2_with fail;exact⟨⟨i+1,by omega,by go_num,N,U⟩,by simp[intOf];omega⟩
        |false =>
         rw[hb]at C I;have J:ps.all (λp=>(rv n p).isSome)=false:=by rw[<-G.Z,I,Qz]
         have M:=bZ J;go_wp2_with fail;refine C.Z.mono ?_;rintro e w2⟨rfl,O⟩;have N:=bZ (D.Z.below O);go_wp2_with fail;go_ret;exact⟨by rw[M.Z];rfl,N.Z.eh⟩
       obtain rfl:i=ps.length:=RM;have J:ps.all (λp=>(rv n p).isSome)=true:=by rw[<-G.Z,aQ (af _)];rfl
       have M:=bZ J;clear G J L E;go_wp2_with fail;go_ret;exact⟨by rw[M.Z];rfl,D.Z.eh⟩
     have X:(12:Int)<(ps.length:Int):=RM;rw[aF R,Qz];go_enter func146,ntmps146;go_wp2_with fail;refine z.Z.mono ?_;rintro e w1⟨rfl,j⟩;obtain rfl:=j.symm;go_wp2_with fail;refine u.Z.mono ?_;rintro e w1⟨rfl,j⟩;obtain rfl:=j;go_wp2_with fail;refine y.Z.mono ?_;rintro e w1⟨o,m,c,rfl,rfl,r⟩;have B:=bZ r.eh;go_wp2_with fail;go_ret;exact⟨rfl,B.Z⟩
def sI:∀(n:Nat) (s) (w) (b:8<=w.1.size) (hs:s.size<=20000000),n<=3 ->Calls prog 146 #[.string s,.int .i64 n] w λe w'=>e=.returned (.bool (rv n s.1.1).isSome)/\Xb w w':=by
 intro n
 induction n with
 |zero=>exact λs w b hs _=>qU 0 s w b hs RM (λm e=>by omega)
 |succ n r=>exact λs w b hs j=>qU _ s w b hs j (λm e s w b hs=>by
   obtain rfl:n=m:=RM;exact r s w b hs RM)
end Ref
end
section
open bY
open Tryz
variable{B b:Nat}{l:a_}{n:a_×Wo}{x:Xa}{ns:List (a_×Wo)}
def xB{w w':QV}(h:Gv B b l w)(e:Xb w w'):Gv B b l w':=by
 have f:∀p,Lib.BuilderAt 188 5 B b p (Lib.byteCells l) w->Lib.BuilderAt 188 5 B b p (Lib.byteCells l) w':=by
  rintro p⟨h1,v,h2,j,m⟩;exact⟨h1,v,(e.block b (cj h2)).trans h2,ld j e,m⟩
 rcases h with h|h
 ·exact .inl (f _ h)
 exact .inr (f _ h)
def size_data(x:ba):x.size=x.1.1.length:=by rfl
def Nk{w:QV}(h:Gv B b l w):b<w.1.size:=by
 rcases h with h|h
 ·exact h.lt
 exact h.lt
def sJ(m:a_)(r)(ns:List (a_×Wo))(k)(n:a_×Wo)(e:ns[k]?=some n):dh m ⟨r,ns.take (k+1)⟩=dh m ⟨r,ns.take k⟩++gH n:=by
 have j:=(az.1 e).1;unfold dh;rw[Se j,Qf];have:ns[k]=n:=by rw[aq j]at e;exact aB e
 simp[this]
def qV{w:QV}(h1:n.1.length<=200)(h2:g_ w n.2 x):(gH n).length<=100202:=by
 have:=lz h2;simp[gH];omega
def kk{w:QV}{kY:a_}{r:Wo}{x:Xa}{ns:List (a_×Wo)}{sl:Xa}(y:kY.length<=200)(m:g_ w r x)(h:ee w ns sl):∀k,k<=ns.length->(dh kY ⟨r,ns.take k⟩).length<=100206+k*100202
 |0,_=>by
  have:=lz m;simp[dh];omega
 |k+1,C=>by
  obtain⟨qs,h1,h2,e⟩:=h;obtain⟨n,j⟩:∃n,ns[k]?=some n:=⟨_,aq RM⟩;obtain⟨q,z⟩:∃q,qs[k]?=some q:=⟨_,aq RM⟩;obtain⟨_,p,u⟩:=e k n q j z;have D:=kk y m ⟨qs,h1,h2,e⟩ k RM;have:=qV p u;rw[sJ kY r ns k n j,aj];omega
def Fq(qs:List (Xa×Xa×Xa))(k q)(m:qs[k]?=some q):(qs.flatMap iD)[3*k]?=some q.1/\(qs.flatMap iD)[3*k+1]?=some q.2.1/\(qs.flatMap iD)[3*k+2]?=some q.2.2:=by
 induction qs generalizing k with
 |nil=>simp at m
 |cons p qs u =>
  cases k with
  |zero =>
   simp at m;subst m;exact⟨rfl,rfl,rfl⟩
  |succ k =>
   simp at m;obtain⟨h1,h2,r⟩:=u k m;have e:∀j,(List.flatMap iD (p :: qs))[3*(k+1)+j]?=(qs.flatMap iD)[3*k+j]? := λj=>by
    rw[P9,aY (by simp[iD];omega)]
    congr 1
    simp[iD];omega
   exact⟨(e 0).trans h1,(e 1).trans h2,(e 2).trans r⟩
def ee.cell{w:QV}{sl:Xa}(h:ee w ns sl):∃o c,sl=.slice o ns.length c/\∀k n,ns[k]?=some n->∃g x y,o=some ⟨g,0,none⟩/\g<w.1.size/\n.1.length<=200/\w.cell? ⟨g,k*3,none⟩=some (str n.1)/\w.cell? ⟨g,k*3+1,none⟩=some x/\w.cell? ⟨g,k*3+2,none⟩=some y/\g_ w n.2 (.agg #[x,y]):=by
 obtain⟨qs,h1,h2,z⟩:=h;rcases h1.2 with⟨rfl,u⟩|⟨g,p,D,rfl,E,hb,I,hc,hs,C⟩
 ·refine⟨none,0,by rw[u],λk n e=>?_⟩;have:=(az.1 e).1;omega
 refine⟨some ⟨g,0,none⟩,p,rfl,λk n e=>?_⟩;have G:=(az.1 e).1;obtain⟨q,m⟩:∃q,qs[k]?=some q:=⟨_,aq RM⟩;obtain⟨e1,e2,r⟩:=z k n q e m;obtain⟨d1,d2,d3⟩:=Fq qs k q m;have hcell:∀j v,(qs.flatMap iD)[j]?=some v->w.cell? ⟨g,j,none⟩=some v:=λj v hj=>by
  have F:=(az.1 hj).1;rw[<-C]at hj;rw[Rt]at hj;split at hj
  ·simp[World.cell?,hb];rw[<-Rd];exact hj
  cases hj
 rw[Nat.mul_comm k 3];exact⟨g,q.2.1,q.2.2,rfl,cj hb,e2,by rw[hcell _ _ d1,e1],hcell _ _ d2,hcell _ _ d3,r⟩
def yX(w L kp q m)(h:jf w L kp q)(g:G w)(hk:m.size<=200):Calls prog 61 #[ptr q,.string m] w λe w'=>e=.returned (str (dh m.1.1 kp))/\Xb w w':=by
 obtain⟨c,i,sl,hb,_,N,hN,_,bM⟩:=h;have c0:w.cell? ⟨q,0,none⟩=some c:=by simp[World.cell?,hb]
 have c1:w.cell? ⟨q,1,none⟩=some i:=by simp[World.cell?,hb]
 have c2:w.cell? ⟨q,2,none⟩=some sl:=by simp[World.cell?,hb]
 have hq:q<w.1.size:=cj hb;have hlen:=kk (kY:=m.1.1) (by simpa using hk) N hN;obtain⟨o,cp,rfl,hcell⟩:=hN.cell;obtain⟨ci,y,he,hy⟩:=N.form;cases he;have bQ:=lz N;have hz:=size_mk (gu kp.dQ);obtain⟨x,hx⟩:∃x:ba,(⟨(gu kp.dQ).toArray⟩:ba)=x:=⟨_,rfl⟩;have bo:x.1.1=gu kp.dQ:=Ss;have bm:str (gu kp.dQ)=.string x:=by rw[<-hx];rfl
 rw[hx]at hz;have Y:Xb w (w.alloc (.cells #[.pointer none,.slice none 0 0] 188)):=(Uz _ _).alloc (af _) _;have ax:=mA (w.alloc (.cells #[.pointer none,.slice none 0 0] 188)) (g.below Y g.size) (N.keeps (cK.below Y));rw[bm]at ax;have bg:=Lib.fresh_isBuilder 188 5 w;have a6:=bZ ax;have a0:=bZ bg;have V:=bZ hlen;have ay:=bZ hcell;have bw:=bZ bo;clear ax bg hlen hcell hx bm bo N hN hb;unfold ptr;rcases hy with rfl|⟨ty,a,rfl⟩
 all_goals
  go_enter func61,ntmps61;go_wp2_with fail;refine a6.Z.mono ?_;rintro e w1⟨rfl,Z⟩;have aa:Xb w w1:=Y.trans (Z.mono R2);have bf:Gv w.1.size w.1.size [] w1:=xB a0.Z Z;have bH:=V.Z 0 (au _);have R:(⟨#[107,101,101,112,32]⟩++m++⟨#[32]⟩++x:ba).1.1=dh m.1.1 ⟨kp.dQ,kp.cO.take 0⟩:=by
   simp[dh,bw.Z]
  have bJ:(⟨#[107,101,101,112,32]⟩++m++⟨#[32]⟩++x:ba).size<=100206:=by
   rw[size_data,R];omega
  have bl:0<(⟨#[107,101,101,112,32]⟩++m++⟨#[32]⟩++x:ba).size:=by
   rw[size_data,R];simp[dh]
  have M:=bZ (oh w.1.size w.1.size [] _ w1 bf bl (by rw[P6];omega) g.size aa.size);have a2:=bZ R;clear a6 a0 bH R bf;go_wp2_with fail;refine M.Z.mono ?_;rintro e w2⟨rfl,ao,a7,_⟩;have ab:Xb w w2:=aa.trans a7;rw[Qv,a2.Z]at ao;have d2:w2.cell? ⟨q,2,none⟩=some (.slice o kp.cO.length cp):=(ab.cell (p:=⟨q,2,none⟩) hq).trans c2;clear M a2 bJ bl c0 c1 c2 Z aa a7;go_wp2_with fail
  go_loopw [23] (λi wr=>∃k:Nat,k<=kp.cO.length/\i=.int .i64 k/\Gv w.1.size w.1.size (dh m.1.1 ⟨kp.dQ,kp.cO.take k⟩) wr/\Xb w wr) (λi _=>kp.cO.length-(intOf i).toNat)
  case atStart=>exact⟨0,au _,rfl,ao,ab⟩
  case round =>
   obtain⟨k,bG,rfl,P,z⟩:=hrel;clear ao ab d2;by_cases bI:k<kp.cO.length
   ·obtain⟨nd,av⟩:∃nd,kp.cO[k]?=some nd:=⟨_,aq bI⟩;obtain⟨J,x0,u,rfl,ap,bk,e0,e1,e2,am⟩:=ay.Z k nd av;have f0:wr.cell? ⟨J,k*3,none⟩=some (str nd.1):=(z.cell (p:=⟨J,k*3,none⟩) ap).trans e0;have f1:wr.cell? ⟨J,k*3+1,none⟩=some x0:=(z.cell (p:=⟨J,k*3+1,none⟩) ap).trans e1;have f2:wr.cell? ⟨J,k*3+2,none⟩=some u:=(z.cell (p:=⟨J,k*3+2,none⟩) ap).trans e2;obtain⟨r,yn,bD,bK⟩:=am.form;cases bD;unfold str at f0;have bd:=am.keeps (cK.below z);have bv:=bZ bd;have br:=bZ av;clear e0 e1 e2 am bd av;obtain⟨j,Q⟩:∃j:ba,(⟨nd.1.toArray⟩:ba)=j:=⟨_,rfl⟩;have bN:j.size<=200:=by rw[<-Q,size_mk];exact bk
    have bq:=bZ (show j.1.1=nd.1 by rw[<-Q]);rw[Q]at f0;clear Q;have O:g_ (wr.alloc (.cells #[.string j,.int .i64 r,u] 133)).drew nd.2 (.agg #[.int .i64 r,u]):=bv.Z.keeps (cK.below (((Uz _ wr).alloc (af _) _).drew));have a8:Xb wr (wr.alloc (.cells #[.string j,.int .i64 r,u] 133)).drew:=((Uz _ wr).alloc (af _) _).drew;have bh:G (wr.alloc (.cells #[.string j,.int .i64 r,u] 133)).drew:=(g.below z g.size).below a8 (ah g.size z.size);have a5:=bZ (mA _ bh O);have bR:=lz O;have bL:=size_mk (gu nd.2);obtain⟨xs,U⟩:∃xs:ba,(⟨(gu nd.2).toArray⟩:ba)=xs:=⟨_,rfl⟩;have bp:xs.1.1=gu nd.2:=by rw[<-U]
    rw[U]at bL;have bx:=bZ (show str (gu nd.2)=.string xs by rw[<-U];rfl);have a3:=bZ (λ(w3:QV) (D:Below (wr.alloc (.cells #[.string j,.int .i64 r,u] 133)).drew.1.size (wr.alloc (.cells #[.string j,.int .i64 r,u] 133)).drew w3)=>show w3.cell? ⟨wr.1.size,0,none⟩=some (.string j)/\w3.cell? ⟨wr.1.size,1,none⟩=some (.int .i64 r)/\w3.cell? ⟨wr.1.size,2,none⟩=some u from by
     obtain⟨hc,_⟩:=nQ D;rw[hc _ _ R2,hc _ _ R2,hc _ _ R2];exact⟨by simp[go_sem],by simp[go_sem],by simp[go_sem]⟩)
    have T:(⟨#[32]⟩++j++⟨#[61]⟩++xs:ba).1.1=gH nd:=by
     simp[gH,bp,bq.Z]
    have M:=bZ (λ(w3:QV) (D:Below (wr.alloc (.cells #[.string j,.int .i64 r,u] 133)).drew.1.size (wr.alloc (.cells #[.string j,.int .i64 r,u] 133)).drew w3)=>show Calls prog 95 #[.pointer (some ⟨w.1.size,0,none⟩),.string (⟨#[32]⟩++j++⟨#[61]⟩++xs)] w3 (λe w'=>e=.returned (.tuple #[.int .i64 (⟨#[32]⟩++j++⟨#[61]⟩++xs:ba).size,.nilIface])/\Gv w.1.size w.1.size (dh m.1.1 ⟨kp.dQ,kp.cO.take k⟩++(⟨#[32]⟩++j++⟨#[61]⟩++xs:ba).1.1) w'/\Below w.1.size w3 w'/\∀(k:Nat) (cs:Array Xa) (t:TypeId) (fz:Nat×Nat),w3.1[k]?=some (.cells cs t fz)->t≠5->k≠w.1.size->w'.1[k]?=some (.cells cs t fz))/\(∀C,Gv w.1.size w.1.size (dh m.1.1 ⟨kp.dQ,kp.cO.take k⟩++(⟨#[32]⟩++j++⟨#[61]⟩++xs:ba).1.1) C->Below w.1.size w3 C->(∀(k:Nat) (cs:Array Xa) (t:TypeId) (fz:Nat×Nat),w3.1[k]?=some (.cells cs t fz)->t≠5->k≠w.1.size->C.1[k]?=some (.cells cs t fz))->(C.cell? ⟨wr.1.size,0,none⟩=some (.string j)/\C.cell? ⟨wr.1.size,1,none⟩=some (.int .i64 r)/\C.cell? ⟨wr.1.size,2,none⟩=some u)/\Gv w.1.size w.1.size (dh m.1.1 ⟨kp.dQ,kp.cO.take (k+1)⟩) C/\Xb w C)from by
     have ad:Xb wr w3:=a8.trans (D.mono R2);have bO:=V.Z k bG;have bP:(⟨#[32]⟩++j++⟨#[61]⟩++xs:ba).size<=100202:=by
      rw[size_data,T];exact qV bk O
     refine⟨oh _ _ _ _ w3 (xB P ad) (by rw[size_data,T];simp[gH]) RM g.size (ah z.size ad.size),λC h5 ai ak=>⟨?_,?_,(z.trans (ad.mono z.size)).trans ai⟩⟩
     ·have bC:w3.1[wr.1.size]?=some (.cells #[.string j,.int .i64 r,u] 133 (0,0)):=(D.block wr.1.size R2).trans (heap_alloc_new wr _);have X:=ak _ _ _ _ bC RZ (by have:=Nk P;omega);exact⟨by simp[World.cell?,X],by simp[World.cell?,X],by simp[World.cell?,X]⟩
     ·rw[T,<-sJ m.1.1 kp.dQ kp.cO k nd br.Z]at h5;exact h5)
    clear U bp O bh T;have F:(λw':QV=>w'.cell? ⟨wr.1.size,0,none⟩=some (.string j)/\w'.cell? ⟨wr.1.size,1,none⟩=some (.int .i64 r)/\w'.cell? ⟨wr.1.size,2,none⟩=some u) (wr.alloc (.cells #[.string j,.int .i64 r,u] 133)).drew:=⟨by simp[go_sem],by simp[go_sem],by simp[go_sem]⟩;rcases bK with rfl|⟨tn,an,rfl⟩
    all_goals
     go_wp2_with fail;refine wp_region_held_drew (S:=λw'=>w'.cell? ⟨wr.1.size,0,none⟩=some (.string j)/\w'.cell? ⟨wr.1.size,1,none⟩=some (.int .i64 r)/\w'.cell? ⟨wr.1.size,2,none⟩=some _) RO F (λhHeld=>?_);refine wpAnyH_take (i:=0) (v:=?_) rfl RO RO RO (λ_ _ _ h=>h) (Or.inl ⟨by rfl,?_⟩) F ?_
     rotate_left
     ·intro w' I;go_simp
      try with_reducible rfl
     simp only[Act.put,ar,Xc,Xd];refine wpAnyH_take (i:=1) (v:=?_) rfl RO RO RO (λ_ _ _ h=>h) (Or.inl ⟨by rfl,?_⟩) F ?_
     rotate_left
     ·intro w' I;obtain⟨s1,s2,s3⟩:=I;go_simp
      try with_reducible rfl
     simp only[Act.put,ar,Xc,Xd];refine wpAnyH_take (i:=2) (v:=?_) rfl RO RO RO (λ_ _ _ h=>h) (Or.inl ⟨by rfl,?_⟩) F ?_
     rotate_left
     ·intro w' I;go_simp;rw[ae RM]
      try with_reducible rfl
     simp only[Act.put,ar,Xc,Xd];refine wpAnyH_take (i:=3) (v:=?_) rfl RO RO RO (λ_ _ _ h=>h) (Or.inl ⟨by rfl,?_⟩) F ?_
     rotate_left
     ·intro w' I;go_simp;rw[ae RM]
      try with_reducible rfl
     simp only[Act.put,ar,Xc,Xd];refine wpAnyH_take (i:=4) (v:=?_) rfl RO RO RO (λ_ _ _ h=>h) (Or.inl ⟨by rfl,?_⟩) F ?_
     rotate_left
     ·intro w' I;go_simp
      try with_reducible rfl
     simp only[Act.put,ar,Xc,Xd];refine wpAnyH_take (i:=5) (v:=?_) rfl RO RO RO (λ_ _ _ h=>h) (Or.inl ⟨by rfl,?_⟩) F ?_
     rotate_left
     ·intro w' I;obtain⟨s1,s2,s3⟩:=I;go_simp
      try with_reducible rfl
     simp only[Act.put,ar,Xc,Xd];refine wpAnyH_ready (rs:=[6]) RO R2 ?_;refine AllReadyH.cons rfl (λK E=>?_) AllReadyH.nil;go_simp;refine a5.Z.mono ?_;rintro e w3⟨rfl,D⟩;rw[bx.Z];have a9:=a3.Z w3 D;refine E.out _ _ a9 (λ_=>?_);clear E;obtain⟨bn,bc⟩:=M.Z w3 D;have bu:=bZ bn;have bt:=bZ bc;clear bn bc M a3 a5 D;refine wpAnyH_ready (rs:=[7]) RO R2 ?_;refine AllReadyH.cons rfl (λK E=>?_) AllReadyH.nil;go_simp;rw[ae RM,Oper.upon_value];go_simp;refine E.out _ _ a9 (λ_=>?_);clear E;refine wpAnyH_ready (rs:=[8]) RO R2 ?_;refine AllReadyH.cons rfl (λK E=>?_) AllReadyH.nil;go_simp;refine bu.Z.mono ?_;rintro e C⟨rfl,bB,ai,ak⟩;obtain⟨bA,bF⟩:=bt.Z C bB ai ak;refine E.out _ _ bA (λ_=>?_);clear E;refine wpAnyH_done RO ?_ _;go_wp2_with fail;refine⟨⟨k+1,by omega,by go_num,bF⟩,?_⟩;simp[intOf];omega
   have a4:=bZ (Builder_String_any w.1.size w.1.size _ wr P z.size);have bj:kp.cO.take k=kp.cO:=Qb RM;have aC:=bZ (λ(w':QV) (hB:Below w.1.size wr w')=>show Ending.returned (.string ⟨(dh m.1.1 ⟨kp.dQ,kp.cO.take k⟩).toArray⟩)=.returned (str (dh m.1.1 kp))/\Xb w w' from⟨by rw[bj];rfl,z.trans hB⟩);clear P z V ay bj;go_wp2_with fail;refine a4.Z.mono ?_;rintro e w6⟨rfl,bz⟩;have bE:=aC.Z w6 bz;clear aC a4;go_wp2_with fail;go_ret;exact bE
end
section
open bY
open Tryz
variable{k m:a_}{L:Nat->Prop}{hb p:Nat}{cm:List (a_×cu)}{th:cu}
def mD{α β:Type}(f:α->β):∀{l:List α},(l.map f).Nodup->∀{a b:α},a∈l->b∈l->f a=f b->a=b
 |[],_,_,_,h,_,_=>by simp at h
 |x :: l,e,a,b,n,hb,j=>by
  simp only[Qg,QP]at e;rcases aP.1 n with h1|h1
  ·rcases aP.1 hb with h2|h2
   ·exact h1.trans h2.symm
   exact(e.1 (by rw[<-h1,j];exact aH.2 ⟨b,h2,rfl⟩)).elim
  rcases aP.1 hb with h2|h2
  ·exact(e.1 (by rw[<-h2,<-j];exact aH.2 ⟨a,h1,rfl⟩)).elim
  exact mD f e.2 h1 h2 j
def oS(b:List (a_×(cu×Nat)))(k:a_):bY.cr (b.map λx=>(x.1,x.2.1)) k=(bY.cr b k).map (λx=>x.1) :=jz (λx:a_×(cu×Nat)=>(x.1,x.2.1)) (λ_ x=>x.1) (λ_=>rfl) b k
def uP(b:List (a_×(cu×Nat)))(k:a_):bY.cr (b.map λx=>(x.1,ptr x.2.2)) k=(bY.cr b k).map (λx=>ptr x.2) :=jz (λx:a_×(cu×Nat)=>(x.1,ptr x.2.2)) (λ_ x=>ptr x.2) (λ_=>rfl) b k
def uQ{α:Type}{l:List (a_×α)}{a:α}(b:(l.map (·.1)).Nodup)(h:(k,a)∈l):bY.cr l k=some a:=by
 obtain⟨j,hj⟩:=QZ h;exact kS b hj
def ik.at{w:QV}{L:Nat->Prop}{hb:Nat}{cm:List (a_×cu)}(h:ik w L hb cm){m:a_}{th:cu}(hl:bY.cr cm m=some th):∃p,fc w L th p/\(∀c,m.length<=maxLen->(Instr.lookup 104 (.map (some hb)) (str m) c).run prog w=.ok (if c=true then .tuple #[ptr p,.bool true]else ptr p) w):=by
 obtain⟨j,h1,h2,y,r,B,C⟩:=h;have b:(bY.cr j m).map (λx=>x.1)=some th:=by
  rw[<-hl,h1,oS]
 cases hx:bY.cr j m with
 |none=>rw[hx]at b;cases b
 |some x =>
  rw[hx]at b;have e:x.1=th:=Sy;subst e;have u:=lD hx;refine⟨x.2,r _ u,λc l=>?_⟩;have n:bY.cr (j.map λx=>(x.1,ptr x.2.2)) m=some (ptr x.2):=by
   rw[uP,hx];rfl
  cases c
  ·have:=h2.DK underlying104 l (z:=.pointer none) RO;rw[this,n];rfl
  have:=h2.cr underlying104 l (z:=.pointer none) RO;rw[this,n];rfl
def ik.yY{w:QV}(h:ik w L hb cm)(hl:bY.cr cm m=none)(e:m.length<=maxLen):(Instr.lookup 104 (.map (some hb)) (str m) true).run prog w=.ok (.tuple #[.pointer none,.bool false]) w:=by
 obtain⟨b,h1,h2,l,n,r,u⟩:=h;have hx:bY.cr b m=Option.none:=by
  rw[h1,oS]at hl;cases hx:bY.cr b m with
  |none=>rfl
  |some x=>rw[hx]at hl;cases hl
 have j:bY.cr (b.map λx=>(x.1,ptr x.2.2)) m=Option.none:=by
  rw[uP,hx];rfl
 have:=h2.cr underlying104 e (z:=.pointer Option.none) RO;rw[this,j]
def ik.set{w:QV}(h:ik w L hb cm)(hl:bY.cr cm m=some th)(o v)(j:(o=none/\v=.pointer none)\/∃kp n,o=some kp/\v=ptr n/\jf w L kp n/\th.dc≠none)(O:(Instr.lookup 104 (.map (some hb)) (str m) false).run prog w=.ok (ptr p) w)(M:m.length<=maxLen):ik (w.setCell ⟨p,3,none⟩ v) L hb (bY.di cm m o):=by
 obtain⟨p',ab,aa⟩:=h.at hl;have Z:p'=p:=by
  have:=aa false M;rw[O]at this;simp[ptr]at this;exact this.symm
 subst Z;obtain⟨l,h1,h2,I,R,J,S⟩:=h;obtain⟨v0,r0,k0,K,U,Q,T,h8⟩:=ab;have F:=yL K 3 v;have u:=h2.nodup;rw[P8]at u;have u:(l.map (·.1)).Nodup:=u;have hx:∃x∈l,x.1=m/\x.2.1=th/\x.2.2=p':=by
  have C:(bY.cr l m).map (λx=>x.1)=some th:=by
   rw[<-hl,h1,oS]
  cases hx:bY.cr l m with
  |none=>rw[hx]at C;cases C
  |some x =>
   rw[hx]at C;have e:x.1=th:=by simpa using C
   refine⟨_,lD hx,rfl,e,?_⟩;have X:bY.cr (l.map λx=>(x.1,ptr x.2.2)) m=some (ptr x.2):=by
    rw[uP,hx];rfl
   have:=h2.DK underlying104 M (z:=.pointer none) RO;rw[O,X]at this;simp[ptr]at this;exact this.symm
 obtain⟨x0,P,e1,e2,E⟩:=hx;have D:eH w (w.setCell ⟨p',3,none⟩ v):=F.stay (.inr (.inr (.inr (.inr (.inl rfl)))));have N:K2 L w (w.setCell ⟨p',3,none⟩ v):=λk _ cs t fz hc B=>F.cells hc (λe=>by rcases B with B|B<;>(rw[B]at e;revert e;decide));refine⟨l.map (λx=>if x.1==m then(x.1,({ x.2.1 with kept:=o },x.2.2))else x),?_,?_,?_,?_,?_,S⟩
 ·rw[h1,bY.di,P8,P8];refine Qu (λx _=>?_);simp only[QQ];split<;>rfl
 ·have e:(l.map (λx=>if x.1==m then(x.1,({ x.2.1 with kept:=o },x.2.2))else x)).map (λx=>(x.1,ptr x.2.2))=l.map (λx=>(x.1,ptr x.2.2)):=by
   rw[P8];refine Qu (λx _=>?_);simp only[QQ];split<;>rfl
  rw[e];exact h2.same (F.map h2)
 ·have e:(l.map (λx=>if x.1==m then(x.1,({ x.2.1 with kept:=o },x.2.2))else x)).map (·.2.2)=l.map (·.2.2):=by
   rw[P8];refine Qu (λx _=>?_);simp only[QQ];split<;>rfl
  rw[e];exact I
 ·intro x' G;obtain⟨x,hx,rfl⟩:=aH.1 G;by_cases r:x.1=m
  ·have ad:x=x0:=mD (λy:a_×(cu×Nat)=>y.1) u hx P (r.trans e1.symm);subst ad;rw[ag (by simp[r])];refine⟨v0,r0,v,?_,?_,?_,?_,?_⟩
   ·show(w.setCell _ _).1[x.2.2]?=_;rw[E,kA K 3 v,e2];rfl
   ·show L x.2.2;rw[E];exact U
   ·show x.2.1.came.length<=200;rw[e2];exact Q
   ·show(x.2.1.dc=none/\_)\/_;rw[e2];rcases T with⟨a,b,c,d⟩|⟨t,a,b,c,d,e,f⟩
    ·refine .inl ⟨a,b,c.st D,?_⟩;rcases j with⟨j,_⟩|⟨kp,n,_,_,_,j⟩
     ·exact j
     exact(j a).elim
    exact .inr ⟨t,a,b,c,d,e,f.st D⟩
   rcases j with⟨j,hv⟩|⟨kp,n,j,hv,V,_⟩
   ·exact .inl ⟨j,hv⟩
   exact .inr ⟨kp,n,j,hv,V.st N D⟩
  rw[ae (by simp[r])];have Y:x.2.2≠p':=λe=>r (by
   have:=mD (λy:a_×(cu×Nat)=>y.2.2) I hx P (e.trans E.symm);rw[this];exact e1)
  exact(R x hx).st (UK w ⟨p',3,none⟩ v x.2.2 Y) N D
 intro x' G;obtain⟨x,hx,rfl⟩:=aH.1 G;split
 ·exact J x hx
 exact J x hx
def LP.kept{w:QV}{l:Nat}{s:LS}{db:Nat}{n u vn r:Xa}(h:LP w l s L hb db n u vn r)(hl:bY.cr s.cm m=some th)(o v)(F:(o=none/\v=.pointer none)\/∃kp C,o=some kp/\v=ptr C/\jf w L kp C/\th.dc≠none)(z:(Instr.lookup 104 (.map (some hb)) (str m) false).run prog w=.ok (ptr p) w)(j:m.length<=maxLen):cH w l L { s with cm:=bY.di s.cm m o } (w.setCell ⟨p,3,none⟩ v):=by
 have G:∃cs,w.1[p]?=some (.cells cs 124 (0,0))/\L p:=by
  obtain⟨p',J,I⟩:=h.cm.at hl;have:=I false j;rw[z]at this;simp[ptr]at this;subst this;obtain⟨h1,cs,h2⟩:=J.block;exact⟨cs,h2,h1⟩
 obtain⟨cs,hcs,D⟩:=G;have e:=yL hcs 3 v;have B:LT 124:=.inr (.inr (.inr (.inr (.inl rfl))));have y:LP (w.setCell ⟨p,3,none⟩ v) l { s with cm:=bY.di s.cm m o } L hb db n u vn r:={
  eb:=e.cells h.eb RZ
  here:=h.here
  ne:=h.ne
  cm:=h.cm.set hl o v F z j
  done:=h.done.tn e B
  b_:=iV h.b_ e RZ
  cE:=iV h.cE e RZ
  du:=iV h.du e RZ
  jr:=iV h.jr e RZ
  dK:=h.dK
  apart:=h.apart
  oq:=h.oq
  ct:=uF h.ct e B (λb hb=>by cases hb;exact⟨_,_,kA hcs 3 v⟩) }
 refine⟨L,⟨hb,db,n,u,vn,r,y⟩,λk j=>.inl j,λk j=>j,h.Hw y (ed.grown e.g D) (λk j cs t fz hc E=>e.cells hc (by rcases E with rfl|rfl<;>decide)) ?_⟩;obtain⟨M,N,K,_⟩:=h.cm;exact e.map K
end
section
open bY
open Tryz
variable{b:Nat}{s j:LS}{L:Nat->Prop}
theorem cH.size{w w':QV}(h:cH w b L s w'):w.1.size<=w'.1.size:=by
 obtain⟨_,_,_,_,h⟩:=h;exact h.size
def cH.g{w w':QV}{b:Nat}{s j:LS}{L:Nat->Prop}(h:cH w b L s w')(e:fD w b j L)(g:G w):G w':=by
 obtain⟨_,_,_,_,h⟩:=h;exact DN e h.toed g
def cH.pD{w w':QV}(h:cH w b L s w')(e:fD w b j L)(g:G w)(hd:jI w):jI w':=by
 obtain⟨_,_,_,_,h⟩:=h;exact yV e h.toed g hd
def cH.keeps{w w':QV}(h:cH w b L s w')(e:fD w b j L):cK w w':=by
 obtain⟨_,_,_,_,h⟩:=h;exact xn e h.toed
def cH.then{w w1:QV}{r:LS}(h:cH w b L r w1):∃l,fD w1 b r l/\(∀k,L k->l k)/\∀n w2,cH w1 b l n w2->cH w b L n w2:=by
 obtain⟨l,h1,h2,m,p⟩:=h;refine⟨l,h1,m,λn w2 hx=>?_⟩;obtain⟨u,y,z,B,C⟩:=hx;refine⟨u,y,λk e=>?_,λk e=>B k (m k e),p.trans C h2 m⟩;rcases z k e with e|e
 ·exact h2 k e
 have:=p.size;exact .inr RM
def Ir(w b s L l th)(h:fD w b s L)(g:G w)(hd:jI w)(hl:bY.cr s.cm l.1.1=some th)(P:l.size<=200)(hj:(cW (s.qK l.1.1).jr).length<=140737488355328):Calls prog 114 #[ptr b,.string l] w λe w'=>e=.returned (.tuple #[])/\cH w b L (s.qK l.1.1) w':=by
 obtain⟨hb,db,S,U,vn,T,h⟩:=h;have B:l.1.1.length<=maxLen:=Sd;obtain⟨p,K,D⟩:=h.cm.at hl;have r:=D false B;have C:(Instr.lookup 104 (.map (some hb)) (str l.1.1) false).run prog w=.ok (ptr p) w:=r;have m:=h.kept hl none (.pointer none) (.inl ⟨rfl,rfl⟩) C B;have N:w.cell? ⟨b,0,none⟩=some (.map (some hb)):=by simp[World.cell?,h.eb]
 obtain⟨R,r0,M,n,_⟩:=K;have O:w.cell? ⟨p,3,none⟩=some M:=by simp[World.cell?,n]
 have V:w.frozen? ⟨p,3,none⟩=false:=by simp[World.frozen?,n]
 have hA:fD w b s L:=⟨_,_,_,_,_,_,h⟩;have F:∀L',fD (w.setCell ⟨p,3,none⟩ (.pointer none)) b { s with cm:=bY.di s.cm l.1.1 none } L'->Calls prog 59 #[ptr b,.string (⟨#[108,111,115,101,32]⟩++l)] (w.setCell ⟨p,3,none⟩ (.pointer none)) (λe w'=>e=.returned (.tuple #[])/\cH (w.setCell ⟨p,3,none⟩ (.pointer none)) b L' (s.qK l.1.1) w'):=by
  intro L' h';have u:(⟨#[108,111,115,101,32]⟩++l:ba).1.1=[108,111,115,101,32]++l.1.1:=R2;have Q:(⟨#[108,111,115,101,32]⟩++l:ba).size=5+l.size:=by rw[size_data,u,aj,<-size_data];rfl
  have:=pC _ b { s with cm:=bY.di s.cm l.1.1 none } L' (⟨#[108,111,115,101,32]⟩++l) h' (m.g hA g) (m.pD hA g hd) RM (by rw[u];exact hj);rw[u]at this;exact this
 obtain⟨I,h1,_,E⟩:=m.then;have z:=bZ (F I h1);have y:=bZ (λw'=>E (s.qK l.1.1) w');rw[dF]at r;simp only[Q8,Qn]at r;clear F D C h1 E h hA n m;unfold ptr at *;go_enter func114,ntmps114;go_wp2_with fail;refine z.Z.mono ?_;rintro e w2⟨rfl,hx⟩;have J:=y.Z w2 hx;clear z y hx;go_wp2_with fail
 go_end0
 exact⟨rfl,J⟩
def Iu(w b s L l th kp m)(h:fD w b s L)(g:G w)(hd:jI w)(hl:bY.cr s.cm l.1.1=some th)(aa:th.dc≠none)(B:jf w L kp m)(V:l.size<=200)(hj:(cW (s.keep l.1.1 kp).jr).length<=140737488355328):Calls prog 143 #[ptr b,.string l,ptr m] w λe w'=>e=.returned (.tuple #[])/\cH w b L (s.keep l.1.1 kp) w':=by
 obtain⟨hb,db,vb,vr,vn,vj,h⟩:=h;have K:l.1.1.length<=maxLen:=Sd;obtain⟨p,Y,O⟩:=h.cm.at hl;have C:=O false K;have N:(Instr.lookup 104 (.map (some hb)) (str l.1.1) false).run prog w=.ok (ptr p) w:=C;have n:=h.kept hl (some kp) (ptr m) (.inr ⟨kp,m,rfl,rfl,B,aa⟩) N K;have c0:w.cell? ⟨b,0,none⟩=some (.map (some hb)):=by simp[World.cell?,h.eb]
 obtain⟨v0,r0,k0,u,_⟩:=Y;have c3:w.cell? ⟨p,3,none⟩=some k0:=by simp[World.cell?,u]
 have z3:w.frozen? ⟨p,3,none⟩=false:=by simp[World.frozen?,u]
 have hA:fD w b s L:=⟨_,_,_,_,_,_,h⟩;have D:=yL u 3 (ptr m);have M:jf (w.setCell ⟨p,3,none⟩ (ptr m)) L kp m:=B.st (λk _ cs t fz hc y=>D.cells hc (λe=>by rcases y with y|y<;>(rw[y]at e;revert e;decide))) (D.stay (.inr (.inr (.inr (.inr (.inl rfl))))));have Q:=yX _ L kp m l M (n.g hA g) V;have X:(dh l.1.1 kp).length<=140737488355328:=by
  have:(cW (s.keep l.1.1 kp).jr)=cW s.jr++bY.line (dh l.1.1 kp):=by
   show cW (s.jr++[dh l.1.1 kp])=_;rw[eN]
  rw[this,aj,jB]at hj;omega
 obtain⟨L1,h1,_,P⟩:=n.then;have R:∀w2,Below (w.setCell ⟨p,3,none⟩ (ptr m)).1.size (w.setCell ⟨p,3,none⟩ (ptr m)) w2->Calls prog 59 #[ptr b,str (dh l.1.1 kp)] w2 (λe w'=>e=.returned (.tuple #[])/\cH w b L (s.keep l.1.1 kp) w'):=by
  intro w2 r;have z:=cH.below h1 r;have U:=z.g h1 (n.g hA g);have d2:=z.pD h1 (n.g hA g) (n.pD hA g hd);obtain⟨T,h2,_,Z⟩:=z.then;have:=pC w2 b { s with cm:=bY.di s.cm l.1.1 (some kp) } T ⟨(dh l.1.1 kp).toArray⟩ h2 U d2 (by rw[size_mk];exact X) (by rw[yW];exact hj);rw[yW]at this;refine this.mono ?_;rintro e w'⟨rfl,hx⟩;exact⟨rfl,P _ _ (Z _ _ hx)⟩
 have F:=bZ R;have E:=bZ Q;rw[dF]at C;simp only[Q8,Qn]at C;clear R Q O N h1 P h hA u n B M D;unfold ptr at *;go_enter func143,ntmps143;go_wp2_with fail;refine E.Z.mono ?_;rintro e w2⟨rfl,r⟩;have I:=bZ (F.Z w2 r);clear E F r;go_wp2_with fail;refine I.Z.mono ?_;rintro e w3⟨rfl,J⟩;have S:=bZ J;clear I J;go_wp2_with fail
 go_end0
 exact⟨rfl,S.Z⟩
end
section
open Tryz
def Fu(w k j c y)(hy:y=.nilIface\/∃t a,y=.iface t a)(b)(l:w.cell? ⟨b,0,none⟩=some (.string j)):Calls prog 205 #[.agg #[.string k,.int .i64 c,y],.pointer (some ⟨b,0,none⟩)] w λe w'=>e=.returned (.bool (k.toList==j.toList))/\Xb w w':=by
 have m:b<w.1.size:=by
  rcases Qh b w.1.size with h|h
  ·exact h
  simp[World.cell?,QH h]at l
 have hc:∀o,(w.alloc o).cell? ⟨b,0,none⟩=some (.string j):=λo=>(UF (UE w o b m)).trans l;rcases hy with rfl|⟨t,a,rfl⟩
 all_goals
  go_enter func205,ntmps205;go_wp2_with fail;go_ret;exact⟨rfl,(Uz _ _).alloc (af _) _⟩
def toList_eq(a b:ba):(a.toList==b.toList)=(a.1.1==b.1.1):=by rw[UC,UC]
def pV{α:Type}:∀{l:List (a_×α)} {k:Nat} {n:a_×α},l[k]?=some n->(bY.cr l n.1).isSome=true
 |[],_,_,h=>by simp at h
 |p :: l,0,n,h=>by
  simp at h;subst h;rw[bY.dV,ag rfl];rfl
 |p :: l,k+1,n,h=>by
  simp at h;rw[bY.dV];split
  ·rfl
  exact pV h
def wI(w ns sl b m)(h:ee w ns sl)(hn:ns.length<=1000)(G:w.cell? ⟨m,0,none⟩=some (.string b)):Calls prog 252 #[sl,.func (.func 205) #[] #[.pointer (some ⟨m,0,none⟩)]] w λe w'=>(∃j:Int,e=.returned (.int .i64 j)/\decide (0<=j)=(bY.cr ns b.1.1).isSome)/\Xb w w':=by
 obtain⟨o,Z,rfl,hcell⟩:=h.cell;have U:m<w.1.size:=by
  rcases Qh m w.1.size with h|h
  ·exact h
  simp[World.cell?,QH h]at G
 have J:=bZ hcell;clear hcell h;go_enter func252,ntmps252;go_wp2_with fail
 go_loopw [8] (λi wr=>∃k:Nat,k<=ns.length/\i=.int .i64 k/\(∀j,j<k->∀n,ns[j]?=some n->n.1≠b.1.1)/\Xb w wr) (λi _=>ns.length-(intOf i).toNat)
 case atStart=>exact⟨0,au _,rfl,λj hj=>by omega,Uz _ _⟩
 case round =>
  obtain⟨k,hk,rfl,B,l⟩:=hrel;by_cases V:k<ns.length
  ·obtain⟨nd,I⟩:∃nd,ns[k]?=some nd:=⟨_,aq V⟩;obtain⟨u,Y,P,rfl,E,aa,e0,e1,e2,M⟩:=J.Z k nd I;have f0:wr.cell? ⟨u,k*3,none⟩=some (str nd.1):=(l.cell (p:=⟨u,k*3,none⟩) E).trans e0;have f1:wr.cell? ⟨u,k*3+1,none⟩=some Y:=(l.cell (p:=⟨u,k*3+1,none⟩) E).trans e1;have f2:wr.cell? ⟨u,k*3+2,none⟩=some P:=(l.cell (p:=⟨u,k*3+2,none⟩) E).trans e2;have L:wr.cell? ⟨m,0,none⟩=some (.string b):=(l.cell (p:=⟨m,0,none⟩) U).trans G;obtain⟨S,yn,T,O⟩:=M.form;cases T;unfold str at f0;have r:=bZ (Fu wr ⟨nd.1.toArray⟩ b S P O m L);have z:=toList_eq ⟨nd.1.toArray⟩ b;rw[yW]at z;have K:=bZ I;have R:=bZ B;clear e0 e1 e2 M I B L G;rcases O with rfl|⟨tn,an,rfl⟩
   all_goals
    by_cases y:nd.1=b.1.1
    ·have hb:((⟨nd.1.toArray⟩:ba).toList==b.toList)=true:=by rw[z];simp[y]
     rw[hb]at r;have C:=bZ y;clear z hb y;go_wp2_with fail;refine r.Z.mono ?_;rintro e w3⟨rfl,D⟩;clear r;go_wp2_with fail;go_ret;refine⟨⟨(k:Int),rfl,?_⟩,l.trans (D.mono l.size)⟩;rw[<-C.Z,pV K.Z];simp
    have hb:((⟨nd.1.toArray⟩:ba).toList==b.toList)=false:=by rw[z];simpa using y
    rw[hb]at r;have C:=bZ y;clear z hb y;go_wp2_with fail;refine r.Z.mono ?_;rintro e w3⟨rfl,D⟩;clear r;go_wp2_with fail;refine⟨⟨_,_,_,_,_,_,_,_,_,_,_,_,_,?_,rfl⟩,?_⟩
    ·refine⟨k+1,by omega,by go_num,λj hj n F=>?_,l.trans (D.mono l.size)⟩;rcases(by omega:j<k\/j=k)with hj|rfl
     ·exact R.Z j hj n F
     rw[K.Z]at F;cases F;exact C.Z
    simp[intOf];omega
  have N:bY.cr ns b.1.1=none:=bY.jm.2 (λp X e=>by
   obtain⟨j,hj⟩:=QZ X;have:=(az.1 hj).1;exact B j RM p hj e)
  have Q:=bZ N;clear B N J;go_wp2_with fail;go_ret;refine⟨⟨-1,rfl,?_⟩,l⟩;rw[Q.Z];rfl
def rX(w ns sl l n)(h:ee w ns sl)(u:ns.length<=1000)(p:w.cell? ⟨n,0,none⟩=some (.string l)):Calls prog 204 #[sl,.func (.func 205) #[] #[.pointer (some ⟨n,0,none⟩)]] w λe w'=>e=.returned (.bool (bY.cr ns l.1.1).isSome)/\Xb w w':=by
 obtain⟨o,y,rfl,_⟩:=h.cell;have m:=bZ (wI w ns _ l n h u p);clear h p;generalize (bY.cr ns l.1.1).isSome=b at m;go_enter func204,ntmps204;go_wp2_with fail;refine m.Z.mono ?_;rintro e w1⟨⟨j,rfl,hj⟩,r⟩;clear m;subst hj;go_wp2_with fail;go_ret;exact⟨rfl,r⟩
end
