/- Out of R1b. -/
import Derived.Test.YtpekpdimdelncaaGreatDoorP08
import Derived.BigQuiet
set_option maxRecDepth 100000
set_option maxHeartbeats 4000000
set_option linter.defProp false
namespace Go.Proofs.YtpekpdimdelncaaGreatDoor
open Go.RowKit
section
open bY
open Tryz
namespace Ref
variable{l:a_}{k m:Nat}
def gK:Option Nat->Xb
 |some n=>.tuple #[.int .i64 (n:Int),.bool true]
 |none=>.tuple #[.int .i64 0,.bool false]
def sW(l:a_)(k m:Nat):Prop:=m<=9223372036854775807/\iU (l.drop k) m=dO l
def H9(h:sW l k m)(b:k<l.length)(hd:dH l[k]=false):dO l=none:=by
 rw[<-h.2,aU b,iU,ae (by rw[hd];simp)]
def CD(h:sW l k m)(b:k<l.length)(hd:dH l[k]=true)(e:(9223372036854775807-(l[k].toNat-48)) / 10<m):dO l=none:=by
 rw[<-h.2,aU b,iU,ag hd,ag e]
def CF(h:sW l k m)(b:k<l.length)(hd:dH l[k]=true)(e:¬(9223372036854775807-(l[k].toNat-48)) / 10<m):sW l (k+1) (10*m+(l[k].toNat-48)):=by
 have j:=oW hd;refine⟨by omega,?_⟩;rw[<-h.2,aU b,iU,ag hd,ae e]
def FA(h:sW l k m)(b:l.length<=k):dO l=some m:=by
 rw[<-h.2,aT b];rfl
def FC(m c:Int)(b:48<=c)(h1:c<=57)(e:0<=m)(j:¬(9223372036854775807-(c-48)) / 10<m):0<=10*m+(c-48)/\10*m<=9223372036854775807/\10*m+(c-48)<=9223372036854775807:=R5
def FD(m c)(h:48<=c):((10*m+(c-48):Nat):Int)=10*m+(c-48):=R5
def xF(m c:Nat)(h:48<=c)(h1:c<=57):((9223372036854775807-(c-48)) / 10<m)↔((9223372036854775807-(c-48)) / 10<(m:Int)):=R5
def qN(s w)(R:s.size<=20000000)(M:0<s.size)(Q:s.toList.isEmpty=false)(b:((s[0].toNat:Int)==48)=false\/((s[0].toNat:Int)==48)=true/\¬(1)<(s.size:Int))(F:sW s.1.1 0 0):Calls prog 231 #[.string s] w λe L=>e=.returned (gK (dO s.1.1))/\w=L:=by
 rcases b with b|⟨b,S⟩
 all_goals
  have C:=bZ F;clear F;go_enter func231,ntmps231;go_wp2_with fail
  go_loop [4,5] (λn i=>∃k m:Nat,i=.int .i64 k/\n=.int .i64 m/\k<=s.size/\sW s.1.1 k m) (λ_ i=>s.size-(intOf i).toNat)
  case atStart=>exact⟨0,0,rfl,rfl,ar _,C.Z⟩
  case round =>
   clear C;obtain⟨k,m,rfl,rfl,O,j⟩:=hrel;by_cases E:k<s.size
   ·have GE:=bZ (dM s k E);have y:k<s.1.1.length:=by simpa using E
    by_cases p:dH s[k]=true
    ·have b:=oW p;have r:dH (s.1.1[k])=true:=by rw[<-GE.Z];exact p
     have J:48<=(s[k].toNat:Int):=R5;have K:(s[k].toNat:Int)<=57:=R5;by_cases B:(9223372036854775807-((s[k].toNat:Int)-48)) / 10<(m:Int)
     ·have u:=bZ (CD j y r (by rw[<-GE.Z];exact(xF m _ b.1 b.2).2 B));clear j p b r;go_wp2;go_ret2;exact⟨by rw[u.Z];rfl,rfl⟩
     have z:=CF j y r (by rw[<-GE.Z];exact λh=>B ((xF m _ b.1 b.2).1 h));rw[<-GE.Z]at z;have I:=bZ z;have G:=bZ (FD m s[k].toNat b.1);obtain⟨T,U,V⟩:=FC m s[k].toNat J K R5 B;clear j p b r z;go_wp2;refine⟨⟨k+1,10*m+(s[k].toNat-48),by go_num,by rw[G.Z],by omega,I.Z⟩,by simp[intOf];omega⟩
    have D:dH (s.1.1[k])=false:=by rw[<-GE.Z];simpa using p
    have u:=bZ (H9 j y D);have r:(s[k].toNat:Int)<48\/57<(s[k].toNat:Int):=by
     simp[dH,wZ]at p;omega
    clear j p D;by_cases P:(s[k].toNat:Int)<48
    ·clear r;go_wp2;go_ret2;exact⟨by rw[u.Z];rfl,rfl⟩
    have N:57<(s[k].toNat:Int):=R5;clear r;go_wp2;go_ret2;exact⟨by rw[u.Z];rfl,rfl⟩
   have u:=bZ (FA j Tc);clear j;go_wp2;go_ret2;exact⟨by rw[u.Z];rfl,rfl⟩
def eJ(s w)(F:s.size<=20000000):Calls prog 231 #[.string s] w λe J=>e=.returned (gK (dO s.1.1))/\w=J:=by
 by_cases n:s.1.1=[]
 ·have j:dO s.1.1=none:=by rw[dO,ag (Or.inl n)]
  have M:s.toList.isEmpty=true:=by rw[VP,n];rfl
  have y:=bZ j;clear j n;go_enter func231,ntmps231;go_wp2;go_ret2;exact⟨by rw[y.Z];rfl,rfl⟩
 obtain⟨c,r,b⟩:∃c r,s.1.1=c::r:=by
  cases b:s.1.1 with
  |nil=>exact absurd b n
  |cons c r=>exact⟨c,r,rfl⟩
 have I:s.size=r.length+1:=by rw[VO,b];rfl
 have z:0<s.size:=R5;have u:s[0]=c:=by rw[dM s 0 z];simp[b]
 have E:s.toList.isEmpty=false:=by rw[VP,b];rfl
 by_cases p:c=48/\1<s.size
 ·have j:dO s.1.1=none:=by
   rw[dO,ag];right;rw[b];exact⟨by rw[p.1];rfl,by simp;omega⟩
  have L:((s[0].toNat:Int)==48)=true:=by rw[u,p.1];rfl
  have N:(1:Int)<(s.size:Int):=R5;have y:=bZ j;clear j b p u I n;go_enter func231,ntmps231;go_wp2;go_ret2;exact⟨by rw[y.Z];rfl,rfl⟩
 have j:sW s.1.1 0 0:=by
  refine⟨ar _,?_⟩;rw[dO,ae,aW];rintro(e|⟨C,D⟩)
  ·rw[b]at e;cases e
  rw[b]at C D;have G:c=48:=by simpa using C
  have K:1<r.length+1:=D;exact p ⟨G,by omega⟩
 by_cases B:c=48
 ·exact qN s w F z E (.inr ⟨by rw[u,B];rfl,λh=>p ⟨B,by omega⟩⟩) j
 refine qN s w F z E (.inl ?_) j;rw[u,az];intro e;exact B (Rp.1 (by show c.toNat=48;omega))
end Ref
namespace Ref
variable{l:a_}{k:Nat}
theorem FE(s w):Calls prog 150 #[.string s] w λe b=>e=.returned (.bool (ib s.1.1))/\w=b:=by
 go_enter func150,ntmps150;go_wp2
 all_goals first
  |(exfalso;simp_all;done)
  |(go_ret;exact⟨by rw[<-VP];simp[ib, *],rfl⟩)
def sX(c:UInt8):Bool:=fW c&&!(c==39)
def l_(l:a_)(k:Nat):Bool:=((l.drop k).take (l.length-1-k)).all sX
def dU(l:a_):Bool:=decide (2<=l.length/\l.length<=32/\l.head?=some 39/\l.getLast?=some 39)&&l_ l 1
def FF(h:l.length-1<=k):l_ l k=true:=by
 unfold l_;rw[show l.length-1-k=0 by omega];rfl
def CG(h:k<l.length-1):l_ l k=(sX (l[k]' R5)&&l_ l (k+1)):=by
 unfold l_;rw[aU (show k<l.length by omega),show l.length-1-k=(l.length-1-(k+1))+1 by omega,Q9,RL]
theorem uz(h:¬(2<=l.length/\l.length<=32/\l.head?=some 39/\l.getLast?=some 39)):dU l=false:=by
 grind [dU]
theorem FG(s w)(B:s.size<=20000000)(h:¬(2<=s.size/\s.size<=32/\s.1.1.head?=some 39/\s.1.1.getLast?=some 39)):Calls prog 144 #[.string s] w λe r=>e=.returned (.bool false)/\w=r:=by
 by_cases h1:s.size<2
 ·clear h;go_enter func144,ntmps144;go_wp2;go_ret;exact⟨rfl,rfl⟩
 by_cases h2:32<s.size
 ·clear h;go_enter func144,ntmps144;go_wp2;go_ret;exact⟨rfl,rfl⟩
 have j:0<s.size:=R5;have p:s.size-1<s.size:=R5;have n:s.1.1.head?=some s[0]:=by
  rw[dM s 0 j,RZ,aq T1]
 have m:s.1.1.getLast?=some s[s.size-1]:=by
  rw[dM s _ p,SJ,aq Tc];simp
 by_cases b:((s[0].toNat:Int)==39)=true
 ·have z:((s[s.size-1].toNat:Int) != 39)=true:=by
   rw[Q5];intro e;apply h;refine⟨by omega,by omega,?_,?_⟩
   ·rw[n];congr 1;exact Rp.1 (by have:=eq_of_beq b;show s[0].toNat=39;omega)
   rw[m];congr 1;exact Rp.1 (by show s[s.size-1].toNat=39;omega)
  have y:((s[0].toNat:Int) != 39)=false:=by rw[eq_of_beq b];rfl
  go_enter func144,ntmps144;go_wp2;go_ret;exact⟨rfl,rfl⟩
 have u:((s[0].toNat:Int) != 39)=true:=by rw[Q5];simpa using b
 go_enter func144,ntmps144;go_wp2;go_ret;exact⟨rfl,rfl⟩
theorem CH(s w)(h1:2<=s.size)(h2:s.size<=32)(z:s.1.1.head?=some 39)(B:s.1.1.getLast?=some 39):Calls prog 144 #[.string s] w λe K=>e=.returned (.bool (l_ s.1.1 1))/\w=K:=by
 have y:0<s.size:=R5;have F:s.size-1<s.size:=R5;have E:s.1.1.head?=some s[0]:=by
  rw[dM s 0 y,RZ,aq (by simpa using y)]
 have D:s.1.1.getLast?=some s[s.size-1]:=by
  rw[dM s (s.size-1) F,SJ,aq Tc];simp
 have L:s[0]=39:=by rw[E]at z;exact aB z
 have M:s[s.size-1]=39:=by rw[D]at B;exact aB B
 go_enter func144,ntmps144;go_wp2_with fail
 go_loop [3] (λi=>∃k:Nat,i=.int .i64 k/\1<=k/\k<=s.size/\Hid (l_ s.1.1 k=l_ s.1.1 1)) (λi=>s.size-(intOf i).toNat)
 case atStart=>exact⟨1,rfl,af _,by omega,rfl⟩
 case round =>
  obtain⟨k,rfl,Q,R,n⟩:=hrel;by_cases G:k<s.size-1
  ·have I:k<s.size:=R5;have J:(k:Int)<(s.size:Int)-1:=R5;have GE:=bZ (dM s k I);have j:=n.Z;rw[CG (by rw[<-VO];exact G),<-GE.Z]at j;by_cases p:sX s[k]=true
   ·rw[p,Ru]at j;have u:(32<=(s[k].toNat:Int)/\(s[k].toNat:Int)<=126)/\¬s[k]=39:=by simpa[sX,fW]using p
    obtain⟨⟨N,O⟩,C⟩:=u;have P:((s[k].toNat:Int)==39)=false:=by
     rw[az];intro e;exact C (Rp.1 (by show s[k].toNat=39;omega))
    have m:=bZ j;go_wp2;exact⟨⟨k+1,by go_num,by omega,by omega,m⟩,by simp[intOf];omega⟩
   have r:sX s[k]=false:=Tw;rw[r,RS]at j;have m:=bZ j;have u:(s[k].toNat:Int)<32\/(¬(s[k].toNat:Int)<32/\126<(s[k].toNat:Int))\/(¬(s[k].toNat:Int)<32/\¬126<(s[k].toNat:Int)/\((s[k].toNat:Int)==39)=true):=by
    by_cases a:(s[k].toNat:Int)<32
    ·exact Or.inl a
    by_cases b:126<(s[k].toNat:Int)
    ·exact Or.inr (Or.inl ⟨a,b⟩)
    refine Or.inr (Or.inr ⟨a,b,?_⟩);have:s[k]=39:=by
     simp only[sX,fW,Bool.and_eq_false_iff,decide_eq_false_iff_not,Bool.not_eq_false',Rd]at r;rcases r with(x|x)|x
     ·omega
     ·omega
     exact x
    rw[this];rfl
   clear j n p r;rcases u with a|⟨a,b⟩|⟨a,b,c⟩
   all_goals
    go_wp2;go_ret;exact⟨ik m.Z,rfl⟩
  have J:¬(k:Int)<(s.size:Int)-1:=R5;have j:=n.Z;rw[FF (by rw[<-VO];omega)]at j;have m:=bZ j;clear j n;go_wp2;go_ret;exact⟨ik m.Z,rfl⟩
theorem eR(s w)(j:s.size<=20000000):Calls prog 144 #[.string s] w λe b=>e=.returned (.bool (dU s.1.1))/\w=b:=by
 by_cases h:2<=s.size/\s.size<=32/\s.1.1.head?=some 39/\s.1.1.getLast?=some 39
 ·have e:dU s.1.1=l_ s.1.1 1:=by
   unfold dU;rw[aQ TP];rfl
  grind [CH]
 rw[uz TP]
 grind [FG]
end Ref
namespace Ref
variable{l:a_}{k:Nat}{c:UInt8}
def ou(l:a_)(k:Nat):Bool:=(l.drop k).all eM
def jF(l:a_):Bool:=decide (1<=l.length/\l.length<=8/\l.head?.map eE=some true)&&(ou l 0&&!ib l)
theorem FH(h:l.length<=k):ou l k=true:=by
 grind [ou,List.drop_eq_nil_of_le]
def CI(h:k<l.length):ou l k=(eM l[k]&&ou l (k+1)):=by
 unfold ou;rw[aU h,RL]
theorem mD:eE c=true↔97<=(c.toNat:Int)/\(c.toNat:Int)<=122:=by
 simp[eE,Ao]
theorem ko:dH c=true↔48<=(c.toNat:Int)/\(c.toNat:Int)<=57:=by
 simp[dH,wZ]
def qO(c):eM c=(eE c||dH c):=rfl
theorem FI(s w)(z:s.size<=20000000)(h:¬(1<=s.size/\s.size<=8/\s.1.1.head?.map eE=some true)):Calls prog 108 #[.string s] w λe n=>e=.returned (.bool false)/\w=n:=by
 by_cases h1:s.size<1
 ·have u:(s.size:Int)<1:=R5;go_enter func108,ntmps108;go_wp2;go_ret;exact⟨rfl,rfl⟩
 by_cases h2:8<s.size
 ·have y:8<(s.size:Int):=R5;go_enter func108,ntmps108;go_wp2;go_ret;exact⟨rfl,rfl⟩
 have b:0<s.size:=R5;have j:s.1.1.head?=some s[0]:=by
  rw[dM s 0 b,RZ,aq TB]
 have m:¬eE s[0]=true:=λe=>h ⟨by omega,by omega,by rw[j,R0,e]⟩;rw[mD]at m;by_cases p:(s[0].toNat:Int)<97
 ·clear h j m;go_enter func108,ntmps108;go_wp2;go_ret;exact⟨rfl,rfl⟩
 have r:122<(s[0].toNat:Int):=R5;go_enter func108,ntmps108;go_wp2;go_ret;exact⟨rfl,rfl⟩
theorem CJ(s w)(h1:1<=s.size)(h2:s.size<=8)(D:s.1.1.head?.map eE=some true):Calls prog 108 #[.string s] w λe I=>e=.returned (.bool (ou s.1.1 0&&!ib s.1.1))/\w=I:=by
 have z:0<s.size:=R5;have K:s.1.1.head?=some s[0]:=by
  rw[dM s 0 z,RZ,aq Uc]
 have y:eE s[0]=true:=by rw[K]at D;exact aB D
 rw[mD]at y;obtain⟨P,Q⟩:=y;go_enter func108,ntmps108;go_wp2_with fail
 go_loop [3] (λi=>∃k:Nat,i=.int .i64 k/\k<=s.size/\Hid (ou s.1.1 k=ou s.1.1 0)) (λi=>s.size-(intOf i).toNat)
 case atStart=>exact⟨0,rfl,ar _,rfl⟩
 case round =>
  obtain⟨k,rfl,R,u⟩:=hrel;by_cases E:k<s.size
  ·have L:(k:Int)<(s.size:Int):=R5;have GE:=bZ (dM s k E);have b:=u.Z;rw[CI (by rw[<-VO];exact E),<-GE.Z,qO]at b;by_cases p:eE s[k]=true
   ·rw[p,Bool.true_or,Ru]at b;obtain⟨N,O⟩:=mD.1 p;have b2:¬(s[k].toNat:Int)<=57:=R5;have b1:48<=(s[k].toNat:Int):=R5;have j:=bZ b;go_wp2;exact⟨⟨k+1,by go_num,by omega,j⟩,by simp[intOf];omega⟩
   have B:eE s[k]=false:=Tw;rw[B,Sr]at b;have F:=λh=>p (mD.2 h);by_cases r:dH s[k]=true
   ·rw[r,Ru]at b;obtain⟨b1,b2⟩:=ko.1 r;have j:=bZ b;go_wp2;exact⟨⟨k+1,by go_num,by omega,j⟩,by simp[intOf];omega⟩
   have C:dH s[k]=false:=Ua;rw[C,RS]at b;have G:=λh=>r (ko.2 h);have j:=bZ b;have J:(97<=(s[k].toNat:Int)/\¬(s[k].toNat:Int)<=122/\48<=(s[k].toNat:Int)/\¬(s[k].toNat:Int)<=57)\/(¬97<=(s[k].toNat:Int)/\48<=(s[k].toNat:Int)/\¬(s[k].toNat:Int)<=57)\/(¬97<=(s[k].toNat:Int)/\¬48<=(s[k].toNat:Int)):=by
    by_cases m:97<=(s[k].toNat:Int)
    ·exact Or.inl ⟨m,λh=>F ⟨m,h⟩,by omega,by omega⟩
    by_cases n:48<=(s[k].toNat:Int)
    ·exact Or.inr (Or.inl ⟨m,n,λh=>G ⟨n,h⟩⟩)
    exact Or.inr (Or.inr ⟨m,n⟩)
   clear b u p B r C F G;rcases J with⟨m,n,M,S⟩|⟨m,n,M⟩|⟨m,n⟩
   all_goals
    go_wp2;go_ret;exact⟨ik (by rw[<-j.Z];rfl),rfl⟩
  have L:¬(k:Int)<(s.size:Int):=R5;have b:=u.Z;rw[FH (by rw[<-VO];omega)]at b;have j:=bZ b;go_wp2_with(go_at_call 150;refine(FE _ _).mono ?_;rintro e I ⟨rfl,rfl⟩);go_ret;exact⟨ik (by rw[<-j.Z];rfl),rfl⟩
theorem dT(s w)(j:s.size<=20000000):Calls prog 108 #[.string s] w λe b=>e=.returned (.bool (jF s.1.1))/\w=b:=by
 by_cases h:1<=s.size/\s.size<=8/\s.1.1.head?.map eE=some true
 ·have e:jF s.1.1=(ou s.1.1 0&&!ib s.1.1):=by
   unfold jF;rw[aQ TP];rfl
  grind [CJ]
 have e:jF s.1.1=false:=by
  unfold jF;rw[aN TP];rfl
 grind [FI]
end Ref
end
section
open bY
namespace Ref
variable{l:a_}{k:Nat}
def CK:∀n m r,m<n->(h:m<r.length)->(∀j (B:j<m),r[j]' R5≠39)->r[m]=39->eN n r=if(r.take m).all fW=true then some m else none:=by
 intro n
 induction n with
 |zero=>intro m r h;omega
 |succ n E =>
  intro m r F p u e;cases r with
  |nil=>simp at p
  |cons c t =>
   cases m with
   |zero =>
    have:c=39:=e;simp[eN,this]
   |succ m =>
    have z:c≠39:=u 0 R5;have C:=E m t R5 Tw (λj B=>u (j+1) R5) e;have y:((c::t).take (m+1)).all fW=(fW c&&(t.take m).all fW):=by rw[Q9,RL]
    have eq:eN (n+1) (c::t)=if c=39 then some 0 else if fW c=true then(eN n t).map _ else none:=rfl
    rw[y,eq,ae z];by_cases b:fW c=true
    ·rw[ag b,C,b,Ru];split<;>rfl
    have D:fW c=false:=TB;rw[ae b,D,RS];rfl
def Ay:∀n r,(∀j (h:j<r.length),j<n->r[j]≠39)->eN n r=none:=by
 intro n
 induction n with
 |zero=>intro r _;rfl
 |succ n p =>
  intro r b;cases r with
  |nil=>rfl
  |cons c t =>
   have e:c≠39:=b 0 S5 R5;have m:=p t (λj h u=>b (j+1) Ts R5);simp only[eN,e,Ry,m];split<;>rfl
def Py(l:a_)(k:Nat):Prop:=∀j (h:j<l.length),1<=j->j<k->l[j]≠39
theorem El(e:l.head?=some 39)(h:Py l k)(h1:1<=k)(D:k<l.length)(I:k<32)(u:l[k]=39):dS l=if dU (l.take (k+1))=true then some (k-1)else none:=by
 obtain⟨r,rfl⟩:∃r,l=39::r:=by
  cases l with
  |nil=>simp at e
  |cons c r=>simp at e;exact⟨r,by rw[e]⟩
 obtain⟨m,rfl⟩:∃m,k=m+1:=⟨k-1,by omega⟩;have y:m<r.length:=by simpa using D
 have z:∀j (n:j<m),r[j]' R5≠39:=λj n=>h (j+1) Tc R5 R5;have F:=CK 31 m r R5 y z u;have B:dS (39::r)=eN 31 r:=by simp[dS]
 have hlen:((39::r).take (m+1+1)).length=m+2:=Tc;have E:((39::r).take (m+1+1)).getLast?=some 39:=by
  rw[SJ,hlen,S2];rw[ag R5,show m+2-1=m+1 by omega,List.getElem?_cons_succ,aq y];exact congrArg some u
 have G:l_ ((39::r).take (m+1+1)) 1=(r.take m).all fW:=by
  unfold l_;rw[hlen,Q9,List.drop_one,List.tail_cons,SK,show m+2-1-1=m by omega,show min m _=m by omega];apply R6.2;rw[Rk,Rk];constructor
  ·intro hx c b;have:=hx c b;simp[sX]at this;exact this.1
  intro hx c b;have p:=hx c b;obtain⟨j,n,rfl⟩:=R7 b;have C:j<m:=by simp at n;omega
  have:=z j C;simp only[sX,p,Ru,Bool.not_eq_true',az];simpa using this
 have p:dU ((39::r).take (m+1+1))=(r.take m).all fW:=by
  unfold dU;rw[aQ ⟨by rw[hlen];omega,by rw[hlen];omega,by rw[Q9];rfl,E⟩,Ru,G]
 rw[B,F,p];rfl
def Em(b:l.head?=some 39)(h:Py l k)(n:l.length<=k\/32<=k):dS l=none:=by
 obtain⟨r,rfl⟩:∃r,l=39::r:=by
  cases l with
  |nil=>simp at b
  |cons c r=>simp at b;exact⟨r,by rw[b]⟩
 have e:dS (39::r)=eN 31 r:=by simp[dS]
 rw[e];apply Ay;intro j m p;exact h (j+1) (by simpa using m) R5 (by simp at n;omega)
def fD(l:a_):Nat :=match dS l with
 |some n=>n+2
 |none=>0
def CL(s w)(P:s.size<=1000)(G:s.1.1.head?=some 39):Calls Tryz.prog 102 #[.string s] w λe y=>e=.returned (.int .i64 (fD s.1.1))/\w=y:=by
 have r:=bZ G;go_enter Tryz.func102,Tryz.ntmps102;go_wp2_with fail
 go_loop [3] (λi=>∃k:Nat,i=.int .i64 k/\1<=k/\k<=32/\Hid (Py s.1.1 k)) (λi=>32-(intOf i).toNat)
 case atStart=>exact⟨1,rfl,af _,by omega,λj h h1 h2=>by omega⟩
 case round =>
  obtain⟨k,rfl,J,N,n⟩:=hrel;by_cases B:k<s.size
  ·have L:(k:Int)<(s.size:Int):=R5;by_cases E:k<32
   ·have F:(k:Int)<32:=R5;have GE:=bZ (dM s k B);have K:k<s.1.1.length:=by simpa using B
    by_cases p:((s[k].toNat:Int)==39)=true
    ·have D:s.1.1[k]=39:=by rw[<-GE.Z];exact Rp.1 (by have:=eq_of_beq p;show s[k].toNat=39;omega)
     have hx:=El r.Z n.Z J K E D;have u:=eR (s.extract 0 (k+1)) w (by have:=mL s 0 (k+1);omega);rw[VV,aW,Sn]at u;generalize dU _=b at hx u;have m:=bZ hx;have z:=bZ u;cases b
     ·go_wp2_with fail;refine z.Z.mono ?_;rintro e y⟨rfl,rfl⟩;go_wp2;go_ret;exact⟨by unfold fD;rw[m.Z];rfl,rfl⟩
     go_wp2_with fail;refine z.Z.mono ?_;rintro e y⟨rfl,rfl⟩;go_wp2;go_ret;refine⟨?_,rfl⟩;unfold fD;rw[m.Z];show Ending.returned (.int .i64 ((k:Int)+1))=.returned (.int .i64 ((k-1+2:Nat):Int));rw[show(((k-1+2:Nat)):Int)=(k:Int)+1 by omega]
    have O:((s[k].toNat:Int)==39)=false:=Tw;have M:Py _ (k+1):=λj h h1 h2=>by
     by_cases I:j<k
     ·exact n.Z j h h1 I
     have:j=k:=R5;subst this;rw[<-GE.Z];intro e;rw[e]at p;exact p rfl
    have C:=bZ M;go_wp2;exact⟨⟨k+1,by go_num,by omega,by omega,C⟩,by simp[intOf];omega⟩
   have F:¬(k:Int)<32:=R5;have m:=bZ (Em r.Z n.Z (Or.inr R5));go_wp2;go_ret;exact⟨by unfold fD;rw[m.Z];rfl,rfl⟩
  have L:¬(k:Int)<(s.size:Int):=R5;have m:=bZ (Em r.Z n.Z (Or.inl Tc));go_wp2;go_ret;exact⟨by unfold fD;rw[m.Z];rfl,rfl⟩
end Ref
namespace Ref
variable{c:UInt8}{t x:a_}
def jD:a_->Nat
 |[]=>0
 |c::r=>if c=39 then max (fD (c::r)) 1 else if eE c=true then dJ eM (c::r)else if dH c=true then dJ dH (c::r)else 1
def Az(p):∀l:a_,∀c∈l.take (dJ p l),p c=true:=by
 intro l
 induction l with
 |nil=>intro c b;simp at b
 |cons d r e =>
  intro c b;simp only[dJ]at b;split at b
  ·rename_i hd;rw[Q9]at b;rcases aK.1 b with rfl|b
   ·exact hd
   exact e c b
  simp at b
theorem jZ(p c r)(h:p c=true):∃t,(c::r).take (dJ p (c::r))=c::t:=by
 simp only[dJ,h,aO,Q9]
 grind
theorem iJ(h:dH c=false):dO (c::t)=none:=by
 grind [dO,iU]
theorem iV(h:c≠39):dU (c::t)=false:=by
 grind [uz]
theorem ny(h:eE c=false):jF (c::t)=false:=by
 grind [jF]
def AA(h:eE c=true\/dH c=true):c≠39:=by
 rintro rfl;rcases h with h|h<;>revert h<;>decide
theorem ma(h:eE c=true):dH c=false:=by
 grind [mD,ko]
theorem rU(c r):(dH c=true/\jD (c::r)=dJ dH (c::r)/\bY.tok (c::r)=if(d_ ((c::r).take (dJ dH (c::r)))).isSome then(2,dJ dH (c::r)) else(1,0)) \/(eE c=true/\jD (c::r)=dJ eM (c::r)/\bY.tok (c::r)=if ib ((c::r).take (dJ eM (c::r)))=true then(5,dJ eM (c::r))else if 8<dJ eM (c::r) then(1,0) else(4,dJ eM (c::r))) \/(c=39/\jD (c::r)=max (fD (c::r)) 1/\bY.tok (c::r)=fh (dS (c::r))) \/(dH c=false/\eE c=false/\c≠39/\jD (c::r)=1/\bY.tok (c::r)=if jy c=true then(6,1) else(1,0)):=by
 have e:=gy (c::r) c r rfl;have b:jD (c::r)=if c=39 then max (fD (c::r)) 1 else if eE c=true then dJ eM (c::r)else if dH c=true then dJ dH (c::r)else 1:=rfl
 by_cases h1:dH c=true
 ·refine Or.inl ⟨h1,?_,by rw[e,ag h1]⟩;have j:¬eE c=true:=λh=>by rw[ma h]at h1;cases h1
  rw[b,ae (AA (Or.inr h1)),ae j,ag h1]
 by_cases h2:eE c=true
 ·refine Or.inr (Or.inl ⟨h2,?_,by rw[e,ae h1,ag h2]⟩);rw[b,ae (AA (Or.inl h2)),ag h2]
 grind
def k_(l)(h:2<=(bY.tok l).1):jD l=(bY.tok l).2:=by
 cases l with
 |nil=>simp[bY.tok]at h
 |cons c r =>
  rcases rU c r with⟨_,h2,b⟩|⟨_,h2,b⟩|⟨_,h2,b⟩|⟨_,_,_,h2,b⟩
  ·rw[b]at h ⊢;split at h
   ·rename_i hx;rw[ag hx,h2]
   simp at h
  ·rw[b]at h ⊢;split at h
   ·rename_i hx;rw[ag hx,h2]
   rename_i hx;rw[ae hx];split at h
   ·simp at h
   rename_i j;rw[ae j,h2]
  ·rw[b]at h ⊢;rw[h2];unfold fD;cases e:dS (c::r) with
   |none=>rw[e]at h;simp[fh]at h
   |some n=>simp[fh]
  rw[b]at h ⊢;split at h
  ·rename_i hx;rw[ag hx,h2]
  simp at h
def known(x:a_):Bool:=ib x||(match x with
 |[c]=>jy c
 |_=>false)
theorem xG(h:ib x=true):∃c t,x=c::t/\eE c=true:=by
 simp only[ib,Rv,Rd]at h;rcases h with(((((((((((h|h)|h)|h)|h)|h)|h)|h)|h)|h)|h)|h)|h<;>subst h<;>exact⟨_,_,rfl,by decide⟩
theorem H_:∀l c,0<=Lib.indexByte l c↔c∈l:=by
 intro l c
 induction l with
 |nil=>simp[Lib.indexByte]
 |cons b l j =>
  have m:=Lib.indexByte_ge l c;rw[Lib.indexByte,aK,<-j];by_cases h:b=c
  ·subst h;simp
  have e:(b==c)=false:=Ts;rw[e];simp only[Ss,Ry,Rd];constructor
  ·intro hx;split at hx<;>omega
  rintro(hx|hx)
  ·exact absurd hx.symm h
  split<;>omega
theorem rV(c):jy c=true↔c∈([40,41,91,93,123,125,44,43,45,42,47,60,61]:a_):=by
 grind [jy,H_]
def qP(h:jy c=true):dH c=false/\eE c=false/\c≠39:=by
 rw[rV]at h;simp only[aK,S3,RM]at h;rcases h with rfl|rfl|rfl|rfl|rfl|rfl|rfl|rfl|rfl|rfl|rfl|rfl|rfl<;>decide
theorem uA(l x:a_)(hx:known x=true):(l.take (jD l)=x)↔(l.take (bY.tok l).2=x):=by
 by_cases h2:2<=(bY.tok l).1
 ·rw[k_ l h2]
 have M:x≠[]:=by rintro rfl;revert hx;decide
 have C:(∃c t,x=c::t/\eE c=true/\ib x=true)\/(∃c,x=[c]/\jy c=true):=by
  simp only[known,Rv]at hx
  grind [xG]
 cases l with
 |nil=>simp[jD,bY.tok]
 |cons c r =>
  have G:(c::r).take (jD (c::r))≠x/\(bY.tok (c::r)).2=0:=by
   rcases rU c r with⟨h1,y,u⟩|⟨h1,y,u⟩|⟨h1,y,u⟩|⟨h1,I,N,y,u⟩
   ·rw[u]at h2 ⊢;split at h2
    ·simp at h2
    rename_i m;rw[ae m];refine⟨?_,rfl⟩;rw[y];obtain⟨t,D⟩:=jZ dH c r h1;rw[D];intro e;rcases C with⟨p,E,b,z,_⟩|⟨p,b,B⟩
    ·rw[b]at e;injection e with j _;subst j;rw[ma z]at h1;cases h1
    rw[b]at e;injection e with j _;subst j;rw[(qP B).1]at h1;cases h1
   ·rw[u]at h2 ⊢;split at h2
    ·simp at h2
    rename_i m;rw[ae m];split at h2
    ·rename_i J;rw[ag J];refine⟨?_,rfl⟩;rw[y];intro e;rcases C with⟨p,E,b,z,L⟩|⟨p,b,B⟩
     ·rw[e]at m;exact m L
     obtain⟨t,D⟩:=jZ eM c r (by rw[qO,h1];rfl);rw[D,b]at e;injection e with j _;subst j;rw[(qP B).2.1]at h1;cases h1
    simp at h2
   ·rw[u]at h2 ⊢;cases F:dS (c::r) with
    |some n=>rw[F]at h2;simp[fh]at h2
    |none =>
     refine⟨?_,rfl⟩;rw[y];have K:fD (c::r)=0:=by unfold fD;rw[F]
     rw[K];intro e;have e:[c]=x:=e;rcases C with⟨p,E,b,z,_⟩|⟨p,b,B⟩
     ·rw[b]at e;injection e with j _;subst j;subst h1;exact absurd rfl (AA (Or.inl z))
     rw[b]at e;injection e with j _;subst j;exact(qP B).2.2 h1
   rw[u]at h2 ⊢;split at h2
   ·simp at h2
   rename_i m;rw[ae m];refine⟨?_,rfl⟩;rw[y];intro e;have e:[c]=x:=e;rcases C with⟨p,E,b,z,_⟩|⟨p,b,B⟩
   ·rw[b]at e;injection e with j _;subst j;rw[I]at z;cases z
   rw[b]at e;injection e with j _;subst j;exact m B
  constructor
  ·intro e;exact absurd e G.1
  intro e;rw[G.2]at e;exact absurd e.symm M
end Ref
namespace Ref
variable{s t:ba}{b i a j:Nat}{v:Xb}
def Ia(s:ba)(i:Nat)(t:ba)(code place e:Nat)(v:Xb):Array Xb :=#[.string s,.int .i64 (i:Int),.string t,.int .i64 (code:Int),.int .i64 (place:Int),.int .i64 (e:Int),v]
def ic(w:Xa)(s:ba)(b i:Nat)(t:ba)(code place e:Nat)(v:Xb):Prop:=w.1[b]?=some (.cells (Ia s i t code place e v) 142 (0,0))
def NW(w:Xa)(s:ba)(b i code place e:Nat)(v:Xb):Prop:=ic w s b i (s.extract i (i+jD (s.1.1.drop i))) code place e v
theorem ic.lt{w:Xa}{code place e:Nat}(h:ic w s b i t code place e v):b<w.1.size:=by
 grind [ic]
def ic.cells{w:Xa}{code place e:Nat}(h:ic w s b i t code place e v):w.cell? ⟨b,0,none⟩=some (.string s)/\w.cell? ⟨b,1,none⟩=some (.int .i64 i)/\w.cell? ⟨b,2,none⟩=some (.string t)/\w.cell? ⟨b,3,none⟩=some (.int .i64 code)/\w.cell? ⟨b,4,none⟩=some (.int .i64 place)/\w.cell? ⟨b,5,none⟩=some (.int .i64 e)/\w.cell? ⟨b,6,none⟩=some v/\(∀o,w.frozen? ⟨b,o,none⟩=false):=by
 unfold ic at h;refine⟨?_,?_,?_,?_,?_,?_,?_,?_⟩
 all_goals simp[World.cell?,World.frozen?,h,Ia]
def ic.tok{w:Xa}{code place l:Nat}(h:ic w s b i t code place l v)(j:Nat)(e):ic ((w.setCell ⟨b,1,none⟩ (.int .i64 j)).setCell ⟨b,2,none⟩ (.string e)) s b j e code place l v :=iA (iA h 1 (.int .i64 (j:Int))) 2 (.string e)
def ic.Qj{w:Xa}{code place l:Nat}(h:ic w s b i t code place l v)(e):ic (w.setCell ⟨b,2,none⟩ (.string e)) s b i e code place l v :=iA h 2 (.string e)
def ic.drewN{w:Xa}{code place e:Nat}(h:ic w s b i t code place e v)(n):ic (w.drewN n) s b i t code place e v:=h
def Eo(w:Xa)(s:ba)(b j code place l:Nat)(v:Xb)(e:Ending)(w':Xa):Prop :=e=.returned (.tuple #[])/\NW w' s b j code place l v/\w.grownBy w' (some b)
def Fr.drewN{a w:Xa}{row:Option Nat}(h:a.grownBy w row)(n):a.grownBy (w.drewN n) row:=⟨h.os,h.tape,h.output,h.size,h.block⟩
def CM(l):fD l<=l.length:=by
 unfold fD;cases e:dS l with
 |none=>exact ar _
 |some n=>exact pK e
def lD{w:Xa}{code place l:Nat}(h:ic w s b a t code place l v)(nq k e)(n:j=k)(m:k+jD (s.1.1.drop k)=e):Eo w s b j code place l v (.returned (.tuple #[])) ((((w.drewN nq).setCell ⟨b,1,none⟩ (.int .i64 k)).setCell ⟨b,2,none⟩ (.string ⟨#[]⟩)).setCell ⟨b,2,none⟩ (.string (s.extract k e))):=by
 subst n;subst m;exact⟨rfl,((h.drewN nq).tok _ _).Qj _,Fr.set (Fr.set (Fr.set (Fr.drewN (VQ _ _) nq) _ _) _ _) _ _⟩
theorem Ib{w:Xa}{code place e:Nat}(h:ic w s b a t code place e v)(nq k)(m:j=k)(l:jD (s.1.1.drop k)=0):Eo w s b j code place e v (.returned (.tuple #[])) (((w.drewN nq).setCell ⟨b,1,none⟩ (.int .i64 k)).setCell ⟨b,2,none⟩ (.string ⟨#[]⟩)):=by
 subst m;have p:=(h.drewN nq).tok j ⟨#[]⟩;refine⟨rfl,?_,Fr.set (Fr.set (Fr.drewN (VQ _ _) nq) _ _) _ _⟩;unfold NW;rw[l,aR];have n:s.extract j j=⟨#[]⟩:=by rw[VZ];simp
 grind
def AB(s b a t code place ab v w)(h:ic w s b a t code place ab v)(hs:s.size<=1000)(ha:a+t.size<=s.size):Calls Tryz.prog 64 #[.pointer (some ⟨b,0,none⟩)] w (Eo w s b (bY.skip s.1.1 (a+t.size)) code place ab v):=by
 obtain⟨c0,c1,c2,c3,c4,c5,c6,cf⟩:=h.cells;go_enter Tryz.func64,Tryz.ntmps64;go_wp2_with fail
 go_quiet (fail)
 go_wp2_with fail
 go_loop [2] (λi=>∃k:Nat,i=.int .i64 k/\k<=s.size/\Hid (bY.skip s.1.1 k=bY.skip s.1.1 (a+t.size))) (λi=>s.size-(intOf i).toNat)
 case atStart=>exact⟨a+t.size,by go_num,ha,rfl⟩
 case round =>
  obtain⟨k,rfl,hk,L⟩:=hrel;by_cases O:k<s.size
  ·have ak:(k:Int)<(s.size:Int):=R5;have GE:=bZ (dM s k O);have Z:k<s.1.1.length:=Ud;by_cases X:((s[k].toNat:Int)==32)=true
   ·have p:=bZ (xD s.1.1 k Z (by rw[<-GE.Z];exact X));go_wp2;exact⟨⟨k+1,by go_num,by omega,p.Z.trans L.Z⟩,by simp[intOf];omega⟩
   have ad:((s[k].toNat:Int)==32)=false:=by simpa using X
   have p:=bZ (L.Z.symm.trans (pJ s.1.1 k (λ_=>by rw[<-GE.Z];exact ad)));have aC:((k:Int)==(s.size:Int))=false:=Tj;have z:=bZ (show s.1.1.drop k=s[k]::s.1.1.drop (k+1) by rw[GE.Z];exact aU Z);by_cases F:((s[k].toNat:Int)==39)=true
   ·have V:s[k]=39:=Rp.1 (by have:=eq_of_beq F;show s[k].toNat=39;omega);have R:=CL (s.extract k s.size) (((w.drewN nq).setCell ⟨b,1,none⟩ (.int .i64 (k:Int))).setCell ⟨b,2,none⟩ (.string ⟨#[]⟩)) Um (by rw[kZ,z.Z,V];rfl);rw[kZ]at R;have u:jD (s.1.1.drop k)=max (fD (s.1.1.drop k)) 1:=by
     rw[z.Z];simp only[jD];rw[ag V]
    have aa:=CM (s.1.1.drop k);rw[aV,<-VO]at aa;have l1:¬97<=(s[k].toNat:Int):=by have:=eq_of_beq F;omega
    have d1:¬48<=(s[k].toNat:Int):=by have:=eq_of_beq F;omega
    generalize fD (s.1.1.drop k)=S at R u aa;have U:=bZ R;have n:=bZ u;by_cases a3:0<S
    ·have av:0<(S:Int):=R5;go_wp2_with fail;refine U.Z.mono ?_;rintro e w1⟨rfl,rfl⟩;go_wp2_with fail;refine wp_loop_rounds 1 ?_;rw[rounds_succ];go_wp2
     go_end0
     exact lD h nq k _ p.Z (by rw[n.Z];omega)
    have av:¬0<(S:Int):=R5;go_wp2_with fail;refine U.Z.mono ?_;rintro e w1⟨rfl,rfl⟩;go_wp2_with fail;refine wp_loop_rounds 1 ?_;rw[rounds_succ];go_wp2
    go_end0
    exact lD h nq k _ p.Z (by rw[n.Z];omega)
   have ax:((s[k].toNat:Int)==39)=false:=by simpa using F
   have P:¬s[k]=39:=λe=>F TR;by_cases D:eE s[k]=true
   ·obtain⟨l1,l2⟩:=mD.1 D;have b2:¬(s[k].toNat:Int)<=57:=R5;have b1:48<=(s[k].toNat:Int):=R5;have Q:1<=dJ eM (s.1.1.drop k):=by
     rw[z.Z];exact kH _ _ _ (by rw[qO,D];rfl)
    have u:jD (s.1.1.drop k)=dJ eM (s.1.1.drop k):=by
     rw[z.Z];simp only[jD];rw[ae P,ag D]
    have n:=bZ u;go_wp2_with fail
    go_loop [6] (λe=>∃m:Nat,e=.int .i64 ((k+m:Nat):Int)/\1<=m/\k+m<=s.size/\m<=dJ eM (s.1.1.drop k)) (λe=>s.size-(intOf e).toNat)
    case atStart=>exact⟨1,by go_num,af _,by omega,Q⟩
    case round =>
     obtain⟨m,rfl,am,ao,B⟩:=hrel;by_cases M:k+m<s.size
     ·have N:((k+m:Nat):Int)<(s.size:Int):=R5;have K:=bZ (dM s (k+m) M);have hlen:m<(s.1.1.drop k).length:=by rw[aV,<-VO];omega
      have E:=bZ (show(s.1.1.drop k)[m]=s[k+m] by rw[List.getElem_drop,K.Z]);by_cases r:eM s[k+m]=true
      ·have l:=bZ (pH eM (s.1.1.drop k) m hlen B (by rw[E.Z];exact r));by_cases Y:dH s[k+m]=true
       ·obtain⟨d1,d2⟩:=ko.1 Y;go_wp2;exact⟨⟨m+1,by go_num,by omega,by omega,l.Z⟩,by simp[intOf];omega⟩
       have ai:eE s[k+m]=true:=by
        rw[qO]at r;simpa[Y]using r
       obtain⟨y,C⟩:=mD.1 ai;have d1:48<=(s[k+m].toNat:Int):=R5;have d2:¬(s[k+m].toNat:Int)<=57:=R5;go_wp2;exact⟨⟨m+1,by go_num,by omega,by omega,l.Z⟩,by simp[intOf];omega⟩
      have l:=bZ (jx eM (s.1.1.drop k) m B (λ_=>by rw[E.Z];simpa using r));have a2:¬(97<=(s[k+m].toNat:Int)/\(s[k+m].toNat:Int)<=122):=λhx=>r (by rw[qO,mD.2 hx];rfl);have ap:¬(48<=(s[k+m].toNat:Int)/\(s[k+m].toNat:Int)<=57):=λhx=>r (by rw[qO,ko.2 hx,Bool.or_true]);have G:(¬48<=(s[k+m].toNat:Int)/\(s[k+m].toNat:Int)<97)\/(48<=(s[k+m].toNat:Int)/\¬(s[k+m].toNat:Int)<=57/\(s[k+m].toNat:Int)<97)\/(48<=(s[k+m].toNat:Int)/\¬(s[k+m].toNat:Int)<=57/\¬(s[k+m].toNat:Int)<97/\122<(s[k+m].toNat:Int)):=R5;rcases G with⟨y,C⟩|⟨y,C,T⟩|⟨y,C,T,x4⟩
      all_goals go_wp2_with fail
      all_goals first
       |(go_end0;exact lD h nq k _ p.Z Ue)
       |(exfalso;rename_i hx;simp at hx;omega)
     have N:¬((k+m:Nat):Int)<(s.size:Int):=R5;have l:=bZ (jx eM (s.1.1.drop k) m B (λJ=>by rw[aV,<-VO]at J;omega));go_wp2
     go_end0
     exact lD h nq k _ p.Z Ue
   have a0:¬(97<=(s[k].toNat:Int)/\(s[k].toNat:Int)<=122):=λhx=>D (mD.2 hx);by_cases I:dH s[k]=true
   ·obtain⟨b1,b2⟩:=ko.1 I;have Q:1<=dJ dH (s.1.1.drop k):=by
     rw[z.Z];exact kH _ _ _ I
    have u:jD (s.1.1.drop k)=dJ dH (s.1.1.drop k):=by
     rw[z.Z];simp only[jD];rw[ae P,ae D,ag I]
    have n:=bZ u;go_wp2_with fail
    go_loop [6] (λe=>∃m:Nat,e=.int .i64 ((k+m:Nat):Int)/\1<=m/\k+m<=s.size/\m<=dJ dH (s.1.1.drop k)) (λe=>s.size-(intOf e).toNat)
    case atStart=>exact⟨1,by go_num,af _,by omega,Q⟩
    case round =>
     obtain⟨m,rfl,am,ao,B⟩:=hrel;by_cases M:k+m<s.size
     ·have N:((k+m:Nat):Int)<(s.size:Int):=R5;have K:=bZ (dM s (k+m) M);have hlen:m<(s.1.1.drop k).length:=by rw[aV,<-VO];omega
      have E:=bZ (show(s.1.1.drop k)[m]=s[k+m] by rw[List.getElem_drop,K.Z]);by_cases r:dH s[k+m]=true
      ·have l:=bZ (pH dH (s.1.1.drop k) m hlen B (by rw[E.Z];exact r));obtain⟨d1,d2⟩:=ko.1 r;go_wp2;exact⟨⟨m+1,by go_num,by omega,by omega,l.Z⟩,by simp[intOf];omega⟩
      have l:=bZ (jx dH (s.1.1.drop k) m B (λ_=>by rw[E.Z];simpa using r));have ap:¬(48<=(s[k+m].toNat:Int)/\(s[k+m].toNat:Int)<=57):=λhx=>r (ko.2 hx);have G:(¬48<=(s[k+m].toNat:Int))\/(48<=(s[k+m].toNat:Int)/\¬(s[k+m].toNat:Int)<=57):=R5;rcases G with y|⟨y,C⟩
      all_goals go_wp2_with fail
      all_goals first
       |(go_end0;exact lD h nq k _ p.Z Ue)
       |(exfalso;rename_i hx;simp at hx;omega)
     have N:¬((k+m:Nat):Int)<(s.size:Int):=R5;have l:=bZ (jx dH (s.1.1.drop k) m B (λJ=>by rw[aV,<-VO]at J;omega));go_wp2
     go_end0
     exact lD h nq k _ p.Z Ue
   have ay:¬(48<=(s[k].toNat:Int)/\(s[k].toNat:Int)<=57):=λhx=>I (ko.2 hx);have u:jD (s.1.1.drop k)=1:=by
    rw[z.Z];simp only[jD];rw[ae P,ae D,ae I]
   have n:=bZ u;have G:(¬97<=(s[k].toNat:Int)/\¬48<=(s[k].toNat:Int))\/(¬97<=(s[k].toNat:Int)/\48<=(s[k].toNat:Int)/\¬(s[k].toNat:Int)<=57)\/(97<=(s[k].toNat:Int)/\¬(s[k].toNat:Int)<=122/\48<=(s[k].toNat:Int)/\¬(s[k].toNat:Int)<=57):=R5;rcases G with⟨y,C⟩|⟨y,C,T⟩|⟨y,C,T,x4⟩
   all_goals
    go_wp2_with fail;refine wp_loop_rounds 1 ?_;rw[rounds_succ];go_wp2
    go_end0
    exact lD h nq k _ p.Z (by rw[n.Z])
  have ak:¬(k:Int)<(s.size:Int):=R5;have p:=bZ (L.Z.symm.trans (pJ s.1.1 k (λJ=>absurd (by simpa using J) O)));have n:=bZ (show jD (s.1.1.drop k)=0 by rw[aT Tc];rfl);go_wp2
  go_end0
  exact Ib h nq k p.Z n.Z
end Ref
namespace Ref
variable{r t:a_}
def FJ:∀m r n,eN m r=some n->n<m/\∃h:n<r.length,r[n]=39/\∀j (l:j<n),r[j]' R5≠39:=by
 intro m
 induction m with
 |zero=>intro r n h;simp[eN]at h
 |succ m z =>
  intro r n h;cases r with
  |nil=>simp[eN]at h
  |cons c t =>
   have eq:eN (m+1) (c::t)=if c=39 then some 0 else if fW c=true then(eN m t).map _ else none:=rfl
   rw[eq]at h;by_cases b:c=39
   ·rw[ag b]at h;cases h;exact⟨by omega,by simp,b,λj l=>by omega⟩
   rw[ae b]at h;split at h
   ·cases e:eN m t with
    |none=>rw[e]at h;cases h
    |some k =>
     rw[e]at h;have y:n=k+1:=by simpa using h.symm
     subst y;obtain⟨h1,h2,p,u⟩:=z t k e;refine⟨by omega,by simpa using h2,p,λj l=>?_⟩;cases j with
     |zero=>exact b
     |succ j=>exact u j R5
   cases h
theorem CN{n:Nat}(e:dS (39::r)=some n):dU ((39::r).take (n+2))=true:=by
 have b:dS (39::r)=eN 31 r:=by simp[dS]
 obtain⟨h1,h2,l,m⟩:=FJ 31 r n (b.symm.trans e);have z:Py (39::r) (n+1):=λj p u y=>by
  grind
 grind [El]
def ln(l t)(p:t=l.take (jD l)):((bY.tok l).1=2/\(dO t).isSome=true) \/((bY.tok l).1=3/\dO t=none/\dU t=true) \/((bY.tok l).1=4/\dO t=none/\dU t=false/\jF t=true/\ib t=false/\∃c r,t=c::r/\eE c=true) \/((bY.tok l).1=5/\dO t=none/\dU t=false/\jF t=false/\ib t=true) \/((bY.tok l).1=6/\dO t=none/\dU t=false/\jF t=false/\∃c,t=[c]/\jy c=true) \/((bY.tok l).1<=1/\dO t=none/\dU t=false/\jF t=false/\known t=false):=by
 subst p;cases l with
 |nil=>refine Or.inr (Or.inr (Or.inr (Or.inr (Or.inr ⟨by simp[bY.tok],rfl,?_,?_,?_⟩))))<;>rfl
 |cons c r =>
  have B:(bY.tok (c::r)).1<=1->known ((c::r).take (jD (c::r)))=false:=by
   intro b;cases E:known _ with
   |false=>rfl
   |true =>
    exfalso;have h1:=(uA _ _ E).1 rfl;have O:(bY.tok (c::r)).2=0:=by
     have m:=gy _ c r rfl;rw[m]at b ⊢;split at b
     ·split at b
      ·simp at b
      rename_i h1 h2;rw[ag h1,ae h2]
     rename_i h1;rw[ae h1];split at b
     ·rename_i h2;rw[ag h2];split at b
      ·simp at b
      rename_i e;rw[ae e];split at b
      ·rename_i z;rw[ag z]
      simp at b
     rename_i h2;rw[ae h2];split at b
     ·rename_i e;rw[ag e];cases y:dS _ with
      |none=>rfl
      |some n=>rw[y]at b;simp[fh]at b
     rename_i e;rw[ae e];split at b
     ·simp at b
     rename_i z;rw[ae z]
    rw[O,List.take_zero]at h1;rw[<-h1]at E
    revert E;decide
  rcases rU c r with⟨h1,e,m⟩|⟨h1,e,m⟩|⟨h1,e,m⟩|⟨h1,z,K,e,m⟩
  ·obtain⟨t,p⟩:=jZ _ c r h1;have N:=HJ _ (Az _ _) (by rw[p];simp);have F:=AA (Or.inr h1);have G:eE c=false:=by
    cases Q:eE c with
    |false=>rfl
    |true=>rw[ma Q]at h1;cases h1
   by_cases j:(d_ ((c::r).take (dJ dH (c::r)))).isSome=true
   ·refine Or.inl ⟨by rw[m,ag j],?_⟩;rw[e,N];exact j
   have b:(bY.tok (c::r)).1<=1:=by rw[m,ae j];exact af _
   refine Or.inr (Or.inr (Or.inr (Or.inr (Or.inr ⟨b,?_,?_,?_,B b⟩))))
   ·rw[e];have:(dO ((c::r).take (dJ dH (c::r)))).isSome=false:=by rw[N];simpa using j
    simpa using this
   ·rw[e,p];exact iV F
   rw[e,p];exact ny G
  ·obtain⟨t,p⟩:=jZ eM c r (by rw[qO,h1];rfl);have F:=AA (Or.inl h1);have C:=ma h1;have I:dO ((c::r).take (jD (c::r)))=none:=by rw[e,p];exact iJ C
   have J:dU ((c::r).take (jD (c::r)))=false:=by rw[e,p];exact iV F
   have hlen:((c::r).take (dJ eM (c::r))).length=dJ eM (c::r):=by
    rw[Rf];have:=ng eM (c::r);omega
   have S:ou ((c::r).take (dJ eM (c::r))) 0=true:=by
    unfold ou;rw[aW,Rk];exact Az _ _
   have R:=kH eM c r (by rw[qO,h1];rfl);have P:((c::r).take (dJ eM (c::r))).head?.map eE=some true:=by rw[p];simp[h1]
   by_cases j:ib ((c::r).take (dJ eM (c::r)))=true
   ·refine Or.inr (Or.inr (Or.inr (Or.inl ⟨by rw[m,ag j],I,J,?_,by rw[e];exact j⟩)));rw[e];unfold jF;rw[j];simp
   have M:ib ((c::r).take (dJ eM (c::r)))=false:=T1;by_cases L:8<dJ eM (c::r)
   ·have b:(bY.tok (c::r)).1<=1:=by rw[m,ae j,ag L];exact af _
    refine Or.inr (Or.inr (Or.inr (Or.inr (Or.inr ⟨b,I,J,?_,B b⟩))));rw[e];unfold jF;rw[aN (by rw[hlen];omega)];rfl
   refine Or.inr (Or.inr (Or.inl ⟨by rw[m,ae j,ae L],I,J,?_,by rw[e];exact M,c,t,by rw[e,p],h1⟩));rw[e];unfold jF;rw[aQ ⟨by rw[hlen];exact R,by rw[hlen];omega,P⟩,S,M];rfl
  ·subst h1;have C:dH 39=false:=S4;have G:eE 39=false:=S4;cases y:dS (39::r) with
   |some n =>
    have D:fD (39::r)=n+2:=by unfold fD;rw[y]
    have b:=pK y;obtain⟨t,p⟩:∃t,(39::r).take (n+2)=39::t:=⟨_,Q9⟩;refine Or.inr (Or.inl ⟨by rw[m,y];rfl,?_,?_⟩)
    ·rw[e,D,show max (n+2) 1=n+2 by omega,p];exact iJ C
    rw[e,D,show max (n+2) 1=n+2 by omega];exact CN y
   |none =>
    have D:fD (39::r)=0:=by unfold fD;rw[y]
    have b:(bY.tok (39::r)).1<=1:=by rw[m,y];exact af _
    have u:(39::r).take (jD (39::r))=[39]:=by rw[e,D];rfl
    refine Or.inr (Or.inr (Or.inr (Or.inr (Or.inr ⟨b,?_,?_,?_,B b⟩))))
    ·rw[u];exact iJ C
    ·rw[u];rfl
    rw[u];exact ny G
  have u:(c::r).take (jD (c::r))=[c]:=TR;by_cases j:jy c=true
  ·refine Or.inr (Or.inr (Or.inr (Or.inr (Or.inl ⟨by rw[m,ag j],?_,?_,?_,c,u,j⟩))))
   ·rw[u];exact iJ h1
   ·rw[u];exact iV K
   rw[u];exact ny z
  have b:(bY.tok (c::r)).1<=1:=by rw[m,ae j];exact af _
  refine Or.inr (Or.inr (Or.inr (Or.inr (Or.inr ⟨b,?_,?_,?_,B b⟩))))
  ·rw[u];exact iJ h1
  ·rw[u];exact iV K
  rw[u];exact ny z
def oX(t:a_):Bool :=t==[45]||t==[40]||t==[91]||t==[123]||t==[105,102]||t==[115,105,122,101]||t==[115,117,109]||t==[119,111,114,100]||t==[109,105,110]||t==[109,97,120]||t==[116,114,121]||t==[97,116]||t==[101,97,99,104]||t==[115,111,109,101]
def kr(t:a_)(b:Nat):Bool :=(dO t).isSome||dU t||jF t||oX t||(t==[105,116]&&decide (0<b))
theorem CO(h:oX t=true):known t=true:=by
 simp only[oX,Rv,Rd]at h;rcases h with((((((((((((h|h)|h)|h)|h)|h)|h)|h)|h)|h)|h)|h)|h)|h<;>subst h<;>decide
def FK(t b)(h:ib t=true):(fC t b≠0)↔(oX t||(t==[105,116]&&decide (0<b)))=true:=by
 simp only[ib,Rv,Rd]at h;rcases h with(((((((((((h|h)|h)|h)|h)|h)|h)|h)|h)|h)|h)|h)|h<;>subst h
 all_goals first
  |(simp[fC,oX];done)
  |(by_cases hi:0<b<;>simp[fC,oX,hi])
def FL(c b)(h:jy c=true):(jV [c]≠0)↔(oX [c]||([c]==[105,116]&&decide (0<b)))=true:=by
 rw[rV]at h;simp only[aK,S3,RM]at h;rcases h with rfl|rfl|rfl|rfl|rfl|rfl|rfl|rfl|rfl|rfl|rfl|rfl|rfl<;>simp[jV,oX]
theorem AD(l i j):kr ((l.drop i).take (jD (l.drop i))) j=decide (cu l i j≠0):=by
 have n:2<=(bY.tok _).1->(l.drop i).take (jD (l.drop i))=tx l i:=λh=>by rw[k_ _ h];rfl
 have u:cu l i j=kindOf (bY.tok _).1 _ j:=rfl;rcases ln _ _ rfl with⟨h,a⟩|⟨h,a,b⟩|⟨h,a,b,c,_⟩|⟨h,a,b,c,d⟩|⟨h,a,b,c,p,d,e⟩|⟨h,a,b,c,d⟩
 ·rw[u,h];unfold kr;rw[a];simp[kindOf]
 ·grind [kr,kindOf]
 ·grind [kr,kindOf]
 ·have m:cu l i j=fC (tx l i) j:=by grind [kindOf]
  rw[m];rw[n R5]at a b c d ⊢;have:=FK _ j d
  grind [kr]
 ·have m:cu l i j=jV (tx l i):=by grind [kindOf]
  rw[m];rw[n R5]at a b c d ⊢;rw[d]at a b c ⊢;have:=FL p j e
  grind [kr]
 have m:cu l i j=0:=by
  grind [kindOf]
 rw[m];have y:oX ((l.drop i).take (jD (l.drop i)))=false:=by
  grind [CO]
 have hit:((l.drop i).take (jD (l.drop i))==[105,116])=false:=by
  cases hx:((l.drop i).take _==[105,116]) with
  |false=>rfl
  |true=>rw[eq_of_beq hx]at d;revert d;decide
 grind [kr]
end Ref
end
section
open bY
open Tryz
namespace Ref
variable{s:ba}{i:Nat}{l:a_}
theorem CP(t B u w)(G:t.size<=1000)(E:w.cell? ⟨B,5,none⟩=some (.int .i64 u)):Calls prog 229 #[.pointer (some ⟨B,0,none⟩),.string t] w λe b=>e=.returned (.bool (kr t.1.1 u))/\w=b:=by
 have hd:=eJ t w R5;have z:=eR t w R5;have y:=dT t w R5;have r:kr t.1.1 u=((dO t.1.1).isSome||dU t.1.1||jF t.1.1||oX t.toList||(t.toList==[105,116]&&decide (0<u))):=by rw[VP];rfl
 rw[r];generalize dO t.1.1=F at hd r;generalize dU t.1.1=D at z r;generalize jF t.1.1=C at y r;have j:=bZ hd;have p:=bZ z;have m:=bZ y;clear hd z y r;cases F with
 |some n =>
  go_enter func229,ntmps229;go_wp2_with fail;refine j.Z.mono ?_;rintro e b⟨rfl,rfl⟩;unfold gK;go_wp2_with(first|(go_at_call 144;refine p.Z.mono ?_;rintro e b ⟨rfl,rfl⟩)|(go_at_call 108;refine m.Z.mono ?_;rintro e b ⟨rfl,rfl⟩));go_ret;exact⟨ik S5,rfl⟩
 |none =>
  cases D with
  |true =>
   go_enter func229,ntmps229;go_wp2_with fail;refine j.Z.mono ?_;rintro e b⟨rfl,rfl⟩;unfold gK;go_wp2_with(first|(go_at_call 144;refine p.Z.mono ?_;rintro e b ⟨rfl,rfl⟩)|(go_at_call 108;refine m.Z.mono ?_;rintro e b ⟨rfl,rfl⟩));go_ret;exact⟨ik S5,rfl⟩
  |false =>
   cases C with
   |true =>
    go_enter func229,ntmps229;go_wp2_with fail;refine j.Z.mono ?_;rintro e b⟨rfl,rfl⟩;unfold gK;go_wp2_with(first|(go_at_call 144;refine p.Z.mono ?_;rintro e b ⟨rfl,rfl⟩)|(go_at_call 108;refine m.Z.mono ?_;rintro e b ⟨rfl,rfl⟩));go_ret;exact⟨ik S5,rfl⟩
   |false =>
    go_enter func229,ntmps229;go_wp2_with fail;refine j.Z.mono ?_;rintro e b⟨rfl,rfl⟩;unfold gK;clear j;go_wp2_with(first|(go_at_call 144;refine p.Z.mono ?_;rintro e b ⟨rfl,rfl⟩)|(go_at_call 108;refine m.Z.mono ?_;rintro e b ⟨rfl,rfl⟩))
    all_goals clear p m E
    all_goals first
     |(exfalso;simp_all;done)
     |(go_ret;refine⟨ik ?_,rfl⟩;simp_all [oX];done)
     |(go_ret;refine⟨ik ?_,rfl⟩;simp_all [oX];omega)
def qQ(s b i t)(place j c:Nat)(v w)(h:ic w s b i t 0 place j v):Calls prog 66 #[.pointer (some ⟨b,0,none⟩),.int .i64 c] w λe m=>e=.returned (.tuple #[])/\ic m s b i t c i j v/\w.grownBy m (some b):=by
 obtain⟨n,p,r,u,y,z,B,C⟩:=h.cells;go_enter func66,ntmps66;go_wp2
 go_end0
 exact⟨rfl,iA (iA h 3 (.int .i64 (c:Int))) 4 (.int .i64 (i:Int)),Fr.set (Fr.set (VQ _ _) _ _) _ _⟩
theorem Ic(hi:i<=s.size):i+(s.extract i (i+jD (s.1.1.drop i))).size<=s.size:=by
 grind [ByteArray.size_extract]
def LB(l:a_)(i:Nat):a_:=(l.drop i).take (jD (l.drop i))
def kI(s:ba)(i):(s.extract i (i+jD (s.1.1.drop i))).1.1=LB s.1.1 i:=by
 rw[VV,RQ];rfl
def mN(l i x)(hx:known x=true):LB l i=x↔tx l i=x:=uA (l.drop i) x hx
theorem AE(hi:i<=s.size)(b:2<=(bY.tok (s.1.1.drop i)).1):bY.skip s.1.1 (i+(s.extract i (i+jD (s.1.1.drop i))).size)=fX s.1.1 i:=by
 have h1:=k_ _ b;have h2:i+(bY.tok (s.1.1.drop i)).2<=s.size:=by
  have:=yT s.1.1 i Tt;simpa using this
 grind [fX,ByteArray.size_extract]
theorem uB(s b i code place e v w)(h:NW w s b i code place e v)(m:s.size<=200)(hi:i<=s.size)(j:2<=(bY.tok (s.1.1.drop i)).1):Calls prog 64 #[.pointer (some ⟨b,0,none⟩)] w (Eo w s b (fX s.1.1 i) code place e v):=by
 have:=AB s b i _ code place e v w h R5 (Ic hi)
 grind [AE]
def j8(h:tx l i≠[]):2<=(bY.tok (l.drop i)).1:=by
 have:=nt h;rcases ln (l.drop i) _ rfl with⟨h,_⟩|⟨h,_⟩|⟨h,_⟩|⟨h,_⟩|⟨h,_⟩|⟨h,_⟩
 ·omega
 ·omega
 ·omega
 ·omega
 ·omega
 exfalso;cases j:l.drop i with
 |nil=>rw[j]at this;simp[bY.tok]at this
 |cons c r =>
  rw[j]at this h;rw[gy (c::r) c r rfl]at this h;split at h
  ·split at h
   ·simp at h
   rename_i h1 h2;rw[ag h1,ae h2]at this;simp at this
  rename_i h1;rw[ae h1]at this;split at h
  ·rename_i h2;rw[ag h2]at this;split at h
   ·simp at h
   rename_i b;rw[ae b]at this;split at h
   ·rename_i e;rw[ag e]at this;simp at this
   simp at h
  rename_i h2;rw[ae h2]at this;split at h
  ·rename_i b;rw[ag b]at this;cases m:dS (c::r) with
   |none=>rw[m]at this;simp[fh]at this
   |some n=>rw[m]at h;simp[fh]at h
  rename_i b;rw[ae b]at this;split at h
  ·simp at h
  rename_i e;rw[ae e]at this;simp at this
def dt(w:Xa)(s:ba)(b m:Nat)(v:Xb)(r:Except (Nat×Nat) Nat)(e:Ending)(w':Xa):Prop :=e=.returned (.tuple #[])/\w.grownBy w' (some b)/\(∀j,r=.ok j->∃p,NW w' s b j 0 p m v)/\(∀x,r=.error x->NW w' s b x.2 x.1 x.2 m v)
def Ie(s n i place r v t w)(h:NW w s n i 0 place r v)(C:s.size<=200)(hi:i<=s.size)(p:known t.1.1=true):Calls prog 271 #[.pointer (some ⟨n,0,none⟩),.string t] w (dt w s n r v (bY.cD s.1.1 t.1.1 i)):=by
 obtain⟨E,F,G,I,J,K,L,M⟩:=h.cells;have y:t.1.1≠[]:=by intro e;rw[e]at p;revert p;decide
 by_cases b:tx s.1.1 i=t.1.1
 ·have m:bY.cD s.1.1 t.1.1 i=.ok (fX s.1.1 i):=by rw[bY.cD,ag b]
  have B:((s.extract i (i+jD (s.1.1.drop i))).toList==t.toList)=true:=by
   rw[VP,VP,kI,(mN _ _ _ p).2 b];simp
  have hx:=uB s n i 0 place r v w h C hi (j8 (by rw[b];exact y));rw[m];have z:=bZ hx;clear hx m b y;go_enter func271,ntmps271;go_wp2_with fail;refine b_ z.Z λD ⟨h1,f1⟩=>?_;go_wp2
  go_end0
  exact⟨rfl,f1,λj u=>by cases u;exact⟨_,h1⟩,λx hx=>by cases hx⟩
 have m:bY.cD s.1.1 t.1.1 i=.error (3,i):=by rw[bY.cD,ae b]
 have B:((s.extract i (i+jD (s.1.1.drop i))).toList==t.toList)=false:=by
  rw[VP,VP,kI,az];exact λe=>b ((mN _ _ _ p).1 e)
 rw[m];clear m b y;go_enter func271,ntmps271;go_wp2_with fail;refine b_ (qQ s n i _ place r 3 v _ h) λD ⟨h1,f1⟩=>?_;go_wp2_with fail
 first|go_end0|refine VN (V1 rfl _ _ _) rfl ?_
 exact⟨rfl,f1,λj u=>(by cases u),λx hx=>by cases hx;exact h1⟩
def FM(s b i t code place j v x w)(h:ic w s b i t code place j v)(D:code≠0):Calls prog 271 #[.pointer (some ⟨b,0,none⟩),.string x] w λe m=>e=.returned (.tuple #[])/\w=m:=by
 obtain⟨n,p,r,u,y,z,B,C⟩:=h.cells;have E:((code:Int) != 0)=true:=TC;go_enter func271,ntmps271;go_wp2_with fail
 first|go_end0|refine VN (V1 rfl _ _ _) rfl ?_
 exact⟨rfl,rfl⟩
end Ref
end
