/- Out of R1b. -/
import Derived.Test.YtpekpdimdelncaaGreatDoorP11
import Derived.BigQuiet
set_option maxRecDepth 100000
set_option maxHeartbeats 4000000
set_option linter.defProp false
namespace Go.Proofs.YtpekpdimdelncaaGreatDoor
open Go.RowKit
section
open bY
open Tryz
namespace Ref
variable{l:a_}{k m:Nat}
def gp:Option Nat->Xa
 |some n=>.tuple #[.int .i64 (n:Int),.bool true]
 |none=>.tuple #[.int .i64 0,.bool false]
def sw(l:a_)(k m:Nat):Prop:=m<=9223372036854775807/\iJ (l.drop k) m=dJ l
def GG(h:sw l k m)(b:k<l.length)(hd:dA l[k]=false):dJ l=none:=by
 rw[<-h.2,aR b,iJ,ae (by rw[hd];simp)]
def BW(h:sw l k m)(b:k<l.length)(hd:dA l[k]=true)(e:(9223372036854775807-(l[k].toNat-48)) / 10<m):dJ l=none:=by
 rw[<-h.2,aR b,iJ,ag hd,ag e]
def BX(h:sw l k m)(b:k<l.length)(hd:dA l[k]=true)(e:¬(9223372036854775807-(l[k].toNat-48)) / 10<m):sw l (k+1) (10*m+(l[k].toNat-48)):=by
 have hb:=ow hd;refine⟨by omega,?_⟩;rw[<-h.2,aR b,iJ,ag hd,ae e]
def EA(h:sw l k m)(b:l.length<=k):dJ l=some m:=by
 rw[<-h.2,aQ b];rfl
def EB(m c:Int)(b:48<=c)(h1:c<=57)(e:0<=m)(j:¬(9223372036854775807-(c-48)) / 10<m):0<=10*m+(c-48)/\10*m<=9223372036854775807/\10*m+(c-48)<=9223372036854775807:=RM
def ED(m c)(h:48<=c):((10*m+(c-48):Nat):Int)=10*m+(c-48):=RM
def wS(m c:Nat)(h:48<=c)(h1:c<=57):((9223372036854775807-(c-48)) / 10<m)↔((9223372036854775807-(c-48)) / 10<(m:Int)):=RM
def qz(s w)(hs:s.size<=20000000)(K:0<s.size)(O:s.toList.isEmpty=false)(hb:((s[0].toNat:Int)==48)=false\/((s[0].toNat:Int)==48)=true/\¬(1)<(s.size:Int))(E:sw s.1.1 0 0):Calls prog 231 #[.string s] w λe w'=>e=.returned (gp (dJ s.1.1))/\w=w':=by
 rcases hb with hb|⟨hb,P⟩
 all_goals
  have B:=bZ E;clear E;go_enter func231,ntmps231;go_wp2_with fail
  go_loop [4,5] (λn i=>∃k m:Nat,i=.int .i64 k/\n=.int .i64 m/\k<=s.size/\sw s.1.1 k m) (λ_ i=>s.size-(intOf i).toNat)
  case atStart=>exact⟨0,0,rfl,rfl,au _,B.Z⟩
  case round =>
   clear B;obtain⟨k,m,rfl,rfl,M,b⟩:=hrel;by_cases D:k<s.size
   ·have GE:=bZ (dH s k D);have u:k<s.1.1.length:=S4;by_cases j:dA s[k]=true
    ·have hb:=ow j;have p:dA (s.1.1[k])=true:=by rw[<-GE.Z];exact j
     have I:48<=(s[k].toNat:Int):=RM;have J:(s[k].toNat:Int)<=57:=RM;by_cases z:(9223372036854775807-((s[k].toNat:Int)-48)) / 10<(m:Int)
     ·have r:=bZ (BW b u p (by rw[<-GE.Z];exact(wS m _ hb.1 hb.2).2 z));clear b j hb p;go_wp2_with fail;go_ret2;exact⟨by rw[r.Z];rfl,rfl⟩
     have y:=BX b u p (by rw[<-GE.Z];exact λh=>z ((wS m _ hb.1 hb.2).1 h));rw[<-GE.Z]at y;have G:=bZ y;have F:=bZ (ED m s[k].toNat hb.1);obtain⟨Q,R,S⟩:=EB m s[k].toNat I J RM z;clear b j hb p y;go_wp2_with fail;refine⟨⟨k+1,10*m+(s[k].toNat-48),by go_num,by rw[F.Z],by omega,G.Z⟩,by simp[intOf];omega⟩
    have C:dA (s.1.1[k])=false:=by rw[<-GE.Z];simpa using j
    have r:=bZ (GG b u C);have p:(s[k].toNat:Int)<48\/57<(s[k].toNat:Int):=by
     simp[dA,wk]at j;omega
    clear b j C;by_cases N:(s[k].toNat:Int)<48
    ·clear p;go_wp2_with fail;go_ret2;exact⟨by rw[r.Z];rfl,rfl⟩
    have L:57<(s[k].toNat:Int):=RM;clear p;go_wp2_with fail;go_ret2;exact⟨by rw[r.Z];rfl,rfl⟩
   have r:=bZ (EA b R5);clear b;go_wp2_with fail;go_ret2;exact⟨by rw[r.Z];rfl,rfl⟩
def eC(s w)(hs:s.size<=20000000):Calls prog 231 #[.string s] w λe w'=>e=.returned (gp (dJ s.1.1))/\w=w':=by
 by_cases j:s.1.1=[]
 ·have b:dJ s.1.1=none:=by rw[dJ,ag (Or.inl j)]
  have D:s.toList.isEmpty=true:=by rw[UC,j];rfl
  have p:=bZ b;clear b j;go_enter func231,ntmps231;go_wp2_with fail;go_ret2;exact⟨by rw[p.Z];rfl,rfl⟩
 obtain⟨c,r,hl⟩:∃c r,s.1.1=c :: r:=by
  cases hl:s.1.1 with
  |nil=>exact absurd hl j
  |cons c r=>exact⟨c,r,rfl⟩
 have B:s.size=r.length+1:=by rw[UB,hl];rfl
 have u:0<s.size:=RM;have n:s[0]=c:=by rw[dH s 0 u];simp[hl]
 have y:s.toList.isEmpty=false:=by rw[UC,hl];rfl
 by_cases hz:c=48/\1<s.size
 ·have b:dJ s.1.1=none:=by
   rw[dJ,ag];right;rw[hl];exact⟨by rw[hz.1];rfl,by simp;omega⟩
  have hb:((s[0].toNat:Int)==48)=true:=by rw[n,hz.1];rfl
  have E:(1:Int)<(s.size:Int):=RM;have p:=bZ b;clear b hl hz n B j;go_enter func231,ntmps231;go_wp2_with fail;go_ret2;exact⟨by rw[p.Z];rfl,rfl⟩
 have b:sw s.1.1 0 0:=by
  refine⟨au _,?_⟩;rw[dJ,ae,aW];rintro(e|⟨e1,e2⟩)
  ·rw[hl]at e;cases e
  rw[hl]at e1 e2;have z:c=48:=by simpa using e1
  have C:1<r.length+1:=e2;exact hz ⟨z,by omega⟩
 by_cases hc:c=48
 ·exact qz s w hs u y (.inr ⟨by rw[n,hc];rfl,λh=>hz ⟨hc,by omega⟩⟩) b
 refine qz s w hs u y (.inl ?_) b;rw[n,aw];intro e;exact hc (Qi.1 (by show c.toNat=48;omega))
end Ref
end
section
open bY
open Tryz
namespace Ref
variable{l:a_}{k:Nat}
theorem EE(s w):Calls prog 150 #[.string s] w λe w'=>e=.returned (.bool (gU s.1.1))/\w=w':=by
 go_enter func150,ntmps150;go_wp2
 all_goals first
  |(exfalso;simp_all;done)
  |(go_ret;exact⟨by rw[<-UC];simp[gU, *],rfl⟩)
def sy(c:UInt8):Bool:=fH c&&!(c==39)
def lN(l:a_)(k:Nat):Bool:=((l.drop k).take (l.length-1-k)).all sy
def dN(l:a_):Bool:=decide (2<=l.length/\l.length<=32/\l.head?=some 39/\l.getLast?=some 39)&&lN l 1
def EG(h:l.length-1<=k):lN l k=true:=by
 unfold lN;rw[show l.length-1-k=0 by omega];rfl
def BZ(h:k<l.length-1):lN l k=(sy (l[k]' RM)&&lN l (k+1)):=by
 unfold lN;rw[aR (show k<l.length by omega),show l.length-1-k=(l.length-1-(k+1))+1 by omega,P5,Qy]
def tQ(h:¬(2<=l.length/\l.length<=32/\l.head?=some 39/\l.getLast?=some 39)):dN l=false:=by
 unfold dN;rw[aF h];rfl
def EH(s w)(hs:s.size<=20000000)(h:¬(2<=s.size/\s.size<=32/\s.1.1.head?=some 39/\s.1.1.getLast?=some 39)):Calls prog 144 #[.string s] w λe w'=>e=.returned (.bool false)/\w=w':=by
 by_cases h1:s.size<2
 ·clear h;go_enter func144,ntmps144;go_wp2_with fail;go_ret;exact⟨rfl,rfl⟩
 by_cases h2:32<s.size
 ·clear h;go_enter func144,ntmps144;go_wp2_with fail;go_ret;exact⟨rfl,rfl⟩
 have j:0<s.size:=RM;have p:s.size-1<s.size:=RM;have n:s.1.1.head?=some s[0]:=by
  rw[dH s 0 j,QI,aq (by simpa using j)]
 have m:s.1.1.getLast?=some s[s.size-1]:=by
  rw[dH s _ p,Rr,aq R5];simp
 by_cases b:((s[0].toNat:Int)==39)=true
 ·have y:((s[s.size-1].toNat:Int) != 39)=true:=by
   rw[aZ];intro e;apply h;refine⟨by omega,by omega,?_,?_⟩
   ·rw[n];congr 1;exact Qi.1 (by have:=eq_of_beq b;show s[0].toNat=39;omega)
   rw[m];congr 1;exact Qi.1 (by show s[s.size-1].toNat=39;omega)
  have u:((s[0].toNat:Int) != 39)=false:=by rw[eq_of_beq b];rfl
  go_enter func144,ntmps144;go_wp2_with fail;go_ret;exact⟨rfl,rfl⟩
 have r:((s[0].toNat:Int) != 39)=true:=by rw[aZ];simpa using b
 go_enter func144,ntmps144;go_wp2_with fail;go_ret;exact⟨rfl,rfl⟩
def B0(s w)(h1:2<=s.size)(h2:s.size<=32)(z:s.1.1.head?=some 39)(hl:s.1.1.getLast?=some 39):Calls prog 144 #[.string s] w λe w'=>e=.returned (.bool (lN s.1.1 1))/\w=w':=by
 have y:0<s.size:=RM;have E:s.size-1<s.size:=RM;have D:s.1.1.head?=some s[0]:=by
  rw[dH s 0 y,QI,aq (by simpa using y)]
 have C:s.1.1.getLast?=some s[s.size-1]:=by
  rw[dH s (s.size-1) E,Rr,aq R5];simp
 have e0:s[0]=39:=by rw[D]at z;exact aB z
 have e1:s[s.size-1]=39:=by rw[C]at hl;exact aB hl
 go_enter func144,ntmps144;go_wp2_with fail
 go_loop [3] (λi=>∃k:Nat,i=.int .i64 k/\1<=k/\k<=s.size/\Hid (lN s.1.1 k=lN s.1.1 1)) (λi=>s.size-(intOf i).toNat)
 case atStart=>exact⟨1,rfl,af _,by omega,rfl⟩
 case round =>
  obtain⟨k,rfl,M,N,n⟩:=hrel;by_cases F:k<s.size-1
  ·have G:k<s.size:=RM;have I:(k:Int)<(s.size:Int)-1:=RM;have GE:=bZ (dH s k G);have j:=n.Z;rw[BZ (by rw[<-UB];exact F),<-GE.Z]at j;by_cases p:sy s[k]=true
   ·rw[p,Qk]at j;have u:(32<=(s[k].toNat:Int)/\(s[k].toNat:Int)<=126)/\¬s[k]=39:=by simpa[sy,fH]using p
    obtain⟨⟨J,K⟩,B⟩:=u;have L:((s[k].toNat:Int)==39)=false:=by
     rw[aw];intro e;exact B (Qi.1 (by show s[k].toNat=39;omega))
    have m:=bZ j;go_wp2_with fail;exact⟨⟨k+1,by go_num,by omega,by omega,m⟩,by simp[intOf];omega⟩
   have r:sy s[k]=false:=SC;rw[r,Qz]at j;have m:=bZ j;have u:(s[k].toNat:Int)<32\/(¬(s[k].toNat:Int)<32/\126<(s[k].toNat:Int))\/(¬(s[k].toNat:Int)<32/\¬126<(s[k].toNat:Int)/\((s[k].toNat:Int)==39)=true):=by
    by_cases a:(s[k].toNat:Int)<32
    ·exact Or.inl a
    by_cases b:126<(s[k].toNat:Int)
    ·exact Or.inr (Or.inl ⟨a,b⟩)
    refine Or.inr (Or.inr ⟨a,b,?_⟩);have:s[k]=39:=by
     simp only[sy,fH,Bool.and_eq_false_iff,decide_eq_false_iff_not,Bool.not_eq_false',P']at r;rcases r with(x|x)|x
     ·omega
     ·omega
     exact x
    rw[this];rfl
   clear j n p r;rcases u with a|⟨a,b⟩|⟨a,b,c⟩
   all_goals
    go_wp2_with fail;go_ret;exact⟨hC m.Z,rfl⟩
  have I:¬(k:Int)<(s.size:Int)-1:=RM;have j:=n.Z;rw[EG (by rw[<-UB];omega)]at j;have m:=bZ j;clear j n;go_wp2_with fail;go_ret;exact⟨hC m.Z,rfl⟩
def eJ(s w)(hs:s.size<=20000000):Calls prog 144 #[.string s] w λe w'=>e=.returned (.bool (dN s.1.1))/\w=w':=by
 by_cases h:2<=s.size/\s.size<=32/\s.1.1.head?=some 39/\s.1.1.getLast?=some 39
 ·have e:dN s.1.1=lN s.1.1 1:=by
   unfold dN;rw[aS SF];rfl
  rw[e];exact B0 s w h.1 h.2.1 h.2.2.1 h.2.2.2
 rw[tQ SF];exact EH s w hs h
end Ref
end
section
open bY
open Tryz
namespace Ref
variable{l:a_}{k:Nat}{c:UInt8}
def nS(l:a_)(k:Nat):Bool:=(l.drop k).all eF
def jw(l:a_):Bool:=decide (1<=l.length/\l.length<=8/\l.head?.map eo=some true)&&(nS l 0&&!gU l)
def EI(h:l.length<=k):nS l k=true:=by
 unfold nS;rw[aQ h];rfl
def B1(h:k<l.length):nS l k=(eF l[k]&&nS l (k+1)):=by
 unfold nS;rw[aR h,Qy]
def mb:eo c=true↔97<=(c.toNat:Int)/\(c.toNat:Int)<=122:=by
 simp[eo,zG]
def kd:dA c=true↔48<=(c.toNat:Int)/\(c.toNat:Int)<=57:=by
 simp[dA,wk]
def qA(c):eF c=(eo c||dA c):=rfl
def EJ(s w)(hs:s.size<=20000000)(h:¬(1<=s.size/\s.size<=8/\s.1.1.head?.map eo=some true)):Calls prog 108 #[.string s] w λe w'=>e=.returned (.bool false)/\w=w':=by
 by_cases h1:s.size<1
 ·have r:(s.size:Int)<1:=RM;go_enter func108,ntmps108;go_wp2_with fail;go_ret;exact⟨rfl,rfl⟩
 by_cases h2:8<s.size
 ·have u:8<(s.size:Int):=RM;go_enter func108,ntmps108;go_wp2_with fail;go_ret;exact⟨rfl,rfl⟩
 have b:0<s.size:=RM;have j:s.1.1.head?=some s[0]:=by
  rw[dH s 0 b,QI,aq Sy]
 have m:¬eo s[0]=true:=λe=>h ⟨by omega,by omega,by rw[j,QJ,e]⟩;rw[mb]at m;by_cases n:(s[0].toNat:Int)<97
 ·clear h j m;go_enter func108,ntmps108;go_wp2_with fail;go_ret;exact⟨rfl,rfl⟩
 have p:122<(s[0].toNat:Int):=RM;go_enter func108,ntmps108;go_wp2_with fail;go_ret;exact⟨rfl,rfl⟩
def B2(s w)(h1:1<=s.size)(h2:s.size<=8)(u:s.1.1.head?.map eo=some true):Calls prog 108 #[.string s] w λe w'=>e=.returned (.bool (nS s.1.1 0&&!gU s.1.1))/\w=w':=by
 have p:0<s.size:=RM;have C:s.1.1.head?=some s[0]:=by
  rw[dH s 0 p,QI,aq SC]
 have e0:eo s[0]=true:=by rw[C]at u;exact aB u
 rw[mb]at e0;obtain⟨G,I⟩:=e0;go_enter func108,ntmps108;go_wp2_with fail
 go_loop [3] (λi=>∃k:Nat,i=.int .i64 k/\k<=s.size/\Hid (nS s.1.1 k=nS s.1.1 0)) (λi=>s.size-(intOf i).toNat)
 case atStart=>exact⟨0,rfl,au _,rfl⟩
 case round =>
  obtain⟨k,rfl,J,n⟩:=hrel;by_cases y:k<s.size
  ·have D:(k:Int)<(s.size:Int):=RM;have GE:=bZ (dH s k y);have b:=n.Z;rw[B1 (by rw[<-UB];exact y),<-GE.Z,qA]at b;by_cases m:eo s[k]=true
   ·rw[m,Bool.true_or,Qk]at b;obtain⟨a1,F⟩:=mb.1 m;have b2:¬(s[k].toNat:Int)<=57:=RM;have b1:48<=(s[k].toNat:Int):=RM;have j:=bZ b;go_wp2_with fail;exact⟨⟨k+1,by go_num,by omega,j⟩,by simp[intOf];omega⟩
   have ha':eo s[k]=false:=SD;rw[ha',QK]at b;have z:=λh=>m (mb.2 h);by_cases hb:dA s[k]=true
   ·rw[hb,Qk]at b;obtain⟨b1,b2⟩:=kd.1 hb;have j:=bZ b;go_wp2_with fail;exact⟨⟨k+1,by go_num,by omega,j⟩,by simp[intOf];omega⟩
   have r:dA s[k]=false:=Sq;rw[r,Qz]at b;have B:=λh=>hb (kd.2 h);have j:=bZ b;have hcs:(97<=(s[k].toNat:Int)/\¬(s[k].toNat:Int)<=122/\48<=(s[k].toNat:Int)/\¬(s[k].toNat:Int)<=57)\/(¬97<=(s[k].toNat:Int)/\48<=(s[k].toNat:Int)/\¬(s[k].toNat:Int)<=57)\/(¬97<=(s[k].toNat:Int)/\¬48<=(s[k].toNat:Int)):=by
    by_cases x1:97<=(s[k].toNat:Int)
    ·exact Or.inl ⟨x1,λh=>z ⟨x1,h⟩,by omega,by omega⟩
    by_cases x2:48<=(s[k].toNat:Int)
    ·exact Or.inr (Or.inl ⟨x1,x2,λh=>B ⟨x2,h⟩⟩)
    exact Or.inr (Or.inr ⟨x1,x2⟩)
   clear b n m ha' hb r z B;rcases hcs with⟨x1,x2,E,x4⟩|⟨x1,x2,E⟩|⟨x1,x2⟩
   all_goals
    go_wp2_with fail;go_ret;exact⟨hC (by rw[<-j.Z];rfl),rfl⟩
  have D:¬(k:Int)<(s.size:Int):=RM;have b:=n.Z;rw[EI (by rw[<-UB];omega)]at b;have j:=bZ b;go_wp2_with(go_at_call 150;refine(EE _ _).mono ?_;rintro e w' ⟨rfl,rfl⟩);go_ret;exact⟨hC (by rw[<-j.Z];rfl),rfl⟩
def eg(s w)(hs:s.size<=20000000):Calls prog 108 #[.string s] w λe w'=>e=.returned (.bool (jw s.1.1))/\w=w':=by
 by_cases h:1<=s.size/\s.size<=8/\s.1.1.head?.map eo=some true
 ·have e:jw s.1.1=(nS s.1.1 0&&!gU s.1.1):=by
   unfold jw;rw[aS SF];rfl
  rw[e];exact B2 s w h.1 h.2.1 h.2.2
 have e:jw s.1.1=false:=by
  unfold jw;rw[aF SF];rfl
 rw[e];exact EJ s w hs h
end Ref
end
section
open bY
namespace Ref
variable{l:a_}{k:Nat}
def B3:∀n m r,m<n->(h:m<r.length)->(∀j (hj:j<m),r[j]' RM≠39)->r[m]=39->eG n r=if(r.take m).all fH=true then some m else none:=by
 intro n
 induction n with
 |zero=>intro m r h;omega
 |succ n C =>
  intro m r D p u e;cases r with
  |nil=>simp at p
  |cons c t =>
   cases m with
   |zero =>
    have:c=39:=e;simp[eG,this]
   |succ m =>
    have hc:c≠39:=u 0 RM;have z:=C m t RM SC (λj hj=>u (j+1) RM) e;have y:((c :: t).take (m+1)).all fH=(fH c&&(t.take m).all fH):=by rw[P5,Qy]
    have eq:eG (n+1) (c :: t)=if c=39 then some 0 else if fH c=true then(eG n t).map _ else none:=rfl
    rw[y,eq,ae hc];by_cases b:fH c=true
    ·rw[ag b,z,b,Qk];split<;>rfl
    have B:fH c=false:=Sy;rw[ae b,B,Qz];rfl
def zO:∀n r,(∀j (h:j<r.length),j<n->r[j]≠39)->eG n r=none:=by
 intro n
 induction n with
 |zero=>intro r _;rfl
 |succ n m =>
  intro r b;cases r with
  |nil=>rfl
  |cons c t =>
   have hc:c≠39:=b 0 R2 RM;have e:=m t (λj h hj=>b (j+1) Sf RM);simp only[eG,hc,Qn,e];split<;>rfl
def Oj(l:a_)(k:Nat):Prop:=∀j (h:j<l.length),1<=j->j<k->l[j]≠39
def Dy(b:l.head?=some 39)(h:Oj l k)(h1:1<=k)(z:k<l.length)(E:k<32)(n:l[k]=39):dM l=if dN (l.take (k+1))=true then some (k-1)else none:=by
 obtain⟨r,rfl⟩:∃r,l=39 :: r:=by
  cases l with
  |nil=>simp at b
  |cons c r=>simp at b;exact⟨r,by rw[b]⟩
 obtain⟨m,rfl⟩:∃m,k=m+1:=⟨k-1,by omega⟩;have p:m<r.length:=by simpa using z
 have u:∀j (hj:j<m),r[j]' RM≠39:=λj hj=>h (j+1) R5 RM RM;have C:=B3 31 m r RM p u n;have e1:dM (39 :: r)=eG 31 r:=by simp[dM]
 have hlen:((39 :: r).take (m+1+1)).length=m+2:=R5;have B:((39 :: r).take (m+1+1)).getLast?=some 39:=by
  rw[Rr,hlen,Rt];rw[ag RM,show m+2-1=m+1 by omega,List.getElem?_cons_succ,aq p];exact congrArg some n
 have D:lN ((39 :: r).take (m+1+1)) 1=(r.take m).all fH:=by
  unfold lN;rw[hlen,P5,List.drop_one,List.tail_cons,Ru,show m+2-1-1=m by omega,show min m _=m by omega];apply QE.2;rw[P_,P_];constructor
  ·intro hx c hc;have:=hx c hc;simp[sy]at this;exact this.1
  intro hx c hc;have e:=hx c hc;obtain⟨j,hj,rfl⟩:=QW hc;have y:j<m:=by simp at hj;omega
  have:=u j y;simp only[sy,e,Qk,Bool.not_eq_true',aw];simpa using this
 have e:dN ((39 :: r).take (m+1+1))=(r.take m).all fH:=by
  unfold dN;rw[aS ⟨by rw[hlen];omega,by rw[hlen];omega,by rw[P5];rfl,B⟩,Qk,D]
 rw[e1,C,e];rfl
def Dz(b:l.head?=some 39)(h:Oj l k)(e:l.length<=k\/32<=k):dM l=none:=by
 obtain⟨r,rfl⟩:∃r,l=39 :: r:=by
  cases l with
  |nil=>simp at b
  |cons c r=>simp at b;exact⟨r,by rw[b]⟩
 have e1:dM (39 :: r)=eG 31 r:=by simp[dM]
 rw[e1];apply zO;intro j hj m;exact h (j+1) (by simpa using hj) RM (by simp at e;omega)
def fw(l:a_):Nat :=match dM l with
 |some n=>n+2
 |none=>0
def B4(s w)(hs:s.size<=1000)(F:s.1.1.head?=some 39):Calls Tryz.prog 102 #[.string s] w λe w'=>e=.returned (.int .i64 (fw s.1.1))/\w=w':=by
 have r:=bZ F;go_enter Tryz.func102,Tryz.ntmps102;go_wp2_with fail
 go_loop [3] (λi=>∃k:Nat,i=.int .i64 k/\1<=k/\k<=32/\Hid (Oj s.1.1 k)) (λi=>32-(intOf i).toNat)
 case atStart=>exact⟨1,rfl,af _,by omega,λj h h1 h2=>by omega⟩
 case round =>
  obtain⟨k,rfl,G,L,n⟩:=hrel;by_cases z:k<s.size
  ·have J:(k:Int)<(s.size:Int):=RM;by_cases D:k<32
   ·have E:(k:Int)<32:=RM;have GE:=bZ (dH s k z);have I:k<s.1.1.length:=by simpa using z
    by_cases p:((s[k].toNat:Int)==39)=true
    ·have C:s.1.1[k]=39:=by rw[<-GE.Z];exact Qi.1 (by have:=eq_of_beq p;show s[k].toNat=39;omega)
     have hx:=Dy r.Z n.Z G I D C;have u:=eJ (s.extract 0 (k+1)) w (by have:=ml s 0 (k+1);omega);rw[UG,aW,Q7]at u;generalize dN _=b at hx u;have m:=bZ hx;have y:=bZ u;cases b
     ·go_wp2_with fail;refine y.Z.mono ?_;rintro e w'⟨rfl,rfl⟩;go_wp2_with fail;go_ret;exact⟨by unfold fw;rw[m.Z];rfl,rfl⟩
     go_wp2_with fail;refine y.Z.mono ?_;rintro e w'⟨rfl,rfl⟩;go_wp2_with fail;go_ret;refine⟨?_,rfl⟩;unfold fw;rw[m.Z];show Ending.returned (.int .i64 ((k:Int)+1))=.returned (.int .i64 ((k-1+2:Nat):Int));rw[show(((k-1+2:Nat)):Int)=(k:Int)+1 by omega]
    have M:((s[k].toNat:Int)==39)=false:=SC;have K:Oj _ (k+1):=λj h h1 h2=>by
     by_cases hj:j<k
     ·exact n.Z j h h1 hj
     have:j=k:=RM;subst this;rw[<-GE.Z];intro e;rw[e]at p;exact p rfl
    have B:=bZ K;go_wp2_with fail;exact⟨⟨k+1,by go_num,by omega,by omega,B⟩,by simp[intOf];omega⟩
   have E:¬(k:Int)<32:=RM;have m:=bZ (Dz r.Z n.Z (Or.inr RM));go_wp2_with fail;go_ret;exact⟨by unfold fw;rw[m.Z];rfl,rfl⟩
  have J:¬(k:Int)<(s.size:Int):=RM;have m:=bZ (Dz r.Z n.Z (Or.inl R5));go_wp2_with fail;go_ret;exact⟨by unfold fw;rw[m.Z];rfl,rfl⟩
end Ref
end
section
open bY
namespace Ref
variable{c:UInt8}{t x:a_}
def jq:a_->Nat
 |[]=>0
 |c :: r=>if c=39 then max (fw (c :: r)) 1 else if eo c=true then dC eF (c :: r)else if dA c=true then dC dA (c :: r)else 1
def zP(p):∀l:a_,∀c∈l.take (dC p l),p c=true:=by
 intro l
 induction l with
 |nil=>intro c hc;simp at hc
 |cons d r b =>
  intro c hc;simp only[dC]at hc;split at hc
  ·rename_i hd;rw[P5]at hc;rcases aP.1 hc with rfl|hc
   ·exact hd
   exact b c hc
  simp at hc
def jP(p c r)(h:p c=true):∃t,(c :: r).take (dC p (c :: r))=c :: t:=by
 simp only[dC,h,aN,P5];exact⟨_,rfl⟩
def iB(h:dA c=false):dJ (c :: t)=none:=by
 unfold dJ;split
 ·rfl
 simp[iJ,h]
def iK(h:c≠39):dN (c :: t)=false:=by
 apply tQ;rintro⟨_,_,h1,_⟩;exact h SR
def mT(h:eo c=false):jw (c :: t)=false:=by
 unfold jw;rw[aF (by rintro⟨_,_,h1⟩;simp[h]at h1)];rfl
def zQ(h:eo c=true\/dA c=true):c≠39:=by
 rintro rfl;rcases h with h|h<;>revert h<;>decide
def lO(h:eo c=true):dA c=false:=by
 rw[mb]at h;cases hd:dA c with
 |false=>rfl
 |true=>rw[kd]at hd;omega
def rE(c r):(dA c=true/\jq (c :: r)=dC dA (c :: r)/\bY.tok (c :: r)=if(dT ((c :: r).take (dC dA (c :: r)))).isSome then(2,dC dA (c :: r)) else(1,0)) \/(eo c=true/\jq (c :: r)=dC eF (c :: r)/\bY.tok (c :: r)=if gU ((c :: r).take (dC eF (c :: r)))=true then(5,dC eF (c :: r))else if 8<dC eF (c :: r) then(1,0) else(4,dC eF (c :: r))) \/(c=39/\jq (c :: r)=max (fw (c :: r)) 1/\bY.tok (c :: r)=fa (dM (c :: r))) \/(dA c=false/\eo c=false/\c≠39/\jq (c :: r)=1/\bY.tok (c :: r)=if jl c=true then(6,1) else(1,0)):=by
 have j:=fZ (c :: r) c r rfl;have e:jq (c :: r)=if c=39 then max (fw (c :: r)) 1 else if eo c=true then dC eF (c :: r)else if dA c=true then dC dA (c :: r)else 1:=rfl
 by_cases h1:dA c=true
 ·refine Or.inl ⟨h1,?_,by rw[j,ag h1]⟩;have hl:¬eo c=true:=λh=>by rw[lO h]at h1;cases h1
  rw[e,ae (zQ (Or.inr h1)),ae hl,ag h1]
 by_cases h2:eo c=true
 ·refine Or.inr (Or.inl ⟨h2,?_,by rw[j,ae h1,ag h2]⟩);rw[e,ae (zQ (Or.inl h2)),ag h2]
 by_cases b:c=39
 ·refine Or.inr (Or.inr (Or.inl ⟨b,?_,by rw[j,ae h1,ae h2,ag b]⟩));rw[e,ag b]
 refine Or.inr (Or.inr (Or.inr ⟨by simpa using h1,by simpa using h2,b,?_,by rw[j,ae h1,ae h2,ae b]⟩));rw[e,ae b,ae h2,ae h1]
def kP(l)(h:2<=(bY.tok l).1):jq l=(bY.tok l).2:=by
 cases l with
 |nil=>simp[bY.tok]at h
 |cons c r =>
  rcases rE c r with⟨_,h2,b⟩|⟨_,h2,b⟩|⟨_,h2,b⟩|⟨_,_,_,h2,b⟩
  ·rw[b]at h ⊢;split at h
   ·rename_i hx;rw[ag hx,h2]
   simp at h
  ·rw[b]at h ⊢;split at h
   ·rename_i hx;rw[ag hx,h2]
   rename_i hx;rw[ae hx];split at h
   ·simp at h
   rename_i hy;rw[ae hy,h2]
  ·rw[b]at h ⊢;rw[h2];unfold fw;cases e:dM (c :: r) with
   |none=>rw[e]at h;simp[fa]at h
   |some n=>simp[fa]
  rw[b]at h ⊢;split at h
  ·rename_i hx;rw[ag hx,h2]
  simp at h
def known(x:a_):Bool:=gU x||(match x with
 |[c]=>jl c
 |_=>false)
def wT(h:gU x=true):∃c t,x=c :: t/\eo c=true:=by
 simp only[gU,Ql,P']at h;rcases h with(((((((((((h|h)|h)|h)|h)|h)|h)|h)|h)|h)|h)|h)|h<;>subst h<;>exact⟨_,_,rfl,by decide⟩
def GH:∀l c,0<=Lib.indexByte l c↔c∈l:=by
 intro l c
 induction l with
 |nil=>simp[Lib.indexByte]
 |cons b l e =>
  have j:=Lib.indexByte_ge l c;rw[Lib.indexByte,aP,<-e];by_cases h:b=c
  ·subst h;simp
  have h':(b==c)=false:=Sf;rw[h'];simp only[Q8,Qn,P'];constructor
  ·intro hx;split at hx<;>omega
  rintro(hx|hx)
  ·exact absurd hx.symm h
  split<;>omega
def rF(c):jl c=true↔c∈([40,41,91,93,123,125,44,43,45,42,47,60,61]:a_):=by
 unfold jl;rw[QF];exact GH _ _
def qB(h:jl c=true):dA c=false/\eo c=false/\c≠39:=by
 rw[rF]at h;simp only[aP,RL,QL]at h;rcases h with rfl|rfl|rfl|rfl|rfl|rfl|rfl|rfl|rfl|rfl|rfl|rfl|rfl<;>decide
def tS(l x:a_)(hx:known x=true):(l.take (jq l)=x)↔(l.take (bY.tok l).2=x):=by
 by_cases h2:2<=(bY.tok l).1
 ·rw[kP l h2]
 have I:x≠[]:=by rintro rfl;revert hx;decide
 have y:(∃c t,x=c :: t/\eo c=true/\gU x=true)\/(∃c,x=[c]/\jl c=true):=by
  simp only[known,Ql]at hx;rcases hx with hx|hx
  ·obtain⟨c,t,h1,b⟩:=wT hx;exact Or.inl ⟨c,t,h1,b,hx⟩
  split at hx
  ·rename_i c;exact Or.inr ⟨c,rfl,hx⟩
  cases hx
 cases l with
 |nil=>simp[jq,bY.tok]
 |cons c r =>
  have C:(c :: r).take (jq (c :: r))≠x/\(bY.tok (c :: r)).2=0:=by
   rcases rE c r with⟨h1,p,b⟩|⟨h1,p,b⟩|⟨h1,p,b⟩|⟨h1,D,J,p,b⟩
   ·rw[b]at h2 ⊢;split at h2
    ·simp at h2
    rename_i j;rw[ae j];refine⟨?_,rfl⟩;rw[p];obtain⟨t,z⟩:=jP dA c r h1;rw[z];intro e;rcases y with⟨m,t',e',hl,_⟩|⟨m,e',u⟩
    ·rw[e']at e;injection e with e1 _;subst e1;rw[lO hl]at h1;cases h1
    rw[e']at e;injection e with e1 _;subst e1;rw[(qB u).1]at h1;cases h1
   ·rw[b]at h2 ⊢;split at h2
    ·simp at h2
    rename_i j;rw[ae j];split at h2
    ·rename_i E;rw[ag E];refine⟨?_,rfl⟩;rw[p];intro e;rcases y with⟨m,t',e',hl,G⟩|⟨m,e',u⟩
     ·rw[e]at j;exact j G
     obtain⟨t,z⟩:=jP eF c r (by rw[qA,h1];rfl);rw[z,e']at e;injection e with e1 _;subst e1;rw[(qB u).2.1]at h1;cases h1
    simp at h2
   ·rw[b]at h2 ⊢;cases B:dM (c :: r) with
    |some n=>rw[B]at h2;simp[fa]at h2
    |none =>
     refine⟨?_,rfl⟩;rw[p];have F:fw (c :: r)=0:=by unfold fw;rw[B]
     rw[F];intro e;have e:[c]=x:=e;rcases y with⟨m,t',e',hl,_⟩|⟨m,e',u⟩
     ·rw[e']at e;injection e with e1 _;subst e1;subst h1;exact absurd rfl (zQ (Or.inl hl))
     rw[e']at e;injection e with e1 _;subst e1;exact(qB u).2.2 h1
   rw[b]at h2 ⊢;split at h2
   ·simp at h2
   rename_i j;rw[ae j];refine⟨?_,rfl⟩;rw[p];intro e;have e:[c]=x:=e;rcases y with⟨m,t',e',hl,_⟩|⟨m,e',u⟩
   ·rw[e']at e;injection e with e1 _;subst e1;rw[D]at hl;cases hl
   rw[e']at e;injection e with e1 _;subst e1;exact j u
  constructor
  ·intro e;exact absurd e C.1
  intro e;rw[C.2]at e;exact absurd e.symm I
end Ref
end
section
open bY
namespace Ref
variable{s t:ba}{b i a j:Nat}{v:Xa}
def GI(s:ba)(i:Nat)(t:ba)(code place e:Nat)(v:Xa):Array Xa :=#[.string s,.int .i64 (i:Int),.string t,.int .i64 (code:Int),.int .i64 (place:Int),.int .i64 (e:Int),v]
def gX(w:QV)(s:ba)(b i:Nat)(t:ba)(code place e:Nat)(v:Xa):Prop:=w.1[b]?=some (.cells (GI s i t code place e v) 142 (0,0))
def MJ(w:QV)(s:ba)(b i code place e:Nat)(v:Xa):Prop:=gX w s b i (s.extract i (i+jq (s.1.1.drop i))) code place e v
def gX.lt{w:QV}{code place l:Nat}(h:gX w s b i t code place l v):b<w.1.size:=by
 by_cases e:b<w.1.size
 ·exact e
 unfold gX at h;rw[QH RM]at h;cases h
def gX.cells{w:QV}{code place e:Nat}(h:gX w s b i t code place e v):w.cell? ⟨b,0,none⟩=some (.string s)/\w.cell? ⟨b,1,none⟩=some (.int .i64 i)/\w.cell? ⟨b,2,none⟩=some (.string t)/\w.cell? ⟨b,3,none⟩=some (.int .i64 code)/\w.cell? ⟨b,4,none⟩=some (.int .i64 place)/\w.cell? ⟨b,5,none⟩=some (.int .i64 e)/\w.cell? ⟨b,6,none⟩=some v/\(∀o,w.frozen? ⟨b,o,none⟩=false):=by
 unfold gX at h;refine⟨?_,?_,?_,?_,?_,?_,?_,?_⟩
 all_goals simp[World.cell?,World.frozen?,h,GI]
def gX.tok{w:QV}{code place e:Nat}(h:gX w s b i t code place e v)(j:Nat)(t'):gX ((w.setCell ⟨b,1,none⟩ (.int .i64 j)).setCell ⟨b,2,none⟩ (.string t')) s b j t' code place e v :=ig (ig h 1 (.int .i64 (j:Int))) 2 (.string t')
def gX.O3{w:QV}{code place e:Nat}(h:gX w s b i t code place e v)(t'):gX (w.setCell ⟨b,2,none⟩ (.string t')) s b i t' code place e v :=ig h 2 (.string t')
def gX.drewN{w:QV}{code place e:Nat}(h:gX w s b i t code place e v)(n):gX (w.drewN n) s b i t code place e v:=h
def DA(w:QV)(s:ba)(b j code place l:Nat)(v:Xa)(e:Ending)(w':QV):Prop :=e=.returned (.tuple #[])/\MJ w' s b j code place l v/\w.grownBy w' (some b)
def Fr.drewN{a w:QV}{row:Option Nat}(h:a.grownBy w row)(n):a.grownBy (w.drewN n) row:=⟨h.os,h.tape,h.output,h.size,h.block⟩
def B5(l):fw l<=l.length:=by
 unfold fw;cases e:dM l with
 |none=>exact au _
 |some n=>exact po e
def ll{w:QV}{code place l:Nat}(h:gX w s b a t code place l v)(nq k e)(hj:j=k)(m:k+jq (s.1.1.drop k)=e):DA w s b j code place l v (.returned (.tuple #[])) ((((w.drewN nq).setCell ⟨b,1,none⟩ (.int .i64 k)).setCell ⟨b,2,none⟩ (.string ⟨#[]⟩)).setCell ⟨b,2,none⟩ (.string (s.extract k e))):=by
 subst hj;subst m;exact⟨rfl,((h.drewN nq).tok _ _).O3 _,Fr.set (Fr.set (Fr.set (Fr.drewN (UD _ _) nq) _ _) _ _) _ _⟩
def GJ{w:QV}{code place e:Nat}(h:gX w s b a t code place e v)(nq k)(hj:j=k)(l:jq (s.1.1.drop k)=0):DA w s b j code place e v (.returned (.tuple #[])) (((w.drewN nq).setCell ⟨b,1,none⟩ (.int .i64 k)).setCell ⟨b,2,none⟩ (.string ⟨#[]⟩)):=by
 subst hj;have m:=(h.drewN nq).tok j ⟨#[]⟩;refine⟨rfl,?_,Fr.set (Fr.set (Fr.drewN (UD _ _) nq) _ _) _ _⟩;unfold MJ;rw[l,Qc];have e0:s.extract j j=⟨#[]⟩:=by rw[UM];simp
 rw[e0];exact m
def zR(s b a t code place X v w)(h:gX w s b a t code place X v)(hs:s.size<=1000)(Y:a+t.size<=s.size):Calls Tryz.prog 64 #[.pointer (some ⟨b,0,none⟩)] w (DA w s b (bY.skip s.1.1 (a+t.size)) code place X v):=by
 obtain⟨c0,c1,c2,c3,c4,c5,c6,cf⟩:=h.cells;go_enter Tryz.func64,Tryz.ntmps64;go_wp2_with fail
 go_quiet (fail)
 go_wp2_with fail
 go_loop [2] (λi=>∃k:Nat,i=.int .i64 k/\k<=s.size/\Hid (bY.skip s.1.1 k=bY.skip s.1.1 (a+t.size))) (λi=>s.size-(intOf i).toNat)
 case atStart=>exact⟨a+t.size,by go_num,Y,rfl⟩
 case round =>
  obtain⟨k,rfl,hk,I⟩:=hrel;by_cases L:k<s.size
  ·have ab:(k:Int)<(s.size:Int):=RM;have GE:=bZ (dH s k L);have U:k<s.1.1.length:=by simpa using L
   by_cases hb:((s[k].toNat:Int)==32)=true
   ·have p:=bZ (wQ s.1.1 k U (by rw[<-GE.Z];exact hb));go_wp2_with fail;exact⟨⟨k+1,by go_num,by omega,p.Z.trans I.Z⟩,by simp[intOf];omega⟩
   have Z:((s[k].toNat:Int)==32)=false:=Sq;have p:=bZ (I.Z.symm.trans (pk s.1.1 k (λ_=>by rw[<-GE.Z];exact Z)));have av:((k:Int)==(s.size:Int))=false:=R7;have y:=bZ (show s.1.1.drop k=s[k] :: s.1.1.drop (k+1) by rw[GE.Z];exact aR U);by_cases D:((s[k].toNat:Int)==39)=true
   ·have S:s[k]=39:=Qi.1 (by have:=eq_of_beq D;show s[k].toNat=39;omega);have O:=B4 (s.extract k s.size) (((w.drewN nq).setCell ⟨b,1,none⟩ (.int .i64 (k:Int))).setCell ⟨b,2,none⟩ (.string ⟨#[]⟩)) Td (by rw[kN,y.Z,S];rfl);rw[kN]at O;have u:jq (s.1.1.drop k)=max (fw (s.1.1.drop k)) 1:=by
     rw[y.Z];simp only[jq];rw[ag S]
    have V:=B5 (s.1.1.drop k);rw[aO,<-UB]at V;have l1:¬97<=(s[k].toNat:Int):=by have:=eq_of_beq D;omega
    have d1:¬48<=(s[k].toNat:Int):=by have:=eq_of_beq D;omega
    generalize fw (s.1.1.drop k)=P at O u V;have R:=bZ O;have n:=bZ u;by_cases aC:0<P
    ·have am:0<(P:Int):=RM;go_wp2_with fail;refine R.Z.mono ?_;rintro e w1⟨rfl,rfl⟩;go_wp2_with fail;refine wp_loop_rounds 1 ?_;rw[rounds_succ];go_wp2_with fail
     go_end0
     exact ll h nq k _ p.Z (by rw[n.Z];omega)
    have am:¬0<(P:Int):=RM;go_wp2_with fail;refine R.Z.mono ?_;rintro e w1⟨rfl,rfl⟩;go_wp2_with fail;refine wp_loop_rounds 1 ?_;rw[rounds_succ];go_wp2_with fail
    go_end0
    exact ll h nq k _ p.Z (by rw[n.Z];omega)
   have ao:((s[k].toNat:Int)==39)=false:=S4;have M:¬s[k]=39:=λe=>D SG;by_cases B:eo s[k]=true
   ·obtain⟨l1,l2⟩:=mb.1 B;have b2:¬(s[k].toNat:Int)<=57:=RM;have b1:48<=(s[k].toNat:Int):=RM;have N:1<=dC eF (s.1.1.drop k):=by
     rw[y.Z];exact ko _ _ _ (by rw[qA,B];rfl)
    have u:jq (s.1.1.drop k)=dC eF (s.1.1.drop k):=by
     rw[y.Z];simp only[jq];rw[ae M,ag B]
    have n:=bZ u;go_wp2_with fail
    go_loop [6] (λe=>∃m:Nat,e=.int .i64 ((k+m:Nat):Int)/\1<=m/\k+m<=s.size/\m<=dC eF (s.1.1.drop k)) (λe=>s.size-(intOf e).toNat)
    case atStart=>exact⟨1,by go_num,af _,by omega,N⟩
    case round =>
     obtain⟨m,rfl,ad,ai,z⟩:=hrel;by_cases J:k+m<s.size
     ·have K:((k+m:Nat):Int)<(s.size:Int):=RM;have G:=bZ (dH s (k+m) J);have hlen:m<(s.1.1.drop k).length:=by rw[aO,<-UB];omega
      have C:=bZ (show(s.1.1.drop k)[m]=s[k+m] by rw[List.getElem_drop,G.Z]);by_cases r:eF s[k+m]=true
      ·have l:=bZ (pg eF (s.1.1.drop k) m hlen z (by rw[C.Z];exact r));by_cases T:dA s[k+m]=true
       ·obtain⟨d1,d2⟩:=kd.1 T;go_wp2_with fail;exact⟨⟨m+1,by go_num,by omega,by omega,l.Z⟩,by simp[intOf];omega⟩
       have aa:eo s[k+m]=true:=by
        rw[qA]at r;simpa[T]using r
       obtain⟨x1,x2⟩:=mb.1 aa;have d1:48<=(s[k+m].toNat:Int):=RM;have d2:¬(s[k+m].toNat:Int)<=57:=RM;go_wp2_with fail;exact⟨⟨m+1,by go_num,by omega,by omega,l.Z⟩,by simp[intOf];omega⟩
      have l:=bZ (jk eF (s.1.1.drop k) m z (λ_=>by rw[C.Z];simpa using r));have ay:¬(97<=(s[k+m].toNat:Int)/\(s[k+m].toNat:Int)<=122):=λhx=>r (by rw[qA,mb.2 hx];rfl);have ak:¬(48<=(s[k+m].toNat:Int)/\(s[k+m].toNat:Int)<=57):=λhx=>r (by rw[qA,kd.2 hx,Bool.or_true]);have hcs:(¬48<=(s[k+m].toNat:Int)/\(s[k+m].toNat:Int)<97)\/(48<=(s[k+m].toNat:Int)/\¬(s[k+m].toNat:Int)<=57/\(s[k+m].toNat:Int)<97)\/(48<=(s[k+m].toNat:Int)/\¬(s[k+m].toNat:Int)<=57/\¬(s[k+m].toNat:Int)<97/\122<(s[k+m].toNat:Int)):=RM;rcases hcs with⟨x1,x2⟩|⟨x1,x2,Q⟩|⟨x1,x2,Q,x4⟩
      all_goals go_wp2_with fail
      all_goals first
       |(go_end0;exact ll h nq k _ p.Z S5)
       |(exfalso;rename_i hx;simp at hx;omega)
     have K:¬((k+m:Nat):Int)<(s.size:Int):=RM;have l:=bZ (jk eF (s.1.1.drop k) m z (λF=>by rw[aO,<-UB]at F;omega));go_wp2_with fail
     go_end0
     exact ll h nq k _ p.Z S5
   have ax:¬(97<=(s[k].toNat:Int)/\(s[k].toNat:Int)<=122):=λhx=>B (mb.2 hx);by_cases E:dA s[k]=true
   ·obtain⟨b1,b2⟩:=kd.1 E;have N:1<=dC dA (s.1.1.drop k):=by
     rw[y.Z];exact ko _ _ _ E
    have u:jq (s.1.1.drop k)=dC dA (s.1.1.drop k):=by
     rw[y.Z];simp only[jq];rw[ae M,ae B,ag E]
    have n:=bZ u;go_wp2_with fail
    go_loop [6] (λe=>∃m:Nat,e=.int .i64 ((k+m:Nat):Int)/\1<=m/\k+m<=s.size/\m<=dC dA (s.1.1.drop k)) (λe=>s.size-(intOf e).toNat)
    case atStart=>exact⟨1,by go_num,af _,by omega,N⟩
    case round =>
     obtain⟨m,rfl,ad,ai,z⟩:=hrel;by_cases J:k+m<s.size
     ·have K:((k+m:Nat):Int)<(s.size:Int):=RM;have G:=bZ (dH s (k+m) J);have hlen:m<(s.1.1.drop k).length:=by rw[aO,<-UB];omega
      have C:=bZ (show(s.1.1.drop k)[m]=s[k+m] by rw[List.getElem_drop,G.Z]);by_cases r:dA s[k+m]=true
      ·have l:=bZ (pg dA (s.1.1.drop k) m hlen z (by rw[C.Z];exact r));obtain⟨d1,d2⟩:=kd.1 r;go_wp2_with fail;exact⟨⟨m+1,by go_num,by omega,by omega,l.Z⟩,by simp[intOf];omega⟩
      have l:=bZ (jk dA (s.1.1.drop k) m z (λ_=>by rw[C.Z];simpa using r));have ak:¬(48<=(s[k+m].toNat:Int)/\(s[k+m].toNat:Int)<=57):=λhx=>r (kd.2 hx);have hcs:(¬48<=(s[k+m].toNat:Int))\/(48<=(s[k+m].toNat:Int)/\¬(s[k+m].toNat:Int)<=57):=RM;rcases hcs with x1|⟨x1,x2⟩
      all_goals go_wp2_with fail
      all_goals first
       |(go_end0;exact ll h nq k _ p.Z S5)
       |(exfalso;rename_i hx;simp at hx;omega)
     have K:¬((k+m:Nat):Int)<(s.size:Int):=RM;have l:=bZ (jk dA (s.1.1.drop k) m z (λF=>by rw[aO,<-UB]at F;omega));go_wp2_with fail
     go_end0
     exact ll h nq k _ p.Z S5
   have ap:¬(48<=(s[k].toNat:Int)/\(s[k].toNat:Int)<=57):=λhx=>E (kd.2 hx);have u:jq (s.1.1.drop k)=1:=by
    rw[y.Z];simp only[jq];rw[ae M,ae B,ae E]
   have n:=bZ u;have hcs:(¬97<=(s[k].toNat:Int)/\¬48<=(s[k].toNat:Int))\/(¬97<=(s[k].toNat:Int)/\48<=(s[k].toNat:Int)/\¬(s[k].toNat:Int)<=57)\/(97<=(s[k].toNat:Int)/\¬(s[k].toNat:Int)<=122/\48<=(s[k].toNat:Int)/\¬(s[k].toNat:Int)<=57):=RM;rcases hcs with⟨x1,x2⟩|⟨x1,x2,Q⟩|⟨x1,x2,Q,x4⟩
   all_goals
    go_wp2_with fail;refine wp_loop_rounds 1 ?_;rw[rounds_succ];go_wp2_with fail
    go_end0
    exact ll h nq k _ p.Z (by rw[n.Z])
  have ab:¬(k:Int)<(s.size:Int):=RM;have p:=bZ (I.Z.symm.trans (pk s.1.1 k (λF=>absurd (by simpa using F) L)));have n:=bZ (show jq (s.1.1.drop k)=0 by rw[aQ R5];rfl);go_wp2_with fail
  go_end0
  exact GJ h nq k p.Z n.Z
end Ref
end
