/- Out of K1. -/
import Derived.Test.YtpekpdimdelncaaGreatDoorP27
import Derived.Deep.CutRange
set_option linter.unusedVariables false
set_option linter.unusedSimpArgs false
set_option maxRecDepth 100000
set_option maxHeartbeats 2000000
set_option linter.defProp false
namespace Go.Proofs.YtpekpdimdelncaaGreatDoor
open Go.RowKit Go.Shelf
section
open Tryz
variable{B lb N M:Nat}{s:bY.LS}{L:Nat->Prop}
structure Ld(B:Nat)(w0 w:QV)(lb:Nat)(s:bY.LS)(N:Nat):Prop where
 Kp:∃L,fD w lb s L/\∀k,L k->B<=k
 eh:Below B w0 w
 g:G w
 pD:jI w
 base:B<=w0.1.size
 b8:8<=B
 sound:bY.Sound s
 jr:(cW s.jr).length<=N
def Ld.below{w0 w w':QV}(h:Ld B w0 w lb s N)(b:Xb w w'):Ld B w0 w' lb s N:=by
 obtain⟨L,hA,e⟩:=h.Kp;exact{
  Kp:=⟨L,hA.st (λk j=>b.block k (hA.ct k j).2.1) (eH.below b),e⟩
  eh:=h.eh.trans (b.mono (ah h.base h.eh.size))
  g:=h.g.below b h.g.size
  pD:=h.pD.below b h.g.size
  base:=h.base
  b8:=h.b8
  sound:=h.sound
  jr:=h.jr }
def Ld.le{w0 w:QV}(h:Ld B w0 w lb s N)(hM:N<=M):Ld B w0 w lb s M:={ h with jr:=ah h.jr hM }
def Ld.post{w0 w w':QV}{s':bY.LS}(h:Ld B w0 w lb s N)(hA:fD w lb s L)(e:∀k,L k->B<=k)(l:ez w lb L s' w')(hs:bY.Sound s')(hj:(cW s'.jr).length<=M):Ld B w0 w' lb s' M:=by
 obtain⟨L',h1,h2,m,b⟩:=l;have n:B<=w.1.size:=ah h.base h.eh.size;have hb:Below B w w':=⟨b.os,b.tape,b.output,b.size,λk j=>b.block k RM (λhl=>by have:=e k hl;omega)⟩;exact{
  Kp:=⟨L',h1,λk j=>by
   rcases h2 k j with h|h
   ·exact e k h
   ·omega⟩
  eh:=h.eh.trans hb
  g:=h.g.below hb h.b8
  pD:=h.pD.below hb h.b8
  base:=h.base
  b8:=h.b8
  sound:=hs
  jr:=hj }
def Lr(w:QV)(m:8<=w.1.size):fD (((w.alloc (.map #[] 0)).alloc (.map #[] 0)).alloc (.cells #[.map (some w.1.size),.map (some (w.1.size+1)),.slice none 0 0,.slice none 0 0,.slice none 0 0,.slice none 0 0] 108)) (w.1.size+1+1) bY.LS.new (λk=>w.1.size<=k/\k<=w.1.size+2):=by
 have e2:(((w.alloc (.map #[] 0)).alloc (.map #[] 0)).alloc (.cells #[.map (some w.1.size),.map (some (w.1.size+1)),.slice none 0 0,.slice none 0 0,.slice none 0 0,.slice none 0 0] 108)).1[w.1.size+1+1]?=some (.cells #[.map (some w.1.size),.map (some (w.1.size+1)),.slice none 0 0,.slice none 0 0,.slice none 0 0,.slice none 0 0] 108 (0,0)):=by
  have:=heap_alloc_new ((w.alloc (.map #[] 0)).alloc (.map #[] 0)) (.cells #[.map (some w.1.size),.map (some (w.1.size+1)),.slice none 0 0,.slice none 0 0,.slice none 0 0,.slice none 0 0] 108);rw[World.size_alloc,World.size_alloc]at this;exact this
 have e:fJ (((w.alloc (.map #[] 0)).alloc (.map #[] 0)).alloc (.cells #[.map (some w.1.size),.map (some (w.1.size+1)),.slice none 0 0,.slice none 0 0,.slice none 0 0,.slice none 0 0] 108)) w.1.size []:=by
  refine(xg w).same ?_;rw[UE _ _ _ R5,UE _ _ _ R2]
 have j:fJ (((w.alloc (.map #[] 0)).alloc (.map #[] 0)).alloc (.cells #[.map (some w.1.size),.map (some (w.1.size+1)),.slice none 0 0,.slice none 0 0,.slice none 0 0,.slice none 0 0] 108)) (w.1.size+1) []:=by
  have:=xg (w.alloc (.map #[] 0));rw[World.size_alloc]at this;refine this.same ?_;rw[UE _ _ _ R2]
 refine⟨w.1.size,w.1.size+1,_,_,_,_,{
  eb:=e2
  here:=⟨by omega,by omega⟩
  ne:=RM
  cm:=⟨[],rfl,e,by simp,(λx hx=>by cases hx),(λx hx=>by cases hx),⟨by omega,by omega⟩⟩
  done:=⟨[],rfl,j,(λx hx=>by cases hx),⟨by omega,by omega⟩⟩
  b_:=⟨rfl,.inl ⟨rfl,rfl⟩⟩
  cE:=⟨rfl,.inl ⟨rfl,rfl⟩⟩
  du:=⟨rfl,.inl ⟨rfl,rfl⟩⟩
  jr:=⟨rfl,.inl ⟨rfl,rfl⟩⟩
  dK:=λg b=>by rcases b with b|b|b|b<;>cases b
  apart:=λg b=>by cases b
  oq:=λ_=>rfl
  ct:=λk n=>?_ }⟩
 refine⟨by omega,?_⟩;have l:k=w.1.size\/k=w.1.size+1\/k=w.1.size+1+1:=RM;rcases l with rfl|rfl|rfl
 ·exact .inl e.isMap
 ·exact .inl j.isMap
 exact .inr ⟨_,_,_,e2,.inl rfl⟩
def Ls(w):Calls prog 16 #[] w λe w'=>e=.returned (ptr (w.1.size+1+1))/\w'=((w.alloc (.map #[] 0)).alloc (.map #[] 0)).alloc (.cells #[.map (some w.1.size),.map (some (w.1.size+1)),.slice none 0 0,.slice none 0 0,.slice none 0 0,.slice none 0 0] 108):=by
 have h1:∀w,(Instr.makeMap 104 none).run prog w=.ok (.map (some w.1.size)) (w.alloc (.map #[] 0)):=λw=>by kernel_rfl
 have h2:∀w,(Instr.makeMap 105 none).run prog w=.ok (.map (some w.1.size)) (w.alloc (.map #[] 0)):=λw=>by kernel_rfl
 unfold ptr;go_enter func16,ntmps16;go_wp2_with fail;go_ret;exact⟨rfl,rfl⟩
end
section
open Tryz
variable{s:bY.LS}
def bY.LS.gv(s:bY.LS)(b:a_)(th:bY.cu):bY.LS:={ s with cm:=bY.put s.cm b th }.write (bY.dU b th)
def Ld.fit{B:Nat}{w0 w:QV}{b:Nat}{N:Nat}(h:Ld B w0 w b s N):Fit s N:=⟨h.sound.kb,h.sound.b_,h.sound.len,h.jr⟩
/-! pick,decimal. -/
def D7(c:Int)(n:Nat):Nat:=(if c<0 then -(c+1)else c).toNat%n
/-! decimal -/
def xL(W:QV)(b:Nat)(n:Int)(h:W.cell? ⟨b,0,none⟩=some (.int .u8 n)):(convert 106 9 (.slice (some ⟨b,0,none⟩) 1 1)).run prog W=.ok (.string ⟨#[UInt8.ofNat n.toNat]⟩) W :=run_convert_bytes_arg W 106 5 underlying106 underlying5 b 0 1 1 [n] rfl (λi hi=>by
  obtain rfl:i=0:=RM;exact h) 9 underlying9
end
section
open bY
open Tryz
namespace Ref
variable{l:List (a_)}{x:a_}{o:Option Addr}{m:Nat}
def sM:∀(l:List (a_)) (i:Nat),(cJ (l.take i)).length<=(cJ l).length
 |[],i=>by simp
 |[a],0=>by simp[cJ]
 |[a],i+1=>by simp[cJ]
 |a :: b :: r,0=>by simp[cJ]
 |a :: b :: r,1=>by simp[cJ]
 |a :: b :: r,i+2=>by
  have:=sM (b :: r) (i+1);rw[P5]at this;rw[P5,P5,cJ,cJ,aj,aj,aM,aM];omega
def vd:∀(l:List (a_)) (a:a_),a∈l->a.length<=(cJ l).length
 |[],a,h=>by cases h
 |[b],a,h=>by rw[P1.1 h];exact af _
 |b :: c :: r,a,h=>by
  rw[cJ,aj,aM];rcases aP.1 h with rfl|h
  ·omega
  have:=vd (c :: r) a h;omega
def AW{i:Nat}(h:l[i]?=some x):cJ (l.take (i+1))=if i=0 then x else cJ (l.take i)++44 :: x:=by
 rw[Q2,h];show cJ (l.take i++[x])=_;rw[lQ];have j:=(az.1 h).1;by_cases b:i=0
 ·subst b;rw[ag R2,ag rfl]
 rw[ae (λe=>by have:=congrArg List.length e;rw[P7]at this;simp only[P6]at this;omega),ae b]
def ve(a b:ba):(a++b).size=a.size+b.size:=P3
def dD(a b:ba):(a++b).1.1=a.1.1++b.1.1:=R2
def oO{w0 w:QV}{c:Nat}(h:iO w0 w (.slice o l.length c) l)(hl:(cJ l).length<=20000000)(G:l.length<=20000000):Calls prog 235 #[.slice o l.length c] w λe w'=>e=.returned (str (hU l))/\w'=w:=by
 have B:=bZ h;go_enter func235,ntmps235;go_wp2_with fail
 go_loopw [3,4] (λC iv wr=>∃(i:Nat) (b:ba),i<=l.length/\C=.string b/\iv=.int .i64 i/\wr=w/\b.1.1=123 :: cJ (l.take i)) (λ_ iv _=>l.length-(intOf iv).toNat)
 case atStart=>exact⟨0,⟨#[123]⟩,au _,rfl,rfl,rfl,rfl⟩
 case round =>
  obtain⟨i,b,hi,rfl,rfl,rfl,hb⟩:=hrel;have D:b.size<=20000001:=by
   rw[UB,hb,aM];have:=sM l i;omega
  by_cases u:i<l.length
  ·have F:(i:Int)<(l.length:Int):=RM;have hx:=aq u;obtain⟨g,rfl,E,hcell⟩:=B.Z.cell hx;obtain⟨y,hy⟩:∃y,(⟨l[i].toArray⟩:ba)=y:=⟨_,rfl⟩;have p:y.1.1=l[i]:=by rw[<-hy]
   have I:y.size<=20000000:=by
    rw[UB,p];have:=vd l l[i] (Q4 u);omega
   unfold str at hcell;rw[hy]at hcell;have j:=AW hx;by_cases r:i=0
   ·subst r;rw[ag rfl]at j;have n:Hid ((b++y).1.1=123 :: cJ (l.take (0+1))):=bZ (by
     rw[dD,hb,p,j];rfl)
    go_wp2_with fail;exact⟨⟨0+1,b++y,by omega,rfl,by go_num,by trivial,n.Z⟩,by simp[intOf];omega⟩
   rw[ae r]at j;have n:Hid ((b++⟨#[44]⟩++y).1.1=123 :: cJ (l.take (i+1))):=bZ (by
    rw[dD,dD,hb,p,j];simp)
   go_wp2_with fail;exact⟨⟨i+1,b++⟨#[44]⟩++y,by omega,rfl,by go_num,by trivial,n.Z⟩,by simp[intOf];omega⟩
  obtain rfl:i=l.length:=RM;have z:Hid (str (hU l)=.string (b++⟨#[125]⟩)):=bZ (by
   have e:(b++⟨#[125]⟩).1.1=hU l:=by
    rw[dD,hb,Q1];simp[hU]
   rw[<-e,dF])
  go_wp2_with fail;go_ret;exact⟨by rw[z.Z];rfl,rfl⟩
def pre(m:Nat):a_:=if m=0 then[]else Lib.decDigits m
def I5(h:m≠0):pre m=pre (m / 10)++[UInt8.ofNat (48+m%10)]:=by
 unfold pre;rw[ae h,Lib.decDigits];by_cases b:m<10
 ·rw[Qq b,ag RM,show m%10=m by omega];rfl
 rw[dif_neg b,ae RM]
def Lt{k:Nat}(h:m<10^(k+1)):(pre m).length<=k+1:=by
 unfold pre;split
 ·simp
 exact tu k m h
def AX(n:Int)(w:QV)(P:-9223372036854775808<=n)(h1:n<=9223372036854775807):Calls prog 300 #[.int .i64 n] w λe w'=>e=.returned (str (Lib.itoa n))/\Xb w w':=by
 by_cases hz:n=0
 ·subst hz;go_enter func300,ntmps300;go_wp2_with fail;go_ret;exact⟨by kernel_rfl,Uz _ _⟩
 have V:(n==0)=false:=by simpa using hz
 have I:n.natAbs<10^19:=by show _<10000000000000000000;omega
 go_enter func300,ntmps300;go_wp2_with fail
 go_loopw [3,4] (λO mv wr=>∃(M:Nat) (b:ba),O=.string b/\mv=.int .i64 (if n<0 then -(M:Int) else(M:Int))/\M<=n.natAbs/\Xb w wr/\Hid (pre M++b.1.1=pre n.natAbs)) (λ_ mv _=>(intOf mv).natAbs)
 case atStart =>
  refine⟨n.natAbs,⟨#[]⟩,rfl,?_,af _,Uz _ _,bZ (QA _)⟩
  congr 1
  split<;>omega
 case round =>
  obtain⟨M,b,rfl,rfl,hM,j,z⟩:=hrel;have S:b.size<=19:=by
   have h1:=congrArg List.length z.Z;rw[aj,<-UB]at h1;have h2:=Lt (k:=18) I;omega
  by_cases E:M=0
  ·subst E;have r:Hid (str (Lib.itoa n)=.string (if n<0 then⟨#[45]⟩++b else b)):=bZ (by
    have y:=z.Z;have e0:pre 0=[]:=rfl;rw[e0,Qv]at y;have e1:pre n.natAbs=Lib.decDigits n.natAbs:=by unfold pre;rw[ae RM]
    rw[e1]at y;have e:(if n<0 then⟨#[45]⟩++b else b:ba).1.1=Lib.itoa n:=by
     unfold Lib.itoa;split
     ·rw[dD,y];rfl
     rw[y,show n.toNat=n.natAbs by omega]
    rw[<-e,dF])
   by_cases p:n<0
   ·rw[ag p]at r;go_wp2_with fail;go_ret;exact⟨by rw[r.Z];rfl,j⟩
   rw[ae p]at r;go_wp2_with fail;go_ret;exact⟨by rw[r.Z];rfl,j⟩
  have U:M%10<10:=Ra _ RM;obtain⟨D,B⟩:∃D,M%10=D:=⟨_,rfl⟩;obtain⟨Q,C⟩:∃Q,M / 10=Q:=⟨_,rfl⟩;have F:=I5 E;rw[B,C]at F;have u:Hid (pre Q++(⟨#[UInt8.ofNat (48+D)]⟩++b:ba).1.1=pre n.natAbs):=bZ (by
   rw[dD,<-z.Z,F,QM])
  have K:UInt8.ofNat (48+D)=48+UInt8.ofNat D:=UInt8.ofNat_add 48 D;rw[K]at u;have T:∀(W:QV) (k:Nat),W.cell? ⟨k,0,none⟩=some (.int .u8 (48+(D:Int)))->(convert 106 9 (.slice (some ⟨k,0,none⟩) 1 1)).run prog W=.ok (.string ⟨#[UInt8.ofNat (48+D)]⟩) W:=λW k h=>by
   have:=xL W k _ h;have p:(48+(D:Int)).toNat=48+D:=RM;rw[p]at this;exact this
  by_cases p:n<0
  ·have J:(-(M:Int) != 0)=true:=R5;have N:(-(M:Int)).tmod 10=-(D:Int):=by rw[Int.neg_tmod,<-B];rfl
   have L:(-(M:Int)).tdiv 10=-(Q:Int):=by rw[Int.neg_tdiv,<-C];rfl
   simp only[p,aN];by_cases G:D=0
   ·subst G;go_wp2_with fail;exact⟨⟨Q,_,rfl,rfl,by omega,j.alloc j.size _,u⟩,by simp[intOf];omega⟩
   have R:-(D:Int)<0:=RM;go_wp2_with fail;exact⟨⟨Q,_,rfl,rfl,by omega,j.alloc j.size _,u⟩,by simp[intOf];omega⟩
  have J:((M:Int) != 0)=true:=R5;have N:(M:Int).tmod 10=(D:Int):=by rw[<-B];rfl
  have L:(M:Int).tdiv 10=(Q:Int):=by rw[<-C];rfl
  simp only[p,Qn];go_wp2_with fail;exact⟨⟨Q,_,rfl,rfl,by omega,j.alloc j.size _,u⟩,by simp[intOf];omega⟩
def dR(w:QV):QV:=w.alloc (.cells #[.int .i64 0,.string ⟨#[]⟩] 166)
def gl{w w1:QV}(e:Below (dR w).1.size (dR w) w1):w1.cell? ⟨w.1.size,0,none⟩=some (.int .i64 0)/\w1.cell? ⟨w.1.size,1,none⟩=some (.string ⟨#[]⟩)/\w1.frozen? ⟨w.1.size,0,none⟩=false/\w1.frozen? ⟨w.1.size,1,none⟩=false:=by
 have b:(dR w).1[w.1.size]?=some _:=heap_alloc_new w _;have h:=(e.block _ (cj b)).trans b;refine⟨by simp[World.cell?,h],by simp[World.cell?,h],by simp[World.frozen?,h],by simp[World.frozen?,h]⟩
def ft{w w1:QV}(e:Below (dR w).1.size (dR w) w1)(x y:Xa):Xb w ((w1.setCell ⟨w.1.size,0,none⟩ x).setCell ⟨w.1.size,1,none⟩ y):=by
 have b:Below _ w (dR w):=(Uz _ w).alloc (af _) _;exact((b.trans (e.mono b.size)).setCell (p:=⟨w.1.size,0,none⟩) (af _) _).setCell (p:=⟨w.1.size,1,none⟩) (af _) _
def me(n:Int)(w:QV)(u:-9223372036854775808<=n)(h1:n<=9223372036854775807):Calls prog 274 #[.int .i64 n] w λe w'=>e=.returned (dw (.ok (vn n)))/\Xb w w':=by
 have e:dw (.ok (vn n))=.agg #[.int .i64 0,str (Lib.itoa n)]:=by show Value.agg #[_,str _]=_;rw[wE]
 rw[e];have b:=bZ (λw=>AX n w u h1);unfold str at b ⊢;go_enter func274,ntmps274;go_wp2_with fail;refine(b.Z _).mono ?_;rintro e w1⟨rfl,j⟩;obtain⟨r,c1,f0,f1⟩:=gl j;have p:=bZ (λx y=>ft j x y);go_wp2_with fail;exact UA (v:=.agg #[.int .i64 0,.string ⟨(Lib.itoa n).toArray⟩]) (by simp[results,results274,go_sem,r,c1]) rfl ⟨rfl,p.Z _ _⟩
def vf(b:Bool)(w:QV):Calls prog 275 #[.bool b] w λe w'=>e=.returned (dw (.ok (bY.bit b)))/\Xb w w':=by
 cases b with
 |true =>
  have j:=bZ (λw=>me 1 w RM RM);have e:dw (.ok (bY.bit true))=.agg #[.int .i64 0,.string ⟨#[49]⟩]:=RO;have e2:dw (.ok (vn 1))=.agg #[.int .i64 0,.string ⟨#[49]⟩]:=RO;rw[e];rw[e2]at j;go_enter func275,ntmps275;go_wp2_with fail;refine(j.Z _).mono ?_;rintro e w1⟨rfl,n⟩;obtain⟨r,c1,f0,f1⟩:=gl n;have p:=bZ (λx y=>ft n x y);go_wp2_with fail;exact UA (v:=.agg #[.int .i64 0,.string ⟨#[49]⟩]) (by simp[results,results275,go_sem,r,c1]) rfl ⟨rfl,p.Z _ _⟩
 |false =>
  have j:=bZ (λw=>me 0 w RM RM);have e:dw (.ok (bY.bit false))=.agg #[.int .i64 0,.string ⟨#[48]⟩]:=RO;have e2:dw (.ok (vn 0))=.agg #[.int .i64 0,.string ⟨#[48]⟩]:=RO;rw[e];rw[e2]at j;go_enter func275,ntmps275;go_wp2_with fail;refine(j.Z _).mono ?_;rintro e w1⟨rfl,n⟩;obtain⟨r,c1,f0,f1⟩:=gl n;have p:=bZ (λx y=>ft n x y);go_wp2_with fail;exact UA (v:=.agg #[.int .i64 0,.string ⟨#[48]⟩]) (by simp[results,results275,go_sem,r,c1]) rfl ⟨rfl,p.Z _ _⟩
def Lu:Except Nat (a_)->Xa
 |.ok t=>.agg #[.int .i64 0,str t]
 |.error c=>.agg #[.int .i64 (c:Int),.string ⟨#[]⟩]
def pI(r:Wo):Lu (txt r)=dw r:=by cases r<;>rfl
def tF(s:ba)(w:QV)(r:8<=w.1.size)(hs:s.size<=20000000):Calls prog 234 #[.string s] w λe w'=>e=.returned (Lu (Fl s.1.1))/\Xb w w':=by
 have b:=bZ (sI 3 s (dR w) (by unfold dR;simp;omega) hs RM);have hi:((3:Nat):Int)=3:=rfl;rw[hi]at b;unfold Fl;cases hb:(rv 3 _).isSome with
 |true =>
  rw[hb]at b;have e:Lu (if true=true then Except.ok s.1.1 else Except.error 10)=.agg #[.int .i64 0,.string s]:=by
   show Value.agg #[_,str _]=_;rw[dF]
  rw[e];go_enter func234,ntmps234;go_wp2_with fail;refine b.Z.mono ?_;rintro e w1⟨rfl,j⟩;obtain⟨p,c1,f0,f1⟩:=gl j;have n:=bZ (λx y=>ft j x y);go_wp2_with fail;exact UA (v:=.agg #[.int .i64 0,.string s]) (by simp[results,results234,go_sem,p,c1]) rfl ⟨rfl,n.Z _ _⟩
 |false =>
  rw[hb]at b;have e:Lu (if false=true then Except.ok s.1.1 else Except.error 10)=.agg #[.int .i64 10,.string ⟨#[]⟩]:=rfl;rw[e];go_enter func234,ntmps234;go_wp2_with fail;refine b.Z.mono ?_;rintro e w1⟨rfl,j⟩;obtain⟨p,c1,f0,f1⟩:=gl j;have n:=bZ (λx y=>ft j x y);go_wp2_with fail;exact UA (v:=.agg #[.int .i64 10,.string ⟨#[]⟩]) (by simp[results,results234,go_sem,p,c1]) rfl ⟨rfl,n.Z _ _⟩
end Ref
end
section
namespace bY
variable{i lo:Nat}{r:Except (Nat×Nat) Nat}{f R:Nat->Except (Nat×Nat) Nat}{l:a_}
def NE(r:Except (Nat×Nat) Nat):Prop:=∀e,r=.error e->e.1≠0
def NE.ok(j):NE (.ok j):=λe h=>by cases h
def NE.err{c:Nat}(h:c≠0):NE (.error (c,i)):=λe h'=>by cases h';exact h
def NE.then(h:NE r)(hf:∀j,r=.ok j->NE (f j)):NE (andThen r f):=by
 cases r with
 |ok j=>exact hf j rfl
 |error e=>exact λe' h'=>by cases h';exact h e rfl
theorem NE.cv(l t i):NE (cv l t i):=by
 unfold bY.cv;split
 ·exact NE.ok _
 exact NE.err RZ
def tG(l:a_)(lo:Nat)(R:Nat->Except (Nat×Nat) Nat):Prop:=∀i,lo<=i->i<=l.length->NE (R i)/\∀j,R i=.ok j->lo<=j/\j<=l.length
def tG.exp(h:tG l lo R)(t)(p:t≠[]):tG l lo (λi=>andThen (R i) (bY.cv l t)):=λi h1 h2=>by
 obtain⟨a,b⟩:=h i h1 h2;refine⟨a.then (λj hj=>NE.cv l t j),λj hj=>?_⟩;obtain⟨k,m,e⟩:=andThen_ok hj;have n:=b k m;have:=fI e p n.2;omega
def tG.seq{F:Nat->Except (Nat×Nat) Nat}(h:tG l lo R)(hF:tG l lo F):tG l lo (λi=>andThen (R i) F):=λi h1 h2=>by
 obtain⟨a,b⟩:=h i h1 h2;refine⟨a.then (λj hj=>(hF j (b j hj).1 (b j hj).2).1),λj hj=>?_⟩;obtain⟨k,e,m⟩:=andThen_ok hj;exact(hF k (b k e).1 (b k e).2).2 j m
def tG.want(t)(b:t≠[]):tG l lo (bY.cv l t):=λi h1 h2=>⟨NE.cv l t i,λj hj=>by have:=fI hj b h2;omega⟩
def JR{k:Nat}{R F I W:Nat->Except (Nat×Nat) Nat}(b:tG l lo R)(hF:tG l lo F)(e:tG l lo I)(j:tG l lo W)(h1:lo<=i)(h2:i<=l.length):NE (parts l k i R F I W):=by
 unfold parts;split
 ·exact(hF i h1 h2).1
 split
 ·exact((b.exp [41] RZ) i h1 h2).1
 split
 ·exact((b.exp [93] RZ) i h1 h2).1
 split
 ·split
  ·exact NE.ok _
  exact((b.seq e) i h1 h2).1
 split
 ·exact((tG.seq (b.exp [116,104,101,110] RZ) (tG.seq (b.exp [101,108,115,101] RZ) hF)) i h1 h2).1
 split
 ·exact((tG.seq (tG.want [40] RZ) (b.exp [41] RZ)) i h1 h2).1
 split
 ·exact((tG.seq (tG.want [40] RZ) (tG.seq (b.exp [44] RZ) (b.exp [41] RZ))) i h1 h2).1
 split
 ·exact((tG.seq (tG.want [40] RZ) (tG.seq (b.exp [44] RZ) (j.exp [41] RZ))) i h1 h2).1
 exact NE.ok _
def OT(l):∀n y e b i,i<=l.length->8*(l.length-i)+nd y<=n->NE (P l n y e b i)
 |0,y,e,b,i,hi,p=>by
  have:1<=nd y:=by unfold nd;split<;>(try split)<;>(try split)<;>omega
  omega
 |n+1,y,e,b,i,hi,p=>by
  have u:=OT l n;have B:=jv l n;unfold P;split
  ·rename_i z;subst z;have p:8*(l.length-i)+4<=n+1:=p;refine NE.then (u 1 e b i hi (by show 8*(l.length-i)+3<=n;omega)) (λj hj=>?_);have m:=B 1 e b i j hj hi;simp only[show(1:Nat)<=3 by omega,aN]at m;split
   ·rename_i C;have hx:=fO (one_pos C);exact u 1 e b _ (fb l j m.2) (by show 8*(l.length-fC l j)+3<=n;omega)
   exact NE.ok _
  split
  ·rename_i _ z;subst z;have p:8*(l.length-i)+3<=n+1:=p;refine NE.then (u 2 e b i hi (by show 8*(l.length-i)+2<=n;omega)) (λj hj=>?_);have m:=B 2 e b i j hj hi;simp only[show(2:Nat)<=3 by omega,aN]at m;exact u 4 e b j m.2 (by show 8*(l.length-j)+1<=n;omega)
  split
  ·rename_i _ _ z;subst z;have p:8*(l.length-i)+2<=n+1:=p;refine NE.then (u 3 e b i hi (by show 8*(l.length-i)+1<=n;omega)) (λj hj=>?_);have m:=B 3 e b i j hj hi;simp only[show(3:Nat)<=3 by omega,aN]at m;exact u 5 e b j m.2 (by show 8*(l.length-j)+1<=n;omega)
  split
  ·rename_i _ _ _ z;subst z;have p:8*(l.length-i)+1<=n+1:=p;split
   ·exact NE.err RZ
   split
   ·exact NE.err RZ
   rename_i F _;have hx:=fO (qy F);have hy:=fb l i hi;have mk:∀y D,nd y<=4->tG l (fC l i) (λj=>P l n y (e+1) D j):=λy D E j h1 h2=>⟨u y (e+1) D j h2 RM,λk G=>by have:=B y (e+1) D j k G h2;omega⟩;exact JR (mk 0 b RZ) (mk 3 b RZ) (mk 6 b RZ) (mk 0 (b+1) RZ) (af _) hy
  split
  ·rename_i _ _ _ _ z;subst z;have p:8*(l.length-i)+1<=n+1:=p;split
   ·rename_i C;have hx:=fO (one_pos C);have hy:=fb l i hi;refine NE.then (u 2 e b _ hy (by show 8*(l.length-fC l i)+2<=n;omega)) (λj hj=>?_);have m:=B 2 e b _ j hj hy;simp only[show(2:Nat)<=3 by omega,aN]at m;exact u 4 e b j m.2 (by show 8*(l.length-j)+1<=n;omega)
   exact NE.ok _
  split
  ·rename_i _ _ _ _ _ z;subst z;have p:8*(l.length-i)+1<=n+1:=p;split
   ·rename_i C;have hx:=fO (one_pos C);have hy:=fb l i hi;refine NE.then (u 3 e b _ hy (by show 8*(l.length-fC l i)+1<=n;omega)) (λj hj=>?_);have m:=B 3 e b _ j hj hy;simp only[show(3:Nat)<=3 by omega,aN]at m;exact u 5 e b j m.2 (by show 8*(l.length-j)+1<=n;omega)
   exact NE.ok _
  have I:8*(l.length-i)+1<=n+1:=by
   have:1<=nd y:=by unfold nd;split<;>(try split)<;>(try split)<;>omega
   omega
  split
  ·rename_i E;have hx:=fO (ma (l:=l) (i:=i) (by rw[E];decide));have hy:=fb l i hi;refine NE.then (u 0 e b _ hy (by show 8*(l.length-fC l i)+4<=n;omega)) (λj hj=>?_);have m:=B 0 e b _ j hj hy;simp only[show(0:Nat)<=3 by omega,aN]at m;exact u 6 e b j m.2 (by show 8*(l.length-j)+1<=n;omega)
  exact NE.cv _ _ _
def yc(h:(check l).1=0):mG l=some (gG l)/\check l=(0,0):=by
 by_cases hl:200<l.length
 ·unfold check at h;rw[ag hl]at h;cases h
 have u:=OT l (8*l.length+5) 0 0 0 (skip l 0) (pj l 0 (au _)) (by show 8*(l.length-skip l 0)+4<=_;omega);have p:check l=(0,0):=by
  unfold check at h ⊢;rw[ae hl]at h ⊢;cases b:P l (8*l.length+5) 0 0 0 (skip l 0) with
  |error e=>rw[b]at h;exact absurd h (u e b)
  |ok j =>
   rw[b]at h;simp only[wR]at h ⊢;split
   ·rfl
   rename_i m;rw[ae m]at h;cases h
 refine⟨?_,p⟩;have h2:=p;unfold check at h2;rw[ae hl,<-oJ l _ _ _ _ _ []]at h2;unfold mG gG;rw[ae hl];cases b:PT l (8*l.length+5) 0 0 0 (skip l 0) [] with
 |error e =>
  exfalso;have n:fV (PT l (8*l.length+5) 0 0 0 (skip l 0) [])=P l (8*l.length+5) 0 0 0 (skip l 0):=oJ l _ _ _ _ _ [];rw[b]at n h2;exact u e n.symm (by have y:e=(0,0):=h2;rw[y])
 |ok q =>
  obtain⟨j,ts⟩:=q;obtain⟨h1,_,_⟩:=ML l RM (8*l.length+5);obtain⟨_,_,t',z,B⟩:=h1 0 0 0 (skip l 0) [] j ts RM (pj l 0 (au _)) b;subst z;rw[b]at h2;simp only[fV,wR]at h2;split at h2
  ·rename_i m;simp only[ag m];rfl
  cases h2
end bY
end

section
open Tryz
namespace mK
variable{v:Xa}{l:List (a_)}{x a:a_}
def Em:Nat->Nat->a_
 |0,_=>[]
 |f+1,n=>if n=0 then[]else UInt8.ofNat (48+n%10) :: Em f (n / 10)
def kG(n:Nat):a_:=33 :: Em n n
def Bq:∀(f g n:Nat),n<=f->n<=g->Em f n=Em g n
 |0,g,n,h,_=>by
  obtain rfl:n=0:=RM;cases g<;>simp[Em]
 |f+1,0,n,_,h=>by
  obtain rfl:n=0:=RM;simp[Em]
 |f+1,g+1,n,h,h'=>by
  unfold Em;by_cases b:n=0
  ·rw[ag b,ag b]
  rw[ae b,ae b,Bq f g (n / 10) RM RM]
def J7(n:Nat)(h:0<n):Em n n=UInt8.ofNat (48+n%10) :: Em (n / 10) (n / 10):=by
 obtain⟨f,rfl⟩:∃f,n=f+1:=⟨n-1,by omega⟩;show(if f+1=0 then[]else _)=_;rw[ae RM,Bq f ((f+1) / 10) ((f+1) / 10) RM (af _)]
def Eo:∀(f n:Nat),(Em f n).length<=f
 |0,n=>af _
 |f+1,n=>by
  unfold Em;split
  ·exact au _
  simpa using Eo f (n / 10)
def Bs(n:Nat)(w:QV)(u:n<=1000000000):Calls prog 79 #[.int .i64 (n:Int)] w λe w'=>e=.returned (str (kG n))/\Xb w w':=by
 have hlen:(kG n).length<=1000000001:=by
  have:=Eo n n;unfold kG;simp only[aM];omega
 go_enter func79,ntmps79;go_wp2_with fail
 go_loopw [0,3] (λp D wr=>∃(m:Nat) (b:ba),p=.int .i64 (m:Int)/\D=.string b/\m<=n/\Hid (kG n=b.1.1++Em m m/\Xb w wr)) (λp _ _=>(intOf p).toNat)
 case atStart=>exact⟨n,⟨#[33]⟩,rfl,rfl,af _,bZ ⟨rfl,Uz _ _⟩⟩
 case round =>
  obtain⟨m,b,rfl,rfl,F,j⟩:=hrel;by_cases z:0<m
  ·have h1:(0:Int)<(m:Int):=RM;have hb:b.size<=1000000001:=by
    have:=congrArg List.length j.Z.1;rw[aj]at this;rw[UB];omega
   have y:Hid (kG n=(b++⟨#[UInt8.ofNat (48+m%10)]⟩).1.1++Em (m / 10) (m / 10)):=bZ (by
    rw[j.Z.1,J7 m z,dD];simp)
   have r:∀(W:QV) (b:Nat),W.cell? ⟨b,0,none⟩=some (.int .u8 (48+(m:Int)%10))->(convert 106 9 (.slice (some ⟨b,0,none⟩) 1 1)).run prog W=.ok (.string ⟨#[UInt8.ofNat (48+m%10)]⟩) W:=λW b h=>by
    have:=xL W b _ h;have u:(48+(m:Int)%10).toNat=48+m%10:=RM;rw[u]at this;exact this
   have G:(m:Int).tdiv 10=(m:Int) / 10:=rfl;have I:(m:Int).tmod 10=(m:Int)%10:=rfl;have J:IntKind.i64.wrap ((m:Int) / 10)=(m:Int) / 10:=Sk;have K:IntKind.i64.wrap (48+(m:Int)%10)=48+(m:Int)%10:=Sk;have M:IntKind.i64.wrap ((m:Int)%10)=(m:Int)%10:=Sk;have L:IntKind.u8.wrap (48+(m:Int)%10)=48+(m:Int)%10:=by
    have:IntKind.u8.wrap (48+(m:Int)%10)=(48+(m:Int)%10)%256:=rfl;rw[this];omega
   have B:=r (wr.alloc (.cells #[.int .u8 (48+(m:Int)%10)] 5)) wr.1.size Sj;clear r;have C:(⟨#[UInt8.ofNat (48+m%10)]⟩:ba).size=1:=rfl;generalize (⟨#[UInt8.ofNat (48+m%10)]⟩:ba)=d1 at B y C;have E:¬9223372036854775807<b.size+d1.size:=RM;go_wp2_with fail;refine⟨⟨m / 10,b++d1,by go_num,rfl,by omega,bZ ⟨y.Z,?_⟩⟩,?_⟩
   ·exact j.Z.2.alloc j.Z.2.size _
   simp[intOf];omega
  obtain rfl:m=0:=RM;have h1:¬(0:Int)<((0:Nat):Int):=RM;go_wp2_with fail;go_ret;have h2:=j.Z.1;rw[show Em 0 0=[]from rfl,QA]at h2;exact⟨by rw[h2,dF];rfl,j.Z.2⟩
def nM{w:QV}(h:dm w v l){j:Nat}(hx:l[j]?=some x):∃g b,v=.slice (some ⟨g,0,none⟩) l.length b/\l.length<=b/\g<w.1.size/\w.cell? ⟨g,j,none⟩=some (str x):=by
 have hj:=(az.1 hx).1;rcases h.2 with⟨_,n⟩|⟨g,b,m,e,_,hb,hc,_⟩
 ·omega
 subst e;exact⟨g,b,rfl,hc,cj hb,(dm.cell h).2 j x hx⟩
def jj{w w':QV}(h:dm w v l)(b:Xb w w'):dm w' v l:=cD h (λg e cs fz hb=>(b.block g (cj hb)).trans hb)
def jb(a b:ba):(a.toList==b.toList)=decide (a.1.1=b.1.1):=by
 rw[UC,UC,QE,P',QF]
def fG{x:ba}(h:str a=.string x):x.1.1=a:=by
 unfold str at h;injection h with h
 rw[<-h]
def Gl{m:List (a_)}{i:Nat}{b:a_}(h:l.take i=m.take i)(e:l[i]?=some a)(hb:m[i]?=some b):(l.take (i+1)=m.take (i+1))↔a=b:=by
 rw[Q2,Q2,e,hb,h];simp
def ug(w:QV)(x y:Xa)(l m:List (a_))(hx:dm w x l)(hy:dm w y m)(hl:l.length<=1000000)(hm:m.length<=1000000):Calls prog 72 #[x,y] w λe w'=>e=.returned (.bool (decide (l=m)))/\Xb w w':=by
 obtain⟨ox,cx,rfl⟩:∃o c,x=.slice o l.length c:=by
  rcases hx.2 with⟨e,D⟩|⟨g,N,P,e,_⟩
  ·exact⟨none,0,by rw[D];exact e⟩
  exact⟨_,_,e⟩
 obtain⟨Y,Q,rfl⟩:∃o c,y=.slice o m.length c:=by
  rcases hy.2 with⟨e,D⟩|⟨g,N,P,e,_⟩
  ·exact⟨none,0,by rw[D];exact e⟩
  exact⟨_,_,e⟩
 have L:=bZ hx;have M:=bZ hy;clear hx hy;by_cases z:l.length=m.length
 ·have E:=bZ z;rw[<-z];clear z;go_enter func72,ntmps72;go_wp2_with fail
  go_loopw [5] (λiv wr=>∃i:Nat,iv=.int .i64 (i:Int)/\i<=l.length/\Hid (l.take i=m.take i/\Xb w wr)) (λiv _=>l.length-(intOf iv).toNat)
  case atStart=>exact⟨0,rfl,au _,bZ ⟨rfl,Uz _ _⟩⟩
  case round =>
   obtain⟨i,rfl,hi,j⟩:=hrel;by_cases U:i<l.length
   ·have T:(i:Int)<(l.length:Int):=RM;have u:=aq U;have r:=aq (show i<m.length by have:=E.Z;omega);generalize l[i]=a at u;generalize m[i]'_=b at r;obtain⟨ga,ca,V,_,aa,Z⟩:=nM (jj L.Z j.Z.2) u;obtain⟨S,O,G,_,ab,y1⟩:=nM (jj M.Z j.Z.2) r;cases V;have X:some ⟨S,0,none⟩=Y/\O=Q:=by
     injection G with e1 e2 R
     exact⟨e1.symm,R.symm⟩
    obtain⟨rfl,rfl⟩:=X;clear G;obtain⟨I,B⟩:∃x:ba,str a=.string x:=⟨_,rfl⟩;obtain⟨J,C⟩:∃x:ba,str b=.string x:=⟨_,rfl⟩;rw[B]at Z;rw[C]at y1;have F:=jb I J;have p:=Gl j.Z.1 u r;rw[<-fG B,<-fG C]at p;by_cases heq:I.1.1=J.1.1
    ·rw[aS heq]at F;have K:=bZ (p.2 heq);clear p heq B C u r
     go_upto_region 6 with fail
     go_quiet (fail)
     go_wp2_with fail;refine⟨⟨i+1,by go_num,by omega,bZ ⟨K.Z,by first|exact j.Z.2|exact j.Z.2.trans ((below_drewM _ _).mono j.Z.2.size)⟩⟩,?_⟩;simp[intOf];omega
    rw[aF heq]at F;have n:Hid (l≠m):=bZ (λe=>heq (p.1 SA));clear p heq B C u r
    go_upto_region 6 with fail
    go_quiet (fail)
    go_wp2_with fail;go_ret;exact⟨by rw[aF n.Z];rfl,by first|exact j.Z.2|exact j.Z.2.trans ((below_drewM _ _).mono j.Z.2.size)⟩
   have T:¬(i:Int)<(l.length:Int):=RM;have n:Hid (l=m):=bZ (by
    have:=j.Z.1;rw[Qb RM,Qb (by have:=E.Z;omega)]at this;exact this)
   go_wp2_with fail;go_ret;exact⟨by rw[aS n.Z];rfl,j.Z.2⟩
 have ad:¬((l.length:Int)=(m.length:Int)):=RM;have n:Hid (l≠m):=bZ (λe=>z SA);go_enter func72,ntmps72;go_wp2_with fail;go_ret;exact⟨by rw[aF n.Z];rfl,Uz _ _⟩
end mK
end
