/- Out of L35. -/
import Derived.Test.YtpekpdimdelncaaGreatDoorP19
import Derived.Test.YtpekpdimdelncaaGreatDoorP14
import Derived.Deep.CutRange
set_option linter.unusedVariables false
set_option linter.unusedSimpArgs false
set_option maxRecDepth 100000
set_option maxHeartbeats 2000000
set_option linter.defProp false
namespace Go.Proofs.YtpekpdimdelncaaGreatDoor
open Go.RowKit Go.Shelf
section
open bY
open Tryz
variable{y:Nat}{s:bY.LS}{L:Nat->Prop}{k l:a_}
def bY.LS.mH(s:bY.LS)(key text:a_):Nat×bY.LS :=if dB key=false then(1,s)else match sY text with
  |none=>(6,s)
  |some v=>s.iD key ⟨v,none,[],none⟩
def eF.new{w w1 w':Xa}{p:Nat}(b:Xc w w1)(z:w.1.size<=p)(h:eF w1 y (λk=>L k\/k=p) s w'):eF w y L s w':=by
 obtain⟨n,h1,h2,r,j⟩:=h;refine⟨n,h1,λk m=>?_,λk m=>r k (.inl m),⟨j.os.trans b.os,j.tape.trans b.tape,j.output.trans b.output,ah b.size j.size,λk m u=>?_⟩⟩
 ·rcases h2 k m with(h|rfl)|h
  ·exact .inl h
  ·exact .inr z
  have:=b.size;exact .inr R5
 have:=b.size;exact(j.block k R5 (λe=>by rcases e with e|e;exact u e;omega)).trans (b.block k m)
def eF.below{w w':Xa}(h:fI w y s L)(b:Xc w w'):eF w y L s w':=(cO.below h b).Qk
def iR(h:dB k=true):k.length<=8:=by
 unfold dB at h;simp only[RO,Rd]at h;obtain⟨h1,h2⟩:=h;cases k with
 |nil=>cases h1
 |cons c r =>
  rw[gy _ c r rfl]at h1 h2;split at h1
  ·split at h1<;>cases h1
  rename_i hd;rw[ae hd]at h2;split at h1
  ·rename_i b;rw[ag b]at h2;split at h1
   ·cases h1
   rename_i m;rw[ae m]at h2;split at h1
   ·cases h1
   rename_i j;rw[ae j]at h2;omega
  rename_i b;split at h1
  ·cases e:dS _ with
   |none=>rw[e]at h1;cases h1
   |some n=>rw[e]at h1;cases h1
  split at h1<;>cases h1
def MB(w y key text s L)(h:fI w y s L)(g:G w)(hd:jY w)(J:key.size<=281474976710656)(ht:text.size<=281474976710656)(hlen:s.ct.length<=40)(hj:(dc s.jr).length<=70368744177664):Calls prog 23 #[ptr y,.string key,.string text] w λe b=>e=.returned (.int .i64 ((s.mH key.1.1 text.1.1).1:Nat))/\eF w y L (s.mH key.1.1 text.1.1).2 b:=by
 have z:=dT key w g J;cases r:dB _ with
 |false =>
  have e:s.mH key.1.1 text.1.1=(1,s):=by unfold bY.LS.mH;rw[ag r]
  rw[e];rw[r]at z;have C:=bZ z;have HL:=bZ h;unfold ptr;go_enter func23,ntmps23;go_wp2_with fail;refine b_ C.Z λu F=>?_;go_wp2;exact VN (v:=.int .i64 1) (by simp[results,results23,go_sem]) rfl ⟨rfl,eF.below HL.Z F⟩
 |true =>
  rw[r]at z;have aa:key.size<=8:=by rw[size_data];exact iR r
  have X:s.mH key.1.1 text.1.1=match sY text.1.1 with|none=>(6,s)|some v=>s.iD key.1.1 ⟨v,none,[],none⟩:=by
   unfold bY.LS.mH;rw[ae (by rw[r];exact λe=>by cases e)]
  rw[X];generalize P:(λ(e:Ending) (b:Xa)=>e=.returned _/\eF w y L ((match sY _ with|none=>(6,s)|some v=>s.iD _ ⟨v,none,[],none⟩):Nat×bY.LS).2 b)=M;have U:Hid (sY text.1.1=none->∀b,eF w y L s b->M (.returned (.int .i64 6)) b):=bZ (λj b p=>by
   rw[<-P,j];exact⟨rfl,p⟩)
  have V:Hid (∀v,sY text.1.1=some v->∀b,eF w y L (s.iD key.1.1 ⟨v,none,[],none⟩).2 b->M (.returned (.int .i64 ((s.iD key.1.1 ⟨v,none,[],none⟩).1:Nat))) b):=bZ (λv j b p=>by
   rw[<-P,j];exact⟨rfl,p⟩)
  have Z:=λ(u:Xa) (F:Xc w u)=>JU text u (g.below F g.size) ht;have C:=bZ z;have S:=bZ Z;have HL:=bZ (And.intro h (And.intro g hd));unfold ptr;go_enter func23,ntmps23;go_wp2_with fail;refine b_ C.Z λu m=>?_;have T:=bZ (S.Z u m);go_wp2_with fail;refine T.Z.mono ?_;rintro e B⟨N,⟨v,K,E,j,rfl,hval⟩|⟨j,rfl⟩⟩
  ·have I:=m.trans (N.mono m.size);have n:Xc w (B.alloc (.cells #[.iface K E,.pointer none,.string ⟨#[]⟩,.pointer none] 124)):=I.alloc I.size _;obtain⟨h,g,hd⟩:=HL.Z;have Y:=h.st (λk J=>n.block k (h.cz k J).2.1) (eO.below n);have ab:=heap_alloc_new B (.cells #[.iface K E,.pointer none,.string ⟨#[]⟩,.pointer none] 124);have Q:=I.size;have ad:=hval.keeps (cT.below ((VM _ B).alloc (af _) (.cells #[.iface K E,.pointer none,.string ⟨#[]⟩,.pointer none] 124)));have O:=Bn _ y B.1.size key s L ⟨v,none,[],none⟩ Y (g.below n g.size) (hd.below n g.size) aa (λhl=>by have:=(h.cz _ hl).2.1;omega) (ah g.size Q) ⟨_,_,_,ab,.inr rfl,by simp,.inl ⟨rfl,rfl,ad,rfl⟩,.inl ⟨rfl,rfl⟩⟩ hlen hj;unfold ptr at O;have R:=bZ O;go_wp2_with fail;refine b_ R.Z λw4 p=>?_;have D:=bZ (V.Z v j _ (eF.new n Q p));go_wp2;exact D.Z
  have D:=bZ (U.Z j _ (eF.below HL.Z.1 (m.trans (N.mono m.size))));go_wp2;exact D.Z
/-! Rules. -/
def dN.lower{w:Xa}:∀m n b t x,iy m b t=true->dN w n t x->dN w m t x
 |0,n,b,t,x,h,_=>by unfold iy at h;cases h
 |m+1,0,b,t,x,_,h=>h.elim
 |m+1,n+1,b,t,x,h,⟨z,i,s,K,B,h1,h2,C,D,E,F⟩=>by
  obtain⟨_,_,k3,k4,J⟩:=GC h;refine⟨z,i,s,K,B,h1,h2,C,D,E,λj u q hu I=>?_⟩;have hx:=F j u q hu I;by_cases e:t.cu=15\/t.cu=16
  ·have N:t.parts.length=2:=by
    rcases k3 with k3|k3
    ·omega
    rw[k3];rcases e with e|e<;>rw[e]<;>rfl
   obtain⟨p,r⟩:=k4 e;have M:=(aA.1 hu).1;have G:j=0\/j=1:=R5;rcases G with rfl|rfl
   ·have:t.cM 0=u:=by unfold bY.T.cM;rw[hu];rfl
    rw[this]at p;exact dN.lower m n b u q p hx
   have:t.cM 1=u:=by unfold bY.T.cM;rw[hu];rfl
   rw[this]at r;exact dN.lower m n true u q r hx
  exact dN.lower m n b u q (J e u (aJ hu)) hx
def MC{n m:Nat}(h:n<=m):hT n<=hT m:=by
 induction h with
 |refl=>exact af _
 |step _ b=>exact ah b (by show _<=hT _+_+2;omega)
def BA{t:bY.T}(h:mY l=some t):l.length<=200/\t=gZ l/\iy (hM t) false t=true:=by
 unfold mY at h;split at h
 ·cases h
 rename_i z;have b:l.length<=200:=R5;split at h
 ·rename_i j u e;split at h
  ·obtain⟨h1,_,_⟩:=NY l b _;obtain⟨_,_,r,p,n⟩:=h1 0 0 0 _ [] j u R5 (pI l 0 (ar _)) e;subst p;simp at h;subst h;refine⟨b,?_,?_⟩
   ·unfold gZ;rw[e];rfl
   have m:hT (8*l.length+5)<=hM r:=by
    unfold hM;rw[RY,aR];exact MC R5
   exact kg n m
  cases h
 cases h
def OP(w y key text s L t)(h:fI w y s L)(g:G w)(hd:jY w)(F:dB key.1.1=true)(K:mY text.1.1=some t)(hlen:s.ct.length<=40)(hj:(dc s.jr).length<=70368744177664):Calls prog 25 #[ptr y,.string key,.string text] w λe z=>e=.returned (.tuple #[.int .i64 ((s.iD key.1.1 ⟨vn 0,some t,text.1.1,none⟩).1:Nat),.int .i64 0])/\eF w y L (s.iD key.1.1 ⟨vn 0,some t,text.1.1,none⟩).2 z:=by
 obtain⟨E,-,I⟩:=BA K;have ai:key.size<=8:=by rw[size_data];exact iR F
 have C:=dT key w g R5;rw[F]at C;have av:text.size<=200:=by rw[size_data];exact E
 have D:=λ(j:Xa) (X:Xc w j)=>v7 text j (g.below X g.size) R5;rw[K]at D;generalize aa:(λ(e:Ending) (z:Xa)=>e=.returned _/\eF w y L (s.iD _ ⟨vn 0,some t,text.1.1,none⟩).2 z)=U;have T:=bZ aa;have P:=bZ C;have R:=bZ D;have HL:=bZ (And.intro h (And.intro g hd));unfold ptr;go_enter func25,ntmps25;go_wp2_with fail;refine b_ P.Z λj p=>?_;have S:=bZ (R.Z j p);go_wp2_with fail;refine S.Z.mono ?_;rintro e m⟨⟨q,rfl,hq⟩,Y⟩;obtain⟨ab,ad,a,rfl,n,ap⟩:=hq t rfl;rw[ab,ad];have N:=dN.lower _ _ _ _ _ I ap;obtain⟨u,M⟩:=Bj N;unfold ptr at M;cases M;have r:=p.trans (Y.mono p.size);have b:Below _ w (m.alloc (.cells #[.nilIface,.pointer (some ⟨u,0,none⟩),.string text,.pointer none] 124)):=r.alloc r.size _;obtain⟨h,g,hd⟩:=HL.Z;have V:=h.st (λk hk=>b.block k (h.cz k hk).2.1) (eO.below b);have ak:=heap_alloc_new m (.cells #[.nilIface,.pointer (some ⟨u,0,none⟩),.string text,.pointer none] 124);have J:=r.size;have ao:=N.keeps (cT.below ((VM _ m).alloc (af _) (.cells #[.nilIface,.pointer (some ⟨u,0,none⟩),.string text,.pointer none] 124)));have am:=dG text;have B:=Bn _ y m.1.size key s L ⟨vn 0,some t,text.1.1,none⟩ V (g.below b g.size) (hd.below b g.size) ai (λhl=>by have:=(h.cz _ hl).2.1;omega) (ah g.size J) ⟨_,_,_,by rw[am];exact ak,.inr rfl,E,.inr ⟨t,_,rfl,rfl,rfl,I,ao⟩,.inl ⟨rfl,rfl⟩⟩ hlen hj;unfold ptr at B;have O:=bZ B;go_wp2_with fail;refine b_ O.Z λw4 Z=>?_;have Q:Hid (U (.returned (.tuple #[.int .i64 ((s.iD key.1.1 ⟨vn 0,some t,text.1.1,none⟩).1:Nat),.int .i64 0])) w4):=bZ (by
  rw[<-T.Z];exact⟨rfl,eF.new b J Z⟩)
 go_wp2;exact Q.Z
end
section
open Tryz
def MD(w:Xa)(n:8<=w.1.size):fI (((w.alloc (.map #[] 0)).alloc (.map #[] 0)).alloc (.cells #[.map (some w.1.size),.map (some (w.1.size+1)),.slice none 0 0,.slice none 0 0,.slice none 0 0,.slice none 0 0] 108)) (w.1.size+1+1) bY.LS.new (λk=>w.1.size<=k/\k<=w.1.size+2):=by
 have e:(((w.alloc (.map #[] 0)).alloc (.map #[] 0)).alloc (.cells #[.map (some w.1.size),.map (some (w.1.size+1)),.slice none 0 0,.slice none 0 0,.slice none 0 0,.slice none 0 0] 108)).1[w.1.size+1+1]?=some (.cells #[.map (some w.1.size),.map (some (w.1.size+1)),.slice none 0 0,.slice none 0 0,.slice none 0 0,.slice none 0 0] 108 (0,0)):=by
  have:=heap_alloc_new ((w.alloc (.map #[] 0)).alloc (.map #[] 0)) (.cells #[.map (some w.1.size),.map (some (w.1.size+1)),.slice none 0 0,.slice none 0 0,.slice none 0 0,.slice none 0 0] 108);rw[World.size_alloc,World.size_alloc]at this;exact this
 have j:fQ (((w.alloc (.map #[] 0)).alloc (.map #[] 0)).alloc (.cells #[.map (some w.1.size),.map (some (w.1.size+1)),.slice none 0 0,.slice none 0 0,.slice none 0 0,.slice none 0 0] 108)) w.1.size []:=by
  refine(xS w).same ?_;rw[VR _ _ _ Tc,VR _ _ _ S5]
 have l:fQ (((w.alloc (.map #[] 0)).alloc (.map #[] 0)).alloc (.cells #[.map (some w.1.size),.map (some (w.1.size+1)),.slice none 0 0,.slice none 0 0,.slice none 0 0,.slice none 0 0] 108)) (w.1.size+1) []:=by
  have:=xS (w.alloc (.map #[] 0));rw[World.size_alloc]at this;refine this.same ?_;rw[VR _ _ _ S5]
 refine⟨w.1.size,w.1.size+1,_,_,_,_,{
  eb:=e
  here:=⟨by omega,by omega⟩
  ne:=R5
  ct:=⟨[],rfl,j,by simp,(λx hx=>by cases hx),(λx hx=>by cases hx),⟨by omega,by omega⟩⟩
  done:=⟨[],rfl,l,(λx hx=>by cases hx),⟨by omega,by omega⟩⟩
  cm:=⟨rfl,.inl ⟨rfl,rfl⟩⟩
  cY:=⟨rfl,.inl ⟨rfl,rfl⟩⟩
  du:=⟨rfl,.inl ⟨rfl,rfl⟩⟩
  jr:=⟨rfl,.inl ⟨rfl,rfl⟩⟩
  dQ:=λg b=>by rcases b with b|b|b|b<;>cases b
  apart:=λg b=>by cases b
  oS:=λ_=>rfl
  cz:=λk p=>?_}⟩
 refine⟨by omega,?_⟩;have m:k=w.1.size\/k=w.1.size+1\/k=w.1.size+1+1:=R5;rcases m with rfl|rfl|rfl
 ·exact .inl j.isMap
 ·exact .inl l.isMap
 exact .inr ⟨_,_,_,e,.inl rfl⟩
def ME(w):Calls prog 16 #[] w λe b=>e=.returned (ptr (w.1.size+1+1))/\b=((w.alloc (.map #[] 0)).alloc (.map #[] 0)).alloc (.cells #[.map (some w.1.size),.map (some (w.1.size+1)),.slice none 0 0,.slice none 0 0,.slice none 0 0,.slice none 0 0] 108):=by
 have h1:∀w,(Instr.makeMap 104 none).run prog w=.ok (.map (some w.1.size)) (w.alloc (.map #[] 0)):=λw=>by kernel_rfl
 have h2:∀w,(Instr.makeMap 105 none).run prog w=.ok (.map (some w.1.size)) (w.alloc (.map #[] 0)):=λw=>by kernel_rfl
 unfold ptr;go_enter func16,ntmps16;go_wp2;go_ret;exact⟨rfl,rfl⟩
def bY.LS.gv(s:bY.LS)(key:a_)(th:bY.cC):bY.LS:={s with ct:=bY.put s.ct key th}.write (bY.ed key th)
/-! pick,decimal. -/
def E1(c:Int)(n:Nat):Nat:=(if c<0 then -(c+1)else c).toNat%n
/-! decimal -/
def yo(W b n)(h:W.cell? ⟨b,0,none⟩=some (.int .u8 n)):(convert 106 9 (.slice (some ⟨b,0,none⟩) 1 1)).run prog W=.ok (.string ⟨#[UInt8.ofNat n.toNat]⟩) W :=run_convert_bytes_arg W 106 5 underlying106 underlying5 b 0 1 1 [n] rfl (λi hi=>by
  obtain rfl:i=0:=R5;exact h) 9 underlying9
end
section
open bY
open Tryz
namespace Ref
variable{l:List (a_)}{x:a_}{o:Option Addr}{m:Nat}
def tw:∀l i,(cS (l.take i)).length<=(cS l).length
 |[],i=>by simp
 |[a],0=>by simp[cS]
 |[a],i+1=>by simp[cS]
 |a::b::r,0=>by simp[cS]
 |a::b::r,1=>by simp[cS]
 |a::b::r,i+2=>by
  have:=tw (b::r) (i+1);rw[Q9]at this;rw[Q9,Q9,cS,cS,aj,aj,aM,aM];omega
def v8:∀l a,a∈l->a.length<=(cS l).length
 |[],a,h=>by cases h
 |[b],a,h=>by rw[Q_.1 h];exact af _
 |b::c::r,a,h=>by
  rw[cS,aj,aM];rcases aK.1 h with rfl|h
  ·omega
  have:=v8 (c::r) a h;omega
def BB{i:Nat}(h:l[i]?=some x):cS (l.take (i+1))=if i=0 then x else cS (l.take i)++44::x:=by
 rw[Sf,h];show cS (l.take i++[x])=_;rw[mg];have j:=(aA.1 h).1;by_cases b:i=0
 ·subst b;rw[ag S5,ag rfl]
 rw[ae (λe=>by have:=congrArg List.length e;rw[Rf]at this;simp only[Ra]at this;omega),ae b]
def v_(a b:ba):(a++b).size=a.size+b.size:=Q4
def dI(a b:ba):(a++b).1.1=a.1.1++b.1.1:=S5
def pq{w0 w:Xa}{c:Nat}(h:iY w0 w (.slice o l.length c) l)(K:(cS l).length<=20000000)(M:l.length<=20000000):Calls prog 235 #[.slice o l.length c] w λe G=>e=.returned (str (il l))/\G=w:=by
 have E:=bZ h;go_enter func235,ntmps235;go_wp2
 go_loopw [3,4] (λF u wr=>∃(i:Nat) (b:ba),i<=l.length/\F=.string b/\u=.int .i64 i/\wr=w/\b.1.1=123::cS (l.take i)) (λ_ u _=>l.length-(intOf u).toNat)
 case atStart=>exact⟨0,⟨#[123]⟩,ar _,rfl,rfl,rfl,rfl⟩
 case round =>
  obtain⟨i,b,hi,rfl,rfl,rfl,j⟩:=hrel;have I:b.size<=20000001:=by
   rw[VO,j,aM];have:=tw l i;omega
  by_cases B:i<l.length
  ·have L:(i:Int)<(l.length:Int):=R5;have hx:=aq B;obtain⟨g,rfl,J,hcell⟩:=E.Z.cell hx;obtain⟨y,C⟩:∃y,(⟨l[i].toArray⟩:ba)=y:=⟨_,rfl⟩;have r:y.1.1=l[i]:=by rw[<-C]
   have N:y.size<=20000000:=by
    rw[VO,r];have:=v8 l l[i] (Si B);omega
   unfold str at hcell;rw[C]at hcell;have n:=BB hx;by_cases z:i=0
   ·subst z;rw[ag rfl]at n;have p:Hid ((b++y).1.1=123::cS (l.take (0+1))):=bZ (by
     rw[dI,j,r,n];rfl)
    go_wp2;exact⟨⟨0+1,b++y,by omega,rfl,by go_num,by trivial,p.Z⟩,by simp[intOf];omega⟩
   rw[ae z]at n;have p:Hid ((b++⟨#[44]⟩++y).1.1=123::cS (l.take (i+1))):=bZ (by
    rw[dI,dI,j,r,n];simp)
   go_wp2;exact⟨⟨i+1,b++⟨#[44]⟩++y,by omega,rfl,by go_num,by trivial,p.Z⟩,by simp[intOf];omega⟩
  obtain rfl:i=l.length:=R5;have D:Hid (str (il l)=.string (b++⟨#[125]⟩)):=bZ (by
   have e:(b++⟨#[125]⟩).1.1=il l:=by
    rw[dI,j,SC];simp[il]
   rw[<-e,dG])
  go_wp2;go_ret;exact⟨by rw[D.Z];rfl,rfl⟩
def pre(m:Nat):a_:=if m=0 then[]else Lib.decDigits m
def JX(h:m≠0):pre m=pre (m / 10)++[UInt8.ofNat (48+m%10)]:=by
 unfold pre;rw[ae h,Lib.decDigits];by_cases b:m<10
 ·rw[RA b,ag R5,show m%10=m by omega];rfl
 rw[dif_neg b,ae R5]
def MF{k:Nat}(h:m<10^(k+1)):(pre m).length<=k+1:=by
 unfold pre;split
 ·simp
 exact ua k m h
def BC(n w)(V:-9223372036854775808<=n)(h1:n<=9223372036854775807):Calls prog 300 #[.int .i64 n] w λe U=>e=.returned (str (Lib.itoa n))/\Xc w U:=by
 by_cases I:n=0
 ·subst I;go_enter func300,ntmps300;go_wp2;go_ret;exact⟨by kernel_rfl,VM _ _⟩
 have ab:(n==0)=false:=by simpa using I
 have N:n.natAbs<10^19:=by show _<10000000000000000000;omega
 go_enter func300,ntmps300;go_wp2
 go_loopw [3,4] (λT E wr=>∃(M:Nat) (b:ba),T=.string b/\E=.int .i64 (if n<0 then -(M:Int) else(M:Int))/\M<=n.natAbs/\Xc w wr/\Hid (pre M++b.1.1=pre n.natAbs)) (λ_ E _=>(intOf E).natAbs)
 case atStart =>
  refine⟨n.natAbs,⟨#[]⟩,rfl,?_,af _,VM _ _,bZ (RD _)⟩
  congr 1
  split<;>omega
 case round =>
  obtain⟨M,b,rfl,rfl,hM,j,z⟩:=hrel;have Y:b.size<=19:=by
   have h1:=congrArg List.length z.Z;rw[aj,<-VO]at h1;have h2:=MF (k:=18) N;omega
  by_cases F:M=0
  ·subst F;have r:Hid (str (Lib.itoa n)=.string (if n<0 then⟨#[45]⟩++b else b)):=bZ (by
    have y:=z.Z;have J:pre 0=[]:=rfl;rw[J,Rz]at y;have K:pre n.natAbs=Lib.decDigits n.natAbs:=by unfold pre;rw[ae R5]
    rw[K]at y;have e:(if n<0 then⟨#[45]⟩++b else b:ba).1.1=Lib.itoa n:=by
     unfold Lib.itoa;split
     ·rw[dI,y];rfl
     rw[y,show n.toNat=n.natAbs by omega]
    rw[<-e,dG])
   by_cases p:n<0
   ·rw[ag p]at r;go_wp2;go_ret;exact⟨by rw[r.Z];rfl,j⟩
   rw[ae p]at r;go_wp2;go_ret;exact⟨by rw[r.Z];rfl,j⟩
  have aa:M%10<10:=Sv _ R5;obtain⟨D,B⟩:∃D,M%10=D:=⟨_,rfl⟩;obtain⟨Q,C⟩:∃Q,M / 10=Q:=⟨_,rfl⟩;have G:=JX F;rw[B,C]at G;have u:Hid (pre Q++(⟨#[UInt8.ofNat (48+D)]⟩++b:ba).1.1=pre n.natAbs):=bZ (by
   rw[dI,<-z.Z,G,RU])
  have P:UInt8.ofNat (48+D)=48+UInt8.ofNat D:=UInt8.ofNat_add 48 D;rw[P]at u;have Z:∀(W:Xa) (k:Nat),W.cell? ⟨k,0,none⟩=some (.int .u8 (48+(D:Int)))->(convert 106 9 (.slice (some ⟨k,0,none⟩) 1 1)).run prog W=.ok (.string ⟨#[UInt8.ofNat (48+D)]⟩) W:=λW k h=>by
   have:=yo W k _ h;have p:(48+(D:Int)).toNat=48+D:=R5;rw[p]at this;exact this
  by_cases p:n<0
  ·have O:(-(M:Int) != 0)=true:=Tc;have S:(-(M:Int)).tmod 10=-(D:Int):=by rw[Int.neg_tmod,<-B];rfl
   have R:(-(M:Int)).tdiv 10=-(Q:Int):=by rw[Int.neg_tdiv,<-C];rfl
   simp only[p,aO];by_cases L:D=0
   ·subst L;go_wp2;exact⟨⟨Q,_,rfl,rfl,by omega,j.alloc j.size _,u⟩,by simp[intOf];omega⟩
   have X:-(D:Int)<0:=R5;go_wp2;exact⟨⟨Q,_,rfl,rfl,by omega,j.alloc j.size _,u⟩,by simp[intOf];omega⟩
  have O:((M:Int) != 0)=true:=Tc;have S:(M:Int).tmod 10=(D:Int):=by rw[<-B];rfl
  have R:(M:Int).tdiv 10=(Q:Int):=by rw[<-C];rfl
  simp only[p,Ry];go_wp2;exact⟨⟨Q,_,rfl,rfl,by omega,j.alloc j.size _,u⟩,by simp[intOf];omega⟩
def dV(w:Xa):Xa:=w.alloc (.cells #[.int .i64 0,.string ⟨#[]⟩] 166)
def gI{w w1:Xa}(e:Below (dV w).1.size (dV w) w1):w1.cell? ⟨w.1.size,0,none⟩=some (.int .i64 0)/\w1.cell? ⟨w.1.size,1,none⟩=some (.string ⟨#[]⟩)/\w1.frozen? ⟨w.1.size,0,none⟩=false/\w1.frozen? ⟨w.1.size,1,none⟩=false:=by
 have b:(dV w).1[w.1.size]?=some _:=heap_alloc_new w _;have h:=(e.block _ (cj b)).trans b;refine⟨by simp[World.cell?,h],by simp[World.cell?,h],by simp[World.frozen?,h],by simp[World.frozen?,h]⟩
def fj{w w1:Xa}(e:Below (dV w).1.size (dV w) w1)(x y):Xc w ((w1.setCell ⟨w.1.size,0,none⟩ x).setCell ⟨w.1.size,1,none⟩ y):=by
 have b:Below _ w (dV w):=(VM _ w).alloc (af _) _;exact((b.trans (e.mono b.size)).setCell (p:=⟨w.1.size,0,none⟩) (af _) _).setCell (p:=⟨w.1.size,1,none⟩) (af _) _
def mF(n w)(z:-9223372036854775808<=n)(h1:n<=9223372036854775807):Calls prog 274 #[.int .i64 n] w λe B=>e=.returned (dC (.ok (vn n)))/\Xc w B:=by
 have e:dC (.ok (vn n))=.agg #[.int .i64 0,str (Lib.itoa n)]:=by show Value.agg #[_,str _]=_;rw[xo]
 rw[e];have b:=bZ (λw=>BC n w z h1);unfold str at b ⊢;go_enter func274,ntmps274;go_wp2_with fail;refine b_ (b.Z _) λC j=>?_;obtain⟨r,u,f0,f1⟩:=gI j;have p:=bZ (λx y=>fj j x y);go_wp2;exact VN (v:=.agg #[.int .i64 0,.string ⟨(Lib.itoa n).toArray⟩]) (by simp[results,results274,go_sem,r,u]) rfl ⟨rfl,p.Z _ _⟩
def wg(b w):Calls prog 275 #[.bool b] w λe B=>e=.returned (dC (.ok (bY.bit b)))/\Xc w B:=by
 cases b with
 |true =>
  have j:=bZ (λw=>mF 1 w R5 R5);have e:dC (.ok (bY.bit true))=.agg #[.int .i64 0,.string ⟨#[49]⟩]:=S8;have z:dC (.ok (vn 1))=.agg #[.int .i64 0,.string ⟨#[49]⟩]:=S8;rw[e];rw[z]at j;go_enter func275,ntmps275;go_wp2_with fail;refine b_ (j.Z _) λC n=>?_;obtain⟨r,u,f0,f1⟩:=gI n;have p:=bZ (λx y=>fj n x y);go_wp2;exact VN (v:=.agg #[.int .i64 0,.string ⟨#[49]⟩]) (by simp[results,results275,go_sem,r,u]) rfl ⟨rfl,p.Z _ _⟩
 |false =>
  have j:=bZ (λw=>mF 0 w R5 R5);have e:dC (.ok (bY.bit false))=.agg #[.int .i64 0,.string ⟨#[48]⟩]:=S8;have z:dC (.ok (vn 0))=.agg #[.int .i64 0,.string ⟨#[48]⟩]:=S8;rw[e];rw[z]at j;go_enter func275,ntmps275;go_wp2_with fail;refine b_ (j.Z _) λC n=>?_;obtain⟨r,u,f0,f1⟩:=gI n;have p:=bZ (λx y=>fj n x y);go_wp2;exact VN (v:=.agg #[.int .i64 0,.string ⟨#[48]⟩]) (by simp[results,results275,go_sem,r,u]) rfl ⟨rfl,p.Z _ _⟩
def MG:Except Nat (a_)->Xb
 |.ok t=>.agg #[.int .i64 0,str t]
 |.error c=>.agg #[.int .i64 (c:Int),.string ⟨#[]⟩]
def pY(r):MG (txt r)=dC r:=by cases r<;>rfl
def uj(s w)(D:8<=w.1.size)(z:s.size<=20000000):Calls prog 234 #[.string s] w λe B=>e=.returned (MG (Gj s.1.1))/\Xc w B:=by
 have b:=bZ (tg 3 s (dV w) (by unfold dV;simp;omega) z R5);have hi:((3:Nat):Int)=3:=rfl;rw[hi]at b;unfold Gj;cases u:(rv 3 _).isSome with
 |true =>
  rw[u]at b;have e:MG (if true=true then Except.ok s.1.1 else Except.error 10)=.agg #[.int .i64 0,.string s]:=by
   show Value.agg #[_,str _]=_;rw[dG]
  rw[e];go_enter func234,ntmps234;go_wp2_with fail;refine b_ b.Z λC j=>?_;obtain⟨p,r,f0,f1⟩:=gI j;have n:=bZ (λx y=>fj j x y);go_wp2;exact VN (v:=.agg #[.int .i64 0,.string s]) (by simp[results,results234,go_sem,p,r]) rfl ⟨rfl,n.Z _ _⟩
 |false =>
  rw[u]at b;have e:MG (if false=true then Except.ok s.1.1 else Except.error 10)=.agg #[.int .i64 10,.string ⟨#[]⟩]:=rfl;rw[e];go_enter func234,ntmps234;go_wp2_with fail;refine b_ b.Z λC j=>?_;obtain⟨p,r,f0,f1⟩:=gI j;have n:=bZ (λx y=>fj j x y);go_wp2;exact VN (v:=.agg #[.int .i64 10,.string ⟨#[]⟩]) (by simp[results,results234,go_sem,p,r]) rfl ⟨rfl,n.Z _ _⟩
end Ref
end
section
namespace bY
variable{i m:Nat}{r:Except (Nat×Nat) Nat}{f R:Nat->Except (Nat×Nat) Nat}{l:a_}
def NE(r:Except (Nat×Nat) Nat):Prop:=∀e,r=.error e->e.1≠0
def NE.ok(j):NE (.ok j):=λe h=>by cases h
def NE.err{c:Nat}(h:c≠0):NE (.error (c,i)):=λe b=>by cases b;exact h
def NE.then(h:NE r)(n:∀j,r=.ok j->NE (f j)):NE (andThen r f):=by
 cases r with
 |ok j=>exact n j rfl
 |error e=>exact λp b=>by cases b;exact h e rfl
theorem NE.cD(l t i):NE (cD l t i):=by
 unfold bY.cD;split
 ·exact NE.ok _
 exact NE.err S4
def uk(l:a_)(m:Nat)(R:Nat->Except (Nat×Nat) Nat):Prop:=∀i,m<=i->i<=l.length->NE (R i)/\∀j,R i=.ok j->m<=j/\j<=l.length
def uk.exp(h:uk l m R)(t)(y:t≠[]):uk l m (λi=>andThen (R i) (bY.cD l t)):=λi h1 h2=>by
 obtain⟨a,b⟩:=h i h1 h2;refine⟨a.then (λj e=>NE.cD l t j),λj e=>?_⟩;obtain⟨k,p,n⟩:=andThen_ok e;have u:=b k p;have:=fP n y u.2;omega
def uk.seq{F:Nat->Except (Nat×Nat) Nat}(h:uk l m R)(hF:uk l m F):uk l m (λi=>andThen (R i) F):=λi h1 h2=>by
 obtain⟨a,b⟩:=h i h1 h2;refine⟨a.then (λj e=>(hF j (b j e).1 (b j e).2).1),λj e=>?_⟩;obtain⟨k,n,p⟩:=andThen_ok e;exact(hF k (b k n).1 (b k n).2).2 j p
def uk.want(t)(e:t≠[]):uk l m (bY.cD l t):=λi h1 h2=>⟨NE.cD l t i,λj b=>by have:=fP b e h2;omega⟩
def KP{k:Nat}{R F I W:Nat->Except (Nat×Nat) Nat}(b:uk l m R)(hF:uk l m F)(e:uk l m I)(j:uk l m W)(h1:m<=i)(h2:i<=l.length):NE (parts l k i R F I W):=by
 unfold parts;split
 ·exact(hF i h1 h2).1
 split
 ·exact((b.exp [41] S4) i h1 h2).1
 split
 ·exact((b.exp [93] S4) i h1 h2).1
 split
 ·split
  ·exact NE.ok _
  exact((b.seq e) i h1 h2).1
 split
 ·exact((uk.seq (b.exp [116,104,101,110] S4) (uk.seq (b.exp [101,108,115,101] S4) hF)) i h1 h2).1
 split
 ·exact((uk.seq (uk.want [40] S4) (b.exp [41] S4)) i h1 h2).1
 split
 ·exact((uk.seq (uk.want [40] S4) (uk.seq (b.exp [44] S4) (b.exp [41] S4))) i h1 h2).1
 split
 ·exact((uk.seq (uk.want [40] S4) (uk.seq (b.exp [44] S4) (j.exp [41] S4))) i h1 h2).1
 exact NE.ok _
def P9(l):∀n z e b i,i<=l.length->8*(l.length-i)+nd z<=n->NE (P l n z e b i)
 |0,z,e,b,i,hi,u=>by
  have:1<=nd z:=by unfold nd;split<;>(try split)<;>(try split)<;>omega
  omega
 |n+1,z,e,b,i,hi,u=>by
  have y:=P9 l n;have E:=kS l n;unfold P;split
  ·rename_i B;subst B;have u:8*(l.length-i)+4<=n+1:=u;refine NE.then (y 1 e b i hi (by show 8*(l.length-i)+3<=n;omega)) (λj C=>?_);have p:=E 1 e b i j C hi;simp only[show(1:Nat)<=3 by omega,aO]at p;split
   ·rename_i F;have hx:=gu (one_pos F);exact y 1 e b _ (fu l j p.2) (by show 8*(l.length-fX l j)+3<=n;omega)
   exact NE.ok _
  split
  ·rename_i _ B;subst B;have u:8*(l.length-i)+3<=n+1:=u;refine NE.then (y 2 e b i hi (by show 8*(l.length-i)+2<=n;omega)) (λj C=>?_);have p:=E 2 e b i j C hi;simp only[show(2:Nat)<=3 by omega,aO]at p;exact y 4 e b j p.2 (by show 8*(l.length-j)+1<=n;omega)
  split
  ·rename_i _ _ B;subst B;have u:8*(l.length-i)+2<=n+1:=u;refine NE.then (y 3 e b i hi (by show 8*(l.length-i)+1<=n;omega)) (λj C=>?_);have p:=E 3 e b i j C hi;simp only[show(3:Nat)<=3 by omega,aO]at p;exact y 5 e b j p.2 (by show 8*(l.length-j)+1<=n;omega)
  split
  ·rename_i _ _ _ B;subst B;have u:8*(l.length-i)+1<=n+1:=u;split
   ·exact NE.err S4
   split
   ·exact NE.err S4
   rename_i J _;have hx:=gu (qM J);have D:=fu l i hi;have mk:∀z G,nd z<=4->uk l (fX l i) (λj=>P l n z (e+1) G j):=λz G I j h1 h2=>⟨y z (e+1) G j h2 R5,λk K=>by have:=E z (e+1) G j k K h2;omega⟩;exact KP (mk 0 b S4) (mk 3 b S4) (mk 6 b S4) (mk 0 (b+1) S4) (af _) D
  split
  ·rename_i _ _ _ _ B;subst B;have u:8*(l.length-i)+1<=n+1:=u;split
   ·rename_i F;have hx:=gu (one_pos F);have D:=fu l i hi;refine NE.then (y 2 e b _ D (by show 8*(l.length-fX l i)+2<=n;omega)) (λj C=>?_);have p:=E 2 e b _ j C D;simp only[show(2:Nat)<=3 by omega,aO]at p;exact y 4 e b j p.2 (by show 8*(l.length-j)+1<=n;omega)
   exact NE.ok _
  split
  ·rename_i _ _ _ _ _ B;subst B;have u:8*(l.length-i)+1<=n+1:=u;split
   ·rename_i F;have hx:=gu (one_pos F);have D:=fu l i hi;refine NE.then (y 3 e b _ D (by show 8*(l.length-fX l i)+1<=n;omega)) (λj C=>?_);have p:=E 3 e b _ j C D;simp only[show(3:Nat)<=3 by omega,aO]at p;exact y 5 e b j p.2 (by show 8*(l.length-j)+1<=n;omega)
   exact NE.ok _
  have L:8*(l.length-i)+1<=n+1:=by
   have:1<=nd z:=by unfold nd;split<;>(try split)<;>(try split)<;>omega
   omega
  split
  ·rename_i I;have hx:=gu (nt (l:=l) (i:=i) (by rw[I];decide));have D:=fu l i hi;refine NE.then (y 0 e b _ D (by show 8*(l.length-fX l i)+4<=n;omega)) (λj C=>?_);have p:=E 0 e b _ j C D;simp only[show(0:Nat)<=3 by omega,aO]at p;exact y 6 e b j p.2 (by show 8*(l.length-j)+1<=n;omega)
  exact NE.cD _ _ _
def yH(h:(check l).1=0):mY l=some (gZ l)/\check l=(0,0):=by
 by_cases n:200<l.length
 ·unfold check at h;rw[ag n]at h;cases h
 have z:=P9 l (8*l.length+5) 0 0 0 (skip l 0) (pI l 0 (ar _)) (by show 8*(l.length-skip l 0)+4<=_;omega);have y:check l=(0,0):=by
  unfold check at h ⊢;rw[ae n]at h ⊢;cases b:P l (8*l.length+5) 0 0 0 (skip l 0) with
  |error e=>rw[b]at h;exact absurd h (z e b)
  |ok j =>
   rw[b]at h;simp only[xE]at h ⊢;split
   ·rfl
   rename_i p;rw[ae p]at h;cases h
 refine⟨?_,y⟩;have h2:=y;unfold check at h2;rw[ae n,<-pj l _ _ _ _ _ []]at h2;unfold mY gZ;rw[ae n];cases b:PT l (8*l.length+5) 0 0 0 (skip l 0) [] with
 |error e =>
  exfalso;have u:gf (PT l (8*l.length+5) 0 0 0 (skip l 0) [])=P l (8*l.length+5) 0 0 0 (skip l 0):=pj l _ _ _ _ _ [];rw[b]at u h2;exact z e u.symm (by have B:e=(0,0):=h2;rw[B])
 |ok q =>
  obtain⟨j,D⟩:=q;obtain⟨h1,_,_⟩:=NY l R5 (8*l.length+5);obtain⟨_,_,F,C,E⟩:=h1 0 0 0 (skip l 0) [] j D R5 (pI l 0 (ar _)) b;subst C;rw[b]at h2;simp only[gf,xE]at h2;split at h2
  ·rename_i p;simp only[ag p];rfl
  cases h2
end bY
end


section
open Tryz
namespace jU
variable{v:Xb}{l:List (a_)}{x a:a_}
def Fi:Nat->Nat->a_
 |0,_=>[]
 |f+1,n=>if n=0 then[]else UInt8.ofNat (48+n%10)::Fi f (n / 10)
def gp(n:Nat):a_:=33::Fi n n
def B8:∀f g n,n<=f->n<=g->Fi f n=Fi g n
 |0,g,n,h,_=>by
  obtain rfl:n=0:=R5;cases g<;>simp[Fi]
 |f+1,0,n,_,h=>by
  obtain rfl:n=0:=R5;simp[Fi]
 |f+1,g+1,n,h,e=>by
  unfold Fi;by_cases b:n=0
  ·rw[ag b,ag b]
  rw[ae b,ae b,B8 f g (n / 10) R5 R5]
def K_(n)(h:0<n):Fi n n=UInt8.ofNat (48+n%10)::Fi (n / 10) (n / 10):=by
 obtain⟨f,rfl⟩:∃f,n=f+1:=⟨n-1,by omega⟩;show(if f+1=0 then[]else _)=_;rw[ae R5,B8 f ((f+1) / 10) ((f+1) / 10) R5 (af _)]
def Fj:∀f n,(Fi f n).length<=f
 |0,n=>af _
 |f+1,n=>by
  unfold Fi;split
  ·exact ar _
  simpa using Fj f (n / 10)
def rQ(n:Nat)(w)(u:n<=1000000000):Calls prog 79 #[.int .i64 n] w λe E=>e=.returned (str (gp n))/\Xc w E:=by
 have hlen:(gp n).length<=1000000001:=by
  have:=Fj n n;unfold gp;simp only[aM];omega
 go_enter func79,ntmps79;go_wp2
 go_loopw [0,3] (λp D wr=>∃(m:Nat) (b:ba),p=.int .i64 (m:Int)/\D=.string b/\m<=n/\Hid (gp n=b.1.1++Fi m m/\Xc w wr)) (λp _ _=>(intOf p).toNat)
 case atStart=>exact⟨n,⟨#[33]⟩,rfl,rfl,af _,bZ ⟨rfl,VM _ _⟩⟩
 case round =>
  obtain⟨m,b,rfl,rfl,I,j⟩:=hrel;by_cases z:0<m
  ·have h1:(0:Int)<(m:Int):=R5;have F:b.size<=1000000001:=by
    have:=congrArg List.length j.Z.1;rw[aj]at this;rw[VO];omega
   have y:Hid (gp n=(b++⟨#[UInt8.ofNat (48+m%10)]⟩).1.1++Fi (m / 10) (m / 10)):=bZ (by
    rw[j.Z.1,K_ m z,dI];simp)
   have r:∀(W:Xa) (b:Nat),W.cell? ⟨b,0,none⟩=some (.int .u8 (48+(m:Int)%10))->(convert 106 9 (.slice (some ⟨b,0,none⟩) 1 1)).run prog W=.ok (.string ⟨#[UInt8.ofNat (48+m%10)]⟩) W:=λW b h=>by
    have:=yo W b _ h;have u:(48+(m:Int)%10).toNat=48+m%10:=R5;rw[u]at this;exact this
   have J:(m:Int).tdiv 10=(m:Int) / 10:=rfl;have K:(m:Int).tmod 10=(m:Int)%10:=rfl;have L:IntKind.i64.wrap ((m:Int) / 10)=(m:Int) / 10:=Tz;have M:IntKind.i64.wrap (48+(m:Int)%10)=48+(m:Int)%10:=Tz;have O:IntKind.i64.wrap ((m:Int)%10)=(m:Int)%10:=Tz;have N:IntKind.u8.wrap (48+(m:Int)%10)=48+(m:Int)%10:=by
    have:IntKind.u8.wrap (48+(m:Int)%10)=(48+(m:Int)%10)%256:=rfl;rw[this];omega
   have B:=r (wr.alloc (.cells #[.int .u8 (48+(m:Int)%10)] 5)) wr.1.size Ty;clear r;have C:(⟨#[UInt8.ofNat (48+m%10)]⟩:ba).size=1:=rfl;generalize (⟨#[UInt8.ofNat (48+m%10)]⟩:ba)=d1 at B y C;have G:¬9223372036854775807<b.size+d1.size:=R5;go_wp2;refine⟨⟨m / 10,b++d1,by go_num,rfl,by omega,bZ ⟨y.Z,?_⟩⟩,?_⟩
   ·exact j.Z.2.alloc j.Z.2.size _
   simp[intOf];omega
  obtain rfl:m=0:=R5;have h1:¬(0:Int)<((0:Nat):Int):=R5;go_wp2;go_ret;have h2:=j.Z.1;rw[show Fi 0 0=[]from rfl,RD]at h2;exact⟨by rw[h2,dG];rfl,j.Z.2⟩
def rL{w:Xa}(h:dX w v l){j:Nat}(hx:l[j]?=some x):∃g b,v=.slice (some ⟨g,0,none⟩) l.length b/\l.length<=b/\g<w.1.size/\w.cell? ⟨g,j,none⟩=some (str x):=by
 have u:=(aA.1 hx).1;rcases h.2 with⟨_,r⟩|⟨g,b,p,e,_,m,n,_⟩
 ·omega
 subst e;exact⟨g,b,rfl,n,cj m,(dX.cell h).2 j x hx⟩
def wT{w w':Xa}(h:dX w v l)(e:Xc w w'):dX w' v l:=cJ h (λg n j m b=>(e.block g (cj b)).trans b)
def jo(a b:ba):(a.toList==b.toList)=decide (a.1.1=b.1.1):=by
 rw[VP,VP,R6,Rd,SD]
def fO{x:ba}(h:str a=.string x):x.1.1=a:=by
 unfold str at h;injection h with h
 rw[<-h]
def Hc{m:List (a_)}{i:Nat}{b:a_}(h:l.take i=m.take i)(e:l[i]?=some a)(j:m[i]?=some b):(l.take (i+1)=m.take (i+1))↔a=b:=by
 rw[Sf,Sf,e,j,h];simp
def uN(w x y l m)(hx:dX w x l)(F:dX w y m)(hl:l.length<=1000000)(hm:m.length<=1000000):Calls prog 72 #[x,y] w λe w'=>e=.returned (.bool (decide (l=m)))/\Xc w w':=by
 obtain⟨ox,cx,rfl⟩:∃o c,x=.slice o l.length c:=by
  rcases hx.2 with⟨e,E⟩|⟨g,Q,S,e,_⟩
  ·exact⟨none,0,by rw[E];exact e⟩
  exact⟨_,_,e⟩
 obtain⟨oy,T,rfl⟩:∃o c,y=.slice o m.length c:=by
  rcases F.2 with⟨e,E⟩|⟨g,Q,S,e,_⟩
  ·exact⟨none,0,by rw[E];exact e⟩
  exact⟨_,_,e⟩
 have O:=bZ hx;have P:=bZ F;clear hx F;by_cases B:l.length=m.length
 ·have I:=bZ B;rw[<-B];clear B;go_enter func72,ntmps72;go_wp2
  go_loopw [5] (λG wr=>∃i:Nat,G=.int .i64 (i:Int)/\i<=l.length/\Hid (l.take i=m.take i/\Xc w wr)) (λG _=>l.length-(intOf G).toNat)
  case atStart=>exact⟨0,rfl,ar _,bZ ⟨rfl,VM _ _⟩⟩
  case round =>
   obtain⟨i,rfl,hi,j⟩:=hrel;by_cases Z:i<l.length
   ·have Y:(i:Int)<(l.length:Int):=R5;have z:=aq Z;have u:=aq (show i<m.length by have:=I.Z;omega);generalize l[i]=a at z;generalize m[i]'_=b at u;obtain⟨ga,ca,aa,_,ad,y0⟩:=rL (wT O.Z j.Z.2) z;obtain⟨X,R,K,_,ai,y1⟩:=rL (wT P.Z j.Z.2) u;cases aa;have ab:some ⟨X,0,none⟩=oy/\R=T:=by
     injection K with U e2 V
     exact⟨U.symm,V.symm⟩
    obtain⟨rfl,rfl⟩:=ab;clear K;obtain⟨L,C⟩:∃x:ba,str a=.string x:=⟨_,rfl⟩;obtain⟨M,D⟩:∃x:ba,str b=.string x:=⟨_,rfl⟩;rw[C]at y0;rw[D]at y1;have J:=jo L M;have r:=Hc j.Z.1 z u;rw[<-fO C,<-fO D]at r;by_cases n:L.1.1=M.1.1
    ·rw[aQ n]at J;have N:=bZ (r.2 n);clear r n C D z u
     go_upto_region 6 with fail
     go_quiet (fail)
     go_wp2;refine⟨⟨i+1,by go_num,by omega,bZ ⟨N.Z,by first|exact j.Z.2|exact j.Z.2.trans ((gH _ _).mono j.Z.2.size)⟩⟩,?_⟩;simp[intOf];omega
    rw[aN n]at J;have p:Hid (l≠m):=bZ (λe=>n (r.1 TJ));clear r n C D z u
    go_upto_region 6 with fail
    go_quiet (fail)
    go_wp2;go_ret;exact⟨by rw[aN p.Z];rfl,by first|exact j.Z.2|exact j.Z.2.trans ((gH _ _).mono j.Z.2.size)⟩
   have Y:¬(i:Int)<(l.length:Int):=R5;have p:Hid (l=m):=bZ (by
    have:=j.Z.1;rw[Ri R5,Ri (by have:=I.Z;omega)]at this;exact this)
   go_wp2;go_ret;exact⟨by rw[aQ p.Z];rfl,j.Z.2⟩
 have ak:¬((l.length:Int)=(m.length:Int)):=R5;have p:Hid (l≠m):=bZ (λe=>B TJ);go_enter func72,ntmps72;go_wp2;go_ret;exact⟨by rw[aN p.Z];rfl,VM _ _⟩
end jU
end
