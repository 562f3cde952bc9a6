/- Out of W1. -/
import Derived.Test.YtpekpdimdelncaaGreatDoorP01
import Derived.WalkSpells
import Derived.WalkLawsBesides
import Derived.Test.YtpekpdimdelncaaGreatDoorPS
import Derived.Lib.AppendIntMem
import Derived.Shelf.Strconv.ErrVarParseInt
import Derived.Test.YtpekpdimdelncaaGreatDoorPB
import Derived.Lib.BufferOwn
import Derived.Lib.ItoaLen
set_option maxRecDepth 100000
set_option maxHeartbeats 1000000
set_option linter.defProp false
namespace Go.Proofs.YtpekpdimdelncaaGreatDoor
open Go.RowKit
section
open bY
open Tryz
abbrev Xa:=Go.World
abbrev Xb:=Go.Value
abbrev Xc(w v:Go.World):=Go.RowKit.Below w.1.size w v
def _root_.Go.RowKit.Hid.Z{p:Prop}(h:Go.RowKit.Hid p):p:=h
variable{Q:Xa->Prop}{b i:Nat}{cs:Array Xb}
def bZ{p:Prop}(h:p):Hid p:=h
def b_{P f a w v}{R}(h:Calls P f a w λe j=>e=.returned v/\Q j)(k:∀j,Q j->R (.returned v) j):Calls P f a w R:=h.mono λ_ j x=>x.1▸k j x.2
def dL{P f a w v}{W:Xa}{R}(h:Calls P f a w λe j=>e=.returned v/\j=W)(k:R (.returned v) W):Calls P f a w R:=h.mono λ_ _ x=>x.1▸x.2▸k
def cr{w:Xa}{t fz v}(h:w.1[b]?=some (.cells cs t fz))(e:cs[i]?=some v):w.cell? ⟨b,i,none⟩=some v:=by simp[World.cell?,h,e]
def fq{w:Xa}{t}(h:w.1[b]?=some (.cells cs t (0,0))):w.frozen? ⟨b,i,none⟩=false:=by simp[World.frozen?,h]
def iG(c w):Calls prog 118 #[.int .u8 c] w λe j=>e=.returned (.bool (wZ c))/\j=w:=by
 go_enter func118,ntmps118;go_wp2
 all_goals go_ret
 ·exact⟨by simp[wZ, *],rfl⟩
 exact⟨by simp[wZ];omega,rfl⟩
def jE(c w):Calls prog 120 #[.int .u8 c] w λe j=>e=.returned (.bool (Ao c))/\j=w:=by
 go_enter func120,ntmps120;go_wp2
 all_goals go_ret
 ·exact⟨by simp[Ao, *],rfl⟩
 exact⟨by simp[Ao];omega,rfl⟩
def Cp(c w):Calls prog 156 #[.int .u8 c] w λe j=>e=.returned (.bool (Pv c))/\j=w:=by
 go_enter func156,ntmps156;go_wp2_with(first|(go_at_call 118;refine(iG _ _).mono ?_;rintro e j ⟨rfl,rfl⟩)|(go_at_call 120;refine dL (jE _ _) ?_))
 all_goals go_ret
 all_goals exact⟨by simp[Pv, *],rfl⟩
def LD(s:ba){a:Nat}(h:a=b):Ending.returned (.string (s.extract 0 a))=.returned (.string (s.extract 0 b)):=by rw[h]
def Aq(s w)(p:s.size<=4611686018427387904):Calls prog 155 #[.string s,.func (.func 118) #[] #[]] w λe m=>e=.returned (.string (s.extract 0 (dJ dH s.1.1)))/\m=w:=by
 go_enter func155,ntmps155;go_wp2_with fail
 go_loop [5] (λi=>∃k:Nat,k<=s.size/\i=.int .i64 k/\k<=dJ dH s.1.1) (λi=>s.size-(intOf i).toNat)
 case atStart=>exact⟨0,ar _,rfl,ar _⟩
 case round =>
  obtain⟨k,n,rfl,l⟩:=hrel;by_cases j:k<s.size
  ·go_wp2_with(go_at_call 118;refine dL (iG _ _) ?_)
   ·exact⟨⟨k+1,by omega,by go_num,pH _ _ k T1 l (by rw[<-dM s k j];assumption)⟩,by simp[intOf];omega⟩
   go_ret;exact⟨LD s (jx _ _ k l (λ_=>by rw[<-dM s k j];assumption)).symm,rfl⟩
  go_wp2;go_ret;exact⟨LD s (jx _ _ k l (λh=>absurd Ts j)).symm,rfl⟩
def Cq(s w)(p:s.size<=4611686018427387904):Calls prog 155 #[.string s,.func (.func 156) #[] #[]] w λe m=>e=.returned (.string (s.extract 0 (dJ eM s.1.1)))/\m=w:=by
 go_enter func155,ntmps155;go_wp2_with fail
 go_loop [5] (λi=>∃k:Nat,k<=s.size/\i=.int .i64 k/\k<=dJ eM s.1.1) (λi=>s.size-(intOf i).toNat)
 case atStart=>exact⟨0,ar _,rfl,ar _⟩
 case round =>
  obtain⟨k,n,rfl,l⟩:=hrel;by_cases j:k<s.size
  ·go_wp2_with(go_at_call 156;refine dL (Cp _ _) ?_)
   ·exact⟨⟨k+1,by omega,by go_num,pH _ _ k T1 l (by rw[<-dM s k j];assumption)⟩,by simp[intOf];omega⟩
   go_ret;exact⟨LD s (jx _ _ k l (λ_=>by rw[<-dM s k j];assumption)).symm,rfl⟩
  go_wp2;go_ret;exact⟨LD s (jx _ _ k l (λh=>absurd Ts j)).symm,rfl⟩
end
section
open bY
open Tryz
structure G(w:Xa):Prop where
 size:8<=w.1.size
 QV : Lib.TabIs prog w "internal/strconv.uint64pow10" .u64 Lib.pow10Tab
 syn : ∃ tp p, w.var? prog "strconv.ErrSyntax" = some #[.iface tp p]
 du : ∃ tp p, w.var? prog "strconv.ErrRange" = some #[.iface tp p]
def LF : prog.globalNamed "strconv.ErrSyntax" = some 4 := by kernel_rfl
def LG : prog.globalNamed "strconv.ErrRange" = some 5 := by kernel_rfl
def LH : prog.globalNamed "internal/strconv.uint64pow10" = some 1 := by kernel_rfl
def G.below{B:Nat}{w w':Xa}(g:G w)(h:Below B w w')(n:8<=B):G w':=by
 obtain⟨h1,h2,⟨a,e,j⟩,⟨b,l,m⟩⟩:=g;exact⟨ah h1 h.size,var?_below h LH R5 h2,⟨a,e,var?_below h LF R5 j⟩,⟨b,l,var?_below h LG R5 m⟩⟩
def Cr(s w):Calls prog 157 #[.string s] w λe b=>e=.returned (.bool (ib s.1.1))/\b=w:=by
 go_enter func157,ntmps157;go_wp2
 all_goals first
  |(exfalso;simp_all;done)
  |(go_ret;exact⟨by rw[<-VP];simp[ib, *],rfl⟩)
def iH(n w)(g:G w)(j:-9223372036854775808<=n)(h1:n<=9223372036854775807):Calls prog 171 #[.int .i64 n] w λe b=>e=.returned (.string ⟨(Lib.itoa n).toArray⟩)/\Xc w b:=by
 go_enter func171,ntmps171;go_wp2_with(go_at_call 211;refine(strconv_FormatInt_10 _ j h1 _ g.QV).mono ?_;rintro e b ⟨rfl,k,os,rfl⟩);go_ret;exact⟨rfl,Lib.below_grow _ _ (af _) _ _⟩
theorem uv(s w)(g:G w)(r:s.size<=281474976710656)(h:∀v,Lib.parseIntB 64 s.1.1≠.ok v):Calls prog 130 #[.string s] w λe j=>e=.returned (.tuple #[.int .i64 0,.bool false])/\Xc w j:=by
 have p:Calls prog 170 #[.string s,.int .i64 10,.int .i64 64] w λe j=>∃n N,e=.returned (.tuple #[.int .i64 n,.iface 331 (.pointer (some ⟨N,0,none⟩))])/\Xc w j:=by
  obtain⟨a,u,y⟩:=g.syn;obtain⟨b,z,B⟩:=g.du;rcases m:Lib.parseIntB 64 s.1.1 with v|_|_
  ·exact absurd m (h v)
  ·refine(Any.strconv_ParseInt_10_at64_syntax_var laysC174 s r m a u w y).mono ?_;rintro e j⟨N,rfl,_,_,l⟩;exact⟨_,_,rfl,l⟩
  refine(Any.strconv_ParseInt_10_at64_range_var laysC174 s r m b z w B).mono ?_;rintro e j⟨N,rfl,_,_,l⟩;exact⟨_,_,rfl,l⟩
 have H:=bZ p;clear p h g;go_enter func130,ntmps130;go_wp2_with(go_at_call 170;refine H.Z.mono ?_;rintro e j ⟨n,N,rfl,l⟩);go_ret2;exact⟨rfl,l⟩
def xc(s w)(g:G w)(D:s.size<=281474976710656)(v)(h:Lib.parseIntB 64 s.1.1=.ok v)(z:-9223372036854775808<=v)(h1:v<=9223372036854775807)(b)(p:(Lib.itoa v==s.1.1)=b):Calls prog 130 #[.string s] w λe l=>e=.returned (.tuple #[.int .i64 (if b then v else 0),.bool b])/\Xc w l:=by
 have r:=strconv_ParseInt_10_at64_ok s R5 v h w;have H:=bZ r;have m:=bZ p;clear r h p;go_enter func130,ntmps130;go_wp2_with(go_at_call 170;refine b_ H.Z λl u=>?_);have j:Xc w l:=by
  rcases u with rfl|⟨t,rfl⟩
  ·exact VM _ _
  exact Lib.bytesWorld_below _ _ _
 clear u;have y:=g.below j g.size;have C:(Lib.itoa v==s.toList)=b:=by
  rw[VP];exact m.Z
 clear m;go_wp2_with fail;refine b_ (iH v _ y z h1) λE B=>?_;have n:=j.trans (B.mono j.size);cases b
 ·go_wp2;go_ret2;exact⟨rfl,n⟩
 go_wp2;go_ret2;exact⟨rfl,n⟩
def oT(s w)(g:G w)(j:s.size<=281474976710656):Calls prog 130 #[.string s] w λe l=>e=.returned (.tuple #[.int .i64 ((d_ s.1.1).getD 0),.bool (d_ s.1.1).isSome])/\Xc w l:=by
 by_cases h:∃v,Lib.parseIntB 64 s.1.1=.ok v
 ·obtain⟨v,h⟩:=h;have b:=iF _ _ h;refine(xc s w g j v h b.1 b.2 _ rfl).mono ?_
  grind [d_]
 grind [Cn,uv]
def tS(s:ba):Option Nat->Xb
 |some n=>.tuple #[.string (s.extract 1 (n+1)),.bool true]
 |none=>.tuple #[.string ⟨#[]⟩,.bool false]
def qK(s w)(_hs:s.size<=4611686018427387904):Calls prog 127 #[.string s] w λe E=>e=.returned (tS s (dS s.1.1))/\E=w:=by
 by_cases r:Lib.hasPrefix s.1.1 [39]=true
 ·have D:=w_ _ r;go_enter func127,ntmps127;go_wp2_with(go_at_call 126;refine(strings_HasPrefix _ _ _).mono ?_;rintro e E ⟨rfl,rfl⟩);clear r
  go_loop [4] (λi=>∃k:Nat,i=.int .i64 k/\nh s.1.1 k) (λi=>32-(intOf i).toNat)
  case atStart=>exact⟨1,rfl,D⟩
  case round =>
   clear D;obtain⟨k,rfl,m⟩:=hrel;have L:=m.1;have M:=m.2.1;by_cases j:k<s.size/\k<=31
   ·obtain⟨j,z⟩:=j;have ge:=dM s k j;have GE:=bZ ge;clear ge;have y:k<s.1.1.length:=T1;by_cases h1:(s[k].toNat:Int)=39
    ·have l:=Fx m y z (by rw[<-GE.Z];exact Rp.1 (by show s[k].toNat=39;omega));have b:=bZ l;clear l;go_wp2;go_ret2;exact⟨by rw[b.Z];simp only[tS];rw[show k-1+1=k by omega];rfl,rfl⟩
    have p:¬s.1.1[k]=39:=by
     rw[<-GE.Z];intro e;rw[e]at h1;exact h1 rfl
    by_cases h2:fW s[k]=true
    ·have C:=Cm m y z p (by rw[<-GE.Z];exact h2);have F:=bZ C;have n:32<=(s[k].toNat:Int)/\(s[k].toNat:Int)<=126:=by simpa[fW]using h2
     obtain⟨n,K⟩:=n;have G:((s[k].toNat:Int)==39)=false:=T_;clear C h2 h1 p;go_wp2;exact⟨⟨k+1,by go_num,F.Z⟩,by simp[intOf];omega⟩
    have u:fW s[k]=false:=by simpa using h2
    have l:=Fy m y z p (by rw[<-GE.Z];exact u);have b:=bZ l;have n:(s[k].toNat:Int)<32\/126<(s[k].toNat:Int):=by
     simp[fW]at u;omega
    have G:((s[k].toNat:Int)==39)=false:=T_;clear l h2 u h1 p;by_cases B:(s[k].toNat:Int)<32
    ·clear n;go_wp2;go_ret2;exact⟨by rw[b.Z];rfl,rfl⟩
    have I:126<(s[k].toNat:Int):=R5;clear n;go_wp2;go_ret2;exact⟨by rw[b.Z];rfl,rfl⟩
   have l:=Fw m (by simp at j ⊢;omega);have b:=bZ l;clear l;by_cases B:k<s.size
   ·have I:¬k<=31:=λh=>j ⟨B,h⟩;clear j;go_wp2;go_ret2;exact⟨by rw[b.Z];rfl,rfl⟩
   clear j;go_wp2;go_ret2;exact⟨by rw[b.Z];rfl,rfl⟩
 have J:Lib.hasPrefix s.1.1 [39]=false:=Ua;have b:=bZ (Ap _ J);clear r;go_enter func127,ntmps127;go_wp2_with(go_at_call 126;refine dL (strings_HasPrefix _ _ _) ?_);go_ret2;exact⟨by rw[b.Z];rfl,rfl⟩
def pL(l:a_):Xb :=match (bY.tok l).1 with
 |2=>.iface 219 (.int .i64 ((d_ (l.take (bY.tok l).2)).getD 0))
 |3=>.iface 215 (.string ⟨((l.drop 1).take ((bY.tok l).2-2)).toArray⟩)
 |_=>.nilIface
def LI(l):(pL l).oneCell'=true:=by
 unfold pL;split<;>rfl
def im{P:Program}{w:Xa}(a m l):(store a (pL l) m).run P w=stored P w a (pL l) m:=run_store P w a _ m (LI l)
def oO(s:ba)(i:Nat):Xb :=.agg #[.int .i64 ((bY.tok (s.1.1.drop i)).1:Int),.string (s.extract i (i+(bY.tok (s.1.1.drop i)).2)),.int .i64 (i:Int),pL (s.1.1.drop i)]
def oq{W w1:Xa}(e:Xc W w1):(∀b o,b<W.1.size->w1.cell? ⟨b,o,none⟩=W.cell? ⟨b,o,none⟩)/\(∀b o,b<W.1.size->w1.frozen? ⟨b,o,none⟩=W.frozen? ⟨b,o,none⟩) :=⟨λb o h=>e.cell (p:=⟨b,o,none⟩) h,λb o h=>e.frozen (p:=⟨b,o,none⟩) h⟩
def mL(s:ba)(a b):(s.extract a b).size<=s.size:=by
 grind [ByteArray.size_extract]
def Ct{B:Nat}{a w:Xa}(h:Below B a w){b:Nat}(e:B<=b)(u0 u1 u2 u3):Below B a ((((w.setCell ⟨b,0,none⟩ u0).setCell ⟨b,1,none⟩ u1).setCell ⟨b,2,none⟩ u2).setCell ⟨b,3,none⟩ u3) :=(((h.setCell (p:=⟨b,0,none⟩) e _).setCell (p:=⟨b,1,none⟩) e _).setCell (p:=⟨b,2,none⟩) e _).setCell (p:=⟨b,3,none⟩) e _
def tF:Xb:=.agg #[.int .i64 1,.string ⟨#[]⟩,.int .i64 0,.nilIface]
def Hw(s:ba):Option Int->Xb
 |none=>tF
 |some v=>.agg #[.int .i64 2,.string (s.extract 0 (dJ dH s.1.1)),.int .i64 0,.iface 219 (.int .i64 v)]
def tG(s w)(g:G w)(z:s.size<=281474976710656)(o)(r:d_ (s.1.1.take (dJ dH s.1.1))=o):Calls prog 119 #[.string s] w λe u=>e=.returned (Hw s o)/\Xc w u:=by
 have m:=λ(w:Xa) (g:G w)=>oT (s.extract 0 (dJ dH s.1.1)) w g (by have:=mL s 0 (dJ dH s.1.1);omega);rw[VV,aW,Sn,r]at m;have p:=bZ m;have n:=g.below ((VM _ w).alloc (af _) (Obj.cells #[Value.int IntKind.i64 0,Value.string {data:=#[]},Value.int IntKind.i64 0,Value.nilIface] 172)) g.size;go_enter func119,ntmps119;go_wp2_with(go_at_call 155;refine dL (Aq _ _ R5) ?_);refine b_ (p.Z _ n) λB j=>?_;obtain⟨l,y⟩:=oq j;have b:=((VM _ _).alloc (af _) _).trans (j.mono S5);cases o with
 |none =>
  go_wp2;exact VN (v:=tF) (by simp[results,results119,go_sem,l,tF]) rfl ⟨rfl,Ct b (af _) _ _ _ _⟩
 |some v =>
  go_wp2;exact VN (v:=Hw s _) (by simp[results,results119,go_sem,l,Hw]) rfl ⟨rfl,Ct b (af _) _ _ _ _⟩
def yU(s:ba)(n:Nat)(b:Bool):Xb :=if b=true then .agg #[.int .i64 5,.string (s.extract 0 n),.int .i64 0,.nilIface]
 else if 8<n then tF
 else .agg #[.int .i64 4,.string (s.extract 0 n),.int .i64 0,.nilIface]
def tI(s w)(y:s.size<=281474976710656)(b)(j:ib (s.1.1.take (dJ eM s.1.1))=b):Calls prog 121 #[.string s] w λe n=>e=.returned (yU s (dJ eM s.1.1) b)/\Xc w n:=by
 have u:dJ eM s.1.1<=s.size:=by have:=ng eM s.1.1;simpa using this
 have m:=Cr (s.extract 0 (dJ eM s.1.1));rw[VV,aW,Sn,j]at m;have p:=bZ m;go_enter func121,ntmps121;go_wp2_with(first|(go_at_call 155;refine(Cq _ _ R5).mono ?_;rintro e n ⟨rfl,rfl⟩)|(go_at_call 157;refine dL (p.Z _) ?_))
 ·rename_i j;subst j;exact VN (v:=yU s _ true) (by simp[results,results121,go_sem,yU]) rfl ⟨rfl,(VM _ _).alloc (af _) _⟩
 ·rename_i j r;subst j;have l:8<dJ eM s.1.1:=R5;exact VN (v:=yU s _ false) (by simp[results,results121,go_sem,yU,l,tF]) rfl ⟨rfl,(VM _ _).alloc (af _) _⟩
 rename_i j r;subst j;have l:¬8<dJ eM s.1.1:=R5;exact VN (v:=yU s (dJ eM s.1.1) false) (by simp[results,results121,go_sem,yU,l]) rfl ⟨rfl,(VM _ _).alloc (af _) _⟩
def Hx(s:ba):Option Nat->Xb
 |none=>tF
 |some n=>.agg #[.int .i64 3,.string (s.extract 0 (n+2)),.int .i64 0,.iface 215 (.string (s.extract 1 (n+1)))]
def xd(s w)(u:s.size<=281474976710656)(o)(j:dS s.1.1=o):Calls prog 122 #[.string s] w λe m=>e=.returned (Hx s o)/\Xc w m:=by
 have l:=qK s;have p:∀n,o=some n->n+2<=s.size:=λn h=>by have:=pK (j.trans h);simpa using this
 rw[j]at l;have b:=bZ l;cases o with
 |none =>
  go_enter func122,ntmps122;go_wp2_with fail;refine(b.Z _ R5).mono ?_;rintro e m⟨rfl,rfl⟩;unfold tS;go_wp2;exact VN (v:=tF) (by simp[results,results122,go_sem,tF]) rfl ⟨rfl,(VM _ _).alloc (af _) _⟩
 |some n =>
  have r:=p n rfl;have y:(s.extract 1 (n+1)).size=n:=by rw[Sq];omega
  go_enter func122,ntmps122;go_wp2_with fail;refine dL (b.Z _ R5) ?_;unfold tS;go_wp2;exact VN (v:=Hx s _) (by simp[results,results122,go_sem,Hx]) rfl ⟨rfl,(VM _ _).alloc (af _) _⟩
end
section
open bY
open Tryz
attribute [local go_sem] im
def fF(s:ba):Xb :=.agg #[.int .i64 ((bY.tok s.1.1).1:Int),.string (s.extract 0 (bY.tok s.1.1).2),.int .i64 0,pL s.1.1]
theorem ni(s)(h:bY.tok s.1.1=(1,0)):tF=fF s:=by
 simp[fF,pL,h,tF];rfl
def Cu(s)(h:bY.tok s.1.1=(0,0)):(.agg #[.int .i64 0,.string ⟨#[]⟩,.int .i64 0,.nilIface]:Xb)=fF s:=by
 simp[fF,pL,h];rfl
def Ar(s)(h:bY.tok s.1.1=(6,1)):(.agg #[.int .i64 6,.string (s.extract 0 1),.int .i64 0,.nilIface]:Xb)=fF s:=by
 simp[fF,pL,h]
def Cv(s)(h:bY.tok s.1.1=if(d_ (s.1.1.take (dJ dH s.1.1))).isSome then(2,dJ dH s.1.1) else(1,0)):Hw s (d_ (s.1.1.take (dJ dH s.1.1)))=fF s:=by
 cases b:d_ (s.1.1.take (dJ dH s.1.1)) with
 |none =>
  rw[b]at h;exact ni s Ts
 |some v =>
  rw[b]at h;simp only[SI,aO]at h;simp[fF,pL,h,Hw,b]
def Cw(s)(h:bY.tok s.1.1=if ib (s.1.1.take (dJ eM s.1.1))=true then(5,dJ eM s.1.1)else if 8<dJ eM s.1.1 then(1,0) else(4,dJ eM s.1.1)):yU s (dJ eM s.1.1) (ib (s.1.1.take (dJ eM s.1.1)))=fF s:=by
 grind [yU,fF,pL,ni]
def Au(s)(h:bY.tok s.1.1=fh (dS s.1.1)):Hx s (dS s.1.1)=fF s:=by
 cases b:dS s.1.1 with
 |none=>rw[b]at h;exact ni s h
 |some n =>
  rw[b]at h;simp only[fF,pL,h,Hx,fh];rw[VZ s 1 (n+1)];simp
def lC(s w)(g:G w)(J:s.size<=281474976710656):Calls prog 82 #[.string s] w λe p=>e=.returned (fF s)/\Xc w p:=by
 by_cases E:s.size=0
 ·have n:s.1.1=[]:=by
   rw[<-R4,<-VO];exact E
  have X:s=ByteArray.empty:=by
   rw[<-Lib.mk_data s,n];rfl
  have b:=Cu s (by rw[n];rfl);subst X;have l:=bZ b;clear b n E;go_enter func82,ntmps82;go_wp2;exact VN (v:=.agg #[.int .i64 0,.string ⟨#[]⟩,.int .i64 0,.nilIface]) (by simp[results,results82,go_sem]) rfl ⟨by rw[l.Z],(VM _ _).alloc (af _) _⟩
 have S:0<s.size:=R5;obtain⟨c,r,n⟩:∃c r,s.1.1=c::r:=by
  cases n:s.1.1 with
  |nil=>exfalso;rw[VO,n]at E;exact E rfl
  |cons c r=>exact⟨c,r,rfl⟩
 have N:s[0]=c:=by rw[dM s 0 S];simp[n]
 have Y:s.toList.isEmpty=false:=by rw[VP,n];rfl
 have F:Xc w (w.alloc (Obj.cells #[Value.int IntKind.i64 0,Value.string {data:=#[]},Value.int IntKind.i64 0,Value.nilIface] 172)):=(VM _ _).alloc (af _) _;have R:=g.below F g.size;have j:=gy s.1.1 c r n;have HL:=bZ n;have y:=bZ N;clear n N;by_cases h1:dH c=true
 ·have b:=Cv s (by rw[j,ag h1]);have hd:wZ (s[0].toNat:Int)=true:=by rw[y.Z];exact h1
  have l:=bZ b;clear j b h1;go_enter func82,ntmps82;go_wp2_with(go_at_call 118;refine(iG _ _).mono ?_;rintro e p ⟨rfl,rfl⟩);refine b_ (tG s _ R J _ rfl) λu m=>?_;rw[l.Z];unfold fF;obtain⟨D,P⟩:=oq m;have Q:w.1.size<u.1.size:=Uk;have C:Xc w u:=F.trans (m.mono S5);go_wp2;exact VN (v:=fF s) Ul rfl ⟨rfl,Ct C (af _) _ _ _ _⟩
 have L:dH c=false:=T_;have hd:wZ (s[0].toNat:Int)=false:=by rw[y.Z];exact L
 rw[ae h1]at j;clear h1 L;by_cases h2:eE c=true
 ·have b:=Cw s (by rw[j,ag h2]);have T:Ao (s[0].toNat:Int)=true:=by rw[y.Z];exact h2
  have l:=bZ b;clear j b h2;go_enter func82,ntmps82;go_wp2_with(first|(go_at_call 118;refine(iG _ _).mono ?_;rintro e p ⟨rfl,rfl⟩)|(go_at_call 120;refine(jE _ _).mono ?_;rintro e p ⟨rfl,rfl⟩));refine b_ (tI s _ J _ rfl) λu m=>?_;rw[l.Z];unfold fF;obtain⟨D,P⟩:=oq m;have Q:w.1.size<u.1.size:=Uk;have C:Xc w u:=F.trans (m.mono S5);go_wp2;exact VN (v:=fF s) Ul rfl ⟨rfl,Ct C (af _) _ _ _ _⟩
 have M:eE c=false:=by simpa using h2
 have T:Ao (s[0].toNat:Int)=false:=by rw[y.Z];exact M
 rw[ae h2]at j;clear h2 M;by_cases z:c=39
 ·have b:=Au s (by rw[j,ag z]);have U:((s[0].toNat:Int)==39)=true:=by rw[y.Z,z];rfl
  have l:=bZ b;clear j b z;go_enter func82,ntmps82;go_wp2_with(first|(go_at_call 118;refine(iG _ _).mono ?_;rintro e p ⟨rfl,rfl⟩)|(go_at_call 120;refine(jE _ _).mono ?_;rintro e p ⟨rfl,rfl⟩));refine b_ (xd s _ J _ rfl) λu m=>?_;rw[l.Z];unfold fF;obtain⟨D,P⟩:=oq m;have Q:w.1.size<u.1.size:=Uk;have C:Xc w u:=F.trans (m.mono S5);go_wp2;exact VN (v:=fF s) Ul rfl ⟨rfl,Ct C (af _) _ _ _ _⟩
 have U:((s[0].toNat:Int)==39)=false:=by
  rw[y.Z,az];intro e;exact z (Rp.1 (by show c.toNat=39;omega))
 rw[ae z]at j;clear z;have I:=strings_IndexByte ⟨#[40,41,91,93,123,125,44,43,45,42,47,60,61]⟩ (s[0].toNat:Int);have O:((s[0].toNat:Int)).toNat.toUInt8=c:=by rw[y.Z];simp
 rw[O]at I;have K:=bZ I;clear I O;by_cases B:jy c=true
 ·have b:=Ar s (by rw[j,ag B]);have V:0<=Lib.indexByte [40,41,91,93,123,125,44,43,45,42,47,60,61] c:=by simpa[jy]using B
  have l:=bZ b;clear j b B;go_enter func82,ntmps82;go_wp2_with(first|(go_at_call 118;refine(iG _ _).mono ?_;rintro e p ⟨rfl,rfl⟩)|(go_at_call 120;refine(jE _ _).mono ?_;rintro e p ⟨rfl,rfl⟩));refine(K.Z _).mono ?_;rintro e p⟨rfl,rfl⟩;go_wp2;exact VN (v:=.agg #[.int .i64 6,.string (s.extract 0 1),.int .i64 0,.nilIface]) (by simp[results,results82,go_sem]) rfl ⟨by rw[l.Z],(VM _ _).alloc (af _) _⟩
 have b:=ni s (by rw[j,ae B]);have V:¬0<=Lib.indexByte [40,41,91,93,123,125,44,43,45,42,47,60,61] c:=by simpa[jy]using B
 have l:=bZ b;clear j b B;go_enter func82,ntmps82;go_wp2_with(first|(go_at_call 118;refine(iG _ _).mono ?_;rintro e p ⟨rfl,rfl⟩)|(go_at_call 120;refine(jE _ _).mono ?_;rintro e p ⟨rfl,rfl⟩));refine dL (K.Z _) ?_;go_wp2;exact VN (v:=tF) (by simp[results,results82,go_sem,tF]) rfl ⟨by rw[l.Z],(VM _ _).alloc (af _) _⟩
end
section
open Tryz
attribute [local go_sem] im
def kZ(s:ba)(i):(s.extract i s.size).1.1=s.1.1.drop i:=by
 rw[VV,Ri]
 simp_all
def extract_extract(s:ba)(i n):(s.extract i s.size).extract 0 n=s.extract i (i+n):=by
 rw[VZ (s.extract i s.size),kZ,VZ s i (i+n),aW,Sn,RQ]
def sU(s:ba)(i):fF (s.extract i s.size)=.agg #[.int .i64 ((bY.tok (s.1.1.drop i)).1:Int),.string (s.extract i (i+(bY.tok (s.1.1.drop i)).2)),.int .i64 0,pL (s.1.1.drop i)]:=by
 unfold fF;rw[kZ,extract_extract]
theorem Av(s)(a:Nat)(w)(g:G w)(K:s.size<=281474976710656)(C:a<=s.size):Calls prog 88 #[.string s,.int .i64 a] w λe I=>e=.returned (oO s (bY.skip s.1.1 a))/\Xc w I:=by
 have n:Xc w (w.alloc (Obj.cells #[Value.int IntKind.i64 0,Value.string {data:=#[]},Value.int IntKind.i64 0,Value.nilIface] 172)):=(VM _ _).alloc (af _) _;have B:=g.below n g.size;go_enter func88,ntmps88;go_wp2_with fail
 go_loop [1] (λi=>∃k:Nat,k<=s.size/\i=.int .i64 k/\Hid (bY.skip s.1.1 k=bY.skip s.1.1 a)) (λi=>s.size-(intOf i).toNat)
 case atStart=>exact⟨a,C,rfl,rfl⟩
 case round =>
  obtain⟨k,J,rfl,u⟩:=hrel;by_cases y:k<s.size
  ·have GE:=bZ (bY.dM s k y);have F:k<s.1.1.length:=by simpa using y
   by_cases p:((s[k].toNat:Int)==32)=true
   ·have j:=bZ (bY.xD s.1.1 k F (by rw[<-GE.Z];exact p));go_wp2;exact⟨⟨k+1,by omega,by go_num,j.Z.trans u⟩,by simp[intOf];omega⟩
   have D:((s[k].toNat:Int)==32)=false:=Tw;have j:=bZ (bY.pJ s.1.1 k (λ_=>by rw[<-GE.Z];exact D));clear p;go_wp2_with fail;refine b_ (lC (s.extract k s.size) _ B Um) λl b=>?_;rw[sU];obtain⟨r,E⟩:=oq b;have z:w.1.size<l.1.size:=T2;have m:Xc w l:=n.trans (b.mono S5);go_wp2;exact VN (v:=oO s k) (by simp[results,results88,go_sem,r,z,oO]) rfl ⟨by rw[<-u.Z,j.Z],(Ct m (af _) _ _ _ _).alloc Ub _⟩
  have j:=bZ (bY.pJ s.1.1 k (λh=>absurd Ts y));go_wp2_with fail;refine b_ (lC (s.extract k s.size) _ B Um) λl b=>?_;rw[sU];obtain⟨r,E⟩:=oq b;have z:w.1.size<l.1.size:=T2;have m:Xc w l:=n.trans (b.mono S5);go_wp2;exact VN (v:=oO s k) (by simp[results,results88,go_sem,r,z,oO]) rfl ⟨by rw[<-u.Z,j.Z],(Ct m (af _) _ _ _ _).alloc Ub _⟩
end
section
open bY
open Tryz
variable{s:ba}
attribute [local go_sem] im
def Hy(s:ba)(i b e:Nat):Array Xb :=#[.string s,.int .i64 ((bY.tok (s.1.1.drop i)).1:Int),.string (s.extract i (i+(bY.tok (s.1.1.drop i)).2)),.int .i64 (i:Int),pL (s.1.1.drop i),.int .i64 (b:Int),.int .i64 (e:Int)]
def iI(w:Xa)(s:ba)(j i b e:Nat):Prop:=w.1[j]?=some (.cells (Hy s i b e) 183 (0,0))
theorem iI.lt{w:Xa}{b i deep its:Nat}(h:iI w s b i deep its):b<w.1.size:=by
 grind [iI]
def iI.cells{w:Xa}{b i deep its:Nat}(h:iI w s b i deep its):w.cell? ⟨b,0,none⟩=some (.string s)/\w.cell? ⟨b,1,none⟩=some (.int .i64 ((bY.tok (s.1.1.drop i)).1:Int))/\w.cell? ⟨b,2,none⟩=some (.string (s.extract i (i+(bY.tok (s.1.1.drop i)).2)))/\w.cell? ⟨b,3,none⟩=some (.int .i64 i)/\w.cell? ⟨b,4,none⟩=some (pL (s.1.1.drop i))/\w.cell? ⟨b,5,none⟩=some (.int .i64 deep)/\w.cell? ⟨b,6,none⟩=some (.int .i64 its)/\(∀o,w.frozen? ⟨b,o,none⟩=false):=by
 unfold iI at h;refine⟨?_,?_,?_,?_,?_,?_,?_,?_⟩
 all_goals simp[World.cell?,World.frozen?,h,Hy]
def refusal(c i:Nat):Ending:=.panicked [{v:=.iface 179 (.agg #[.int .i64 (c:Int),.int .i64 (i:Int)]),recovered:=false}]
def nj(s b i j l)(c:Nat)(w)(h:iI w s b i j l):Calls prog 90 #[.pointer (some ⟨b,0,none⟩),.int .i64 c] w λe m=>e=refusal c i/\w=m:=by
 obtain⟨n,p,r,u,y,z,B,C⟩:=h.cells;go_enter func90,ntmps90;go_wp2;exact⟨rfl,rfl,rfl⟩
def uw(s:ba)(i):(s.extract i (i+(bY.tok (s.1.1.drop i)).2)).toList=tx s.1.1 i:=by
 rw[Lib.extract_toList,RQ];rfl
def ot(s:ba)(i):(s.extract i (i+(bY.tok (s.1.1.drop i)).2)).1.1=tx s.1.1 i:=by
 rw[VV,RQ];rfl
def ik{a b:Bool}(h:a=b):Ending.returned (.bool a)=.returned (.bool b):=by rw[h]
def kF(s b i j l t w)(h:iI w s b i j l):Calls prog 313 #[.pointer (some ⟨b,0,none⟩),.string t] w λe m=>e=.returned (.bool (tx s.1.1 i==t.1.1))/\w=m:=by
 obtain⟨n,p,r,u,y,z,B,C⟩:=h.cells;go_enter func313,ntmps313;go_wp2;go_ret;exact⟨ik (by rw[uw,VP]),rfl⟩
def kG(s u i B C t w)(h:iI w s u i B C):Calls prog 132 #[.pointer (some ⟨u,0,none⟩),.string t] w λe D=>e=.returned (.bool (gq s.1.1 i t.1.1))/\w=D:=by
 obtain⟨E,y,z,F,G,I,J,K⟩:=h.cells;by_cases b:(bY.tok (s.1.1.drop i)).1=6
 ·obtain⟨c,r,n,l⟩:=Hv _ b;have hx:tx s.1.1 i=[c]:=by rw[tx,l,n];rfl
  have p:s.extract i (i+(bY.tok (s.1.1.drop i)).2)=⟨#[c]⟩:=by
   rw[VZ,RQ,l,n];rfl
  have j:gq s.1.1 i t.1.1=decide (0<=Lib.indexByte t.1.1 c):=by
   rw[gq,hx];simp[b]
  rw[p]at z;rw[l]at y;have m:=bZ j;clear j p hx n l b h;go_enter func132,ntmps132;go_wp2_with(go_at_call 174;refine dL (strings_Contains_one _ _ _) ?_);go_ret;exact⟨ik m.Z.symm,rfl⟩
 have j:gq s.1.1 i t.1.1=false:=by
  unfold gq;split
  ·simp[b]
  rfl
 have m:=bZ j;have L:(((bY.tok (s.1.1.drop i)).1:Int)==6)=false:=by
  rw[az];omega
 clear j b h;go_enter func132,ntmps132;go_wp2;go_ret;exact⟨ik m.Z.symm,rfl⟩
theorem yV(t w):Calls prog 293 #[.string t] w λe b=>e=.returned (.int .i64 (jV t.1.1))/\w=b:=by
 go_enter func293,ntmps293;go_wp2_with fail
 all_goals first
  |(exfalso;simp_all;done)
  |(go_ret;refine⟨?_,rfl⟩;rw[<-VP];simp_all [jV])
theorem yW(x b j w)(l:w.cell? ⟨b,2,none⟩=some (.string x))(m:w.cell? ⟨b,6,none⟩=some (.int .i64 j)):Calls prog 292 #[.pointer (some ⟨b,0,none⟩)] w λe n=>e=.returned (.int .i64 (fC x.toList j))/\w=n:=by
 go_enter func292,ntmps292;go_wp2_with fail
 all_goals clear l m
 all_goals first
  |(exfalso;simp_all;done)
  |(go_ret;refine⟨?_,rfl⟩;simp_all [fC];done)
  |(go_ret;refine⟨?_,rfl⟩;simp_all [fC];omega)
def nr(s z i L b w)(h:iI w s z i L b):Calls prog 261 #[.pointer (some ⟨z,0,none⟩)] w λe u=>e=.returned (.int .i64 (cu s.1.1 i b))/\w=u:=by
 obtain⟨E,M,F,G,I,J,K,N⟩:=h.cells;have r:=yW _ _ _ _ F K;have p:=yV (s.extract i (i+(bY.tok (s.1.1.drop i)).2)) w;rw[ot]at p;rw[uw]at r;have y:cu s.1.1 i b=kindOf (bY.tok (s.1.1.drop i)).1 (tx s.1.1 i) b:=rfl;rw[y];have C:=bZ r;have B:=bZ p;clear r p y E G I J h;generalize (bY.tok (s.1.1.drop i)).1=k at *;by_cases h2:k=2
 ·subst h2;go_enter func261,ntmps261;go_wp2;go_ret;exact⟨by simp[kindOf],rfl⟩
 by_cases j:k=3
 ·subst j;go_enter func261,ntmps261;go_wp2;go_ret;exact⟨by simp[kindOf],rfl⟩
 by_cases l:k=4
 ·subst l;go_enter func261,ntmps261;go_wp2;go_ret;exact⟨by simp[kindOf],rfl⟩
 by_cases m:k=5
 ·subst m;go_enter func261,ntmps261;go_wp2_with fail;refine C.Z.mono ?_;rintro e u⟨rfl,rfl⟩;go_wp2;go_ret;exact⟨by simp[kindOf],rfl⟩
 by_cases n:k=6
 ·subst n;go_enter func261,ntmps261;go_wp2_with fail;refine B.Z.mono ?_;rintro e u⟨rfl,rfl⟩;go_wp2;go_ret;exact⟨by simp[kindOf],rfl⟩
 have O:((k:Int)==2)=false:=Tj;have P:((k:Int)==3)=false:=Tj;have Q:((k:Int)==4)=false:=Tj;have R:((k:Int)==5)=false:=Tj;have S:((k:Int)==6)=false:=Tj;have D:=bZ (show kindOf k (tx s.1.1 i) b=0 by simp[kindOf,h2,j,l,m,n]);clear h2 j l m n;go_enter func261,ntmps261;go_wp2;go_ret;exact⟨by rw[D.Z];rfl,rfl⟩
end
section
open Tryz
variable{l b:Nat}{cs:Array Xb}{m:Nat×Nat}{s:ba}
attribute [local go_sem] im
theorem sV(s x)(a:Nat)(w)(hx:x=(a:Int))(g:G w)(p:s.size<=281474976710656)(n:a<=s.size):Calls prog 88 #[.string s,.int .i64 x] w λe j=>e=.returned (oO s (bY.skip s.1.1 a))/\Xc w j:=by
 grind [Av]
def Hz(a b:Nat)(h:a+b<=281474976710656):IntKind.i64.wrap (a+b)=((a+b:Nat):Int):=by
 rw[IntKind.wrap_i64];omega
def after{w X w1:Xa}(j:Xc w X)(h1:Xc X w1)(n:l<w.1.size)(p:∀o,w.frozen? ⟨l,o,none⟩=false):Xc w w1/\(∀o,w1.cell? ⟨l,o,none⟩=w.cell? ⟨l,o,none⟩)/\(∀o,w1.frozen? ⟨l,o,none⟩=false):=by
 have e:=j.trans (h1.mono j.size);exact⟨e,λo=>e.cell (p:=⟨l,o,none⟩) n,λo=>(e.frozen (p:=⟨l,o,none⟩) n).trans (p o)⟩
def iA{w:Xa}{t:TypeId}(h:w.1[b]?=some (.cells cs t m))(o v):(w.setCell ⟨b,o,none⟩ v).1[b]?=some (.cells (cs.setIfInBounds o v) t m):=by
 simp[World.setCell,Rq,h]
def iI.other{w:Xa}{l i deep its:Nat}(h:iI w s l i deep its)(j:b≠l)(o v):iI (w.setCell ⟨b,o,none⟩ v) s l i deep its :=(VX w ⟨b,o,none⟩ v l (λe=>j e.symm)).trans h
def iI.alloc{w:Xa}{l i deep its:Nat}(h:iI w s l i deep its)(o):iI (w.alloc o) s l i deep its :=(VR w o l h.lt).trans h
def iI.below{w w':Xa}{l i deep its B:Nat}(h:iI w s l i deep its)(e:Below B w w')(j:l<B):iI w' s l i deep its :=(e.block l j).trans h
def iI.step{w:Xa}{l i deep its:Nat}(h:iI w s l i deep its)(j):iI ((((w.setCell ⟨l,1,none⟩ (.int .i64 ((bY.tok (s.1.1.drop j)).1:Int))).setCell ⟨l,2,none⟩ (.string (s.extract j (j+(bY.tok (s.1.1.drop j)).2)))).setCell ⟨l,3,none⟩ (.int .i64 j)).setCell ⟨l,4,none⟩ (pL (s.1.1.drop j))) s l j deep its:=by
 have h1:=iA (iA (iA (iA h 1 (.int .i64 ((bY.tok (s.1.1.drop j)).1:Int))) 2 (.string (s.extract j (j+(bY.tok (s.1.1.drop j)).2)))) 3 (.int .i64 (j:Int))) 4 (pL (s.1.1.drop j));exact h1
def iI.deep{w:Xa}{l i deep its:Nat}(h:iI w s l i deep its)(d:Nat):iI (w.setCell ⟨l,5,none⟩ (.int .i64 d)) s l i d its:=iA h 5 _
def iI.its{w:Xa}{l i deep its:Nat}(h:iI w s l i deep its)(d:Nat):iI (w.setCell ⟨l,6,none⟩ (.int .i64 d)) s l i deep d:=iA h 6 _
def Fr.trans{a w w':Xa}{row:Option Nat}(h:a.grownBy w row)(k:w.grownBy w' row):a.grownBy w' row:=Lib.grownBy_trans h k
def Fr.set{a w:Xa}(h:a.grownBy w (some l))(i v):a.grownBy (w.setCell ⟨l,i,none⟩ v) (some l):=Lib.grownBy_setB h i v
def Fr.new{a w:Xa}{row:Option Nat}(h:a.grownBy w row)(n:a.1.size<=b)(i v):a.grownBy (w.setCell ⟨b,i,none⟩ v) row :=⟨h.os,h.tape,h.output,by simpa[World.setCell]using h.size,λk e j=>(VX w ⟨b,i,none⟩ v k (by show k≠b;omega)).trans (h.block k e j)⟩
def Fr.below{a w w':Xa}{row:Option Nat}(h:a.grownBy w row){B:Nat}(e:Below B w w')(p:a.1.size<=B):a.grownBy w' row :=⟨e.os.trans h.os,e.tape.trans h.tape,e.output.trans h.output,ah h.size e.size,λk j n=>(e.block k R5).trans (h.block k j n)⟩
def mM(s l i u D w)(g:G w)(h:iI w s l i u D)(J:s.size<=281474976710656)(hi:i<=s.size):Calls prog 175 #[.pointer (some ⟨l,0,none⟩)] w λe E=>e=.returned (oO s i)/\iI E s l (bY.fX s.1.1 i) u D/\w.grownBy E (some l):=by
 obtain⟨O,P,Q,R,S,T,U,F⟩:=h.cells;have C:=h.lt;have I:i+(bY.tok (s.1.1.drop i)).2<=s.size:=by
  have:=bY.yT s.1.1 i Tt;simpa using this
 have Z:(s.extract i (i+(bY.tok (s.1.1.drop i)).2)).size=(bY.tok (s.1.1.drop i)).2:=by
  rw[Sq];omega
 go_enter func175,ntmps175;go_wp2_with fail;have z:Xc w (((w.alloc (Obj.cells #[Value.int IntKind.i64 0,Value.string {data:=#[]},Value.int IntKind.i64 0,Value.nilIface] 172)).alloc (Obj.cells #[Value.int IntKind.i64 ↑(bY.tok (List.drop i s.1.1)).fst,Value.string (s.extract i (i+(bY.tok (List.drop i s.1.1)).snd)),Value.int IntKind.i64 ↑i,pL (List.drop i s.1.1)] 172)).drew) :=(((VM _ _).alloc (af _) _).alloc S5 _).drew;have y:=g.below z g.size
 go_region_with (go_at_call 88;refine(sV s _ (i+(bY.tok (s.1.1.drop i)).2) _ ?_ y J I).mono ?_;(· rw[Hz _ _ R5]);rintro e j ⟨rfl,r⟩;(obtain⟨B,V,f1⟩:=after z r C F);unfold oO)
 all_goals(obtain⟨n,X⟩:=oq r)
 all_goals(have aa:w.1.size+1<j.1.size:=by have:=r.size;simp at this;omega)
 all_goals clear y g hi
 all_goals(have p:¬w.1.size=l:=by omega)
 all_goals(have Y:¬l=w.1.size:=by omega)
 all_goals(have K:j.cell? ⟨w.1.size,0,none⟩=some (.int .i64 0):=by rw[n _ _ Tc];simp[go_sem])
 all_goals(have L:j.cell? ⟨w.1.size,1,none⟩=some (.string ⟨#[]⟩):=by rw[n _ _ Tc];simp[go_sem])
 all_goals(have M:j.cell? ⟨w.1.size,2,none⟩=some (.int .i64 0):=by rw[n _ _ Tc];simp[go_sem])
 all_goals(have N:j.cell? ⟨w.1.size,3,none⟩=some .nilIface:=by rw[n _ _ Tc];simp[go_sem])
 all_goals go_wp2_with fail
 all_goals refine VN (v:=oO s i) (by simp[results,results175,go_sem,oO,K,L,M,N]) rfl ⟨rfl,((((iI.step (h.below B C) _).other p _ _).other p _ _).other p _ _).other p _ _,Fr.new (Fr.new (Fr.new (Fr.new (Fr.set (Fr.set (Fr.set (Fr.set (Fr.below (VQ _ _) B (af _)) _ _) _ _) _ _) _ _) (af _) _ _) (af _) _ _) (af _) _ _) (af _) _ _⟩
end
section
open bY
open Tryz
variable{c k n:Nat}{s x y:Xb}{j:List Xb}{v:V}{i:Int}
def gY(c:Nat):Ending:=.panicked [{v:=.iface 324 (.int .i64 (c:Int)),recovered:=false}]
def CT(v:V)(x:Xb):Prop :=(∃i:Int,v=vn i/\x=.iface 219 (.int .i64 i)/\-9223372036854775808<=i/\i<=9223372036854775807) \/(∃b:ba,v=vw b.1.1/\x=.iface 215 (.string b)/\b.size<=30)
def gm(w:Xa)(s:Xb)(j:List Xb):Prop :=(s=.slice none 0 0/\j=[]) \/∃(b e:Nat) (l:Array Xb) (m:Nat×Nat),s=.slice (some ⟨b,0,none⟩) j.length e/\j.length<=e/\w.1[b]?=some (.cells l 111 m)/\e<=l.size/\∀i,i<j.length->l[i]?=j[i]?
def cZ(w:Xa):Nat->V->Xb->Prop
 |0,v,x=>CT v x
 |n+1,v,x=>CT v x\/∃(l:List V) (s:Xb) (j:List Xb),v=vl l/\x=.iface 248 s/\gm w s j/\l.length=j.length/\l.length<=12/\∀(i:Nat) u y,l[i]?=some u->j[i]?=some y->cZ w n u y
def Ho(t:TypeId):Prop:=t=111\/t=263\/t=121
def cT(w w':Xa):Prop :=∀(k:Nat) (b:Array Xb) (t:TypeId) (e:Nat×Nat),w.1[k]?=some (.cells b t e)->Ho t->w'.1[k]?=some (.cells b t e)
def cT.refl(w):cT w w:=λ_ _ _ _ h _=>h
def cT.trans{a b c:Xa}(h:cT a b)(p:cT b c):cT a c:=λk e t l r m=>p k e t l (h k e t l r m) m
theorem cj{w:Xa}{o:Obj}(h:w.1[k]?=some o):k<w.1.size:=by
 grind
def cT.below{w w':Xa}(h:Xc w w'):cT w w':=λk _ _ _ b _=>(h.block k (cj b)).trans b
def gm.keeps{w w':Xa}(h:gm w s j)(z:cT w w'):gm w' s j:=by
 rcases h with h|⟨b,e,l,m,h1,h2,p,r,u⟩
 ·exact .inl h
 exact .inr ⟨b,e,l,m,h1,h2,z _ _ _ _ p (.inl rfl),r,u⟩
def cZ.keeps{w w':Xa}(b:cT w w'):∀{n:Nat}{v:V}{x:Xb},cZ w n v x->cZ w' n v x
 |0,_,_,h=>h
 |n+1,v,x,h=>by
  rcases h with h|⟨l,s,j,h1,h2,e,m,p,r⟩
  ·exact .inl h
  exact .inr ⟨l,s,j,h1,h2,e.keeps b,m,p,λi u y hu z=>cZ.keeps b (r i u y hu z)⟩
def cZ.leaf{w:Xa}(h:CT v x):cZ w n v x:=by
 cases n with
 |zero=>exact h
 |succ n=>exact .inl h
def cZ.up{w:Xa}:∀{n:Nat}{v:V}{x:Xb},cZ w n v x->cZ w (n+1) v x
 |0,_,_,h=>.inl h
 |n+1,v,x,h=>by
  rcases h with h|⟨l,s,j,h1,h2,b,e,m,p⟩
  ·exact .inl h
  exact .inr ⟨l,s,j,h1,h2,b,e,m,λi u y hu r=>cZ.up (p i u y hu r)⟩
def cZ.le{w:Xa}{m:Nat}(h:cZ w n v x)(l:n<=m):cZ w m v x:=by
 induction m with
 |zero =>
  obtain rfl:n=0:=R5;exact h
 |succ m e =>
  rcases Ro m n with b|b
  ·obtain rfl:n=m+1:=R5;exact h
  exact(e b).up
def cZ.fY{w:Xa}(h:cZ w n v x):(∃i:Int,v=vn i/\x=.iface 219 (.int .i64 i)/\-9223372036854775808<=i/\i<=9223372036854775807) \/(∃b:ba,v=vw b.1.1/\x=.iface 215 (.string b)/\b.size<=30) \/(∃(m:Nat) (l:List V) (s:Xb) (j:List Xb),n=m+1/\v=vl l/\x=.iface 248 s/\gm w s j/\l.length=j.length/\l.length<=12/\∀(i:Nat) u y,l[i]?=some u->j[i]?=some y->cZ w m u y):=by
 cases n with
 |zero =>
  rcases h with h|h
  ·exact .inl h
  exact .inr (.inl h)
 |succ n =>
  rcases h with(h|h)|⟨l,s,j,h⟩
  ·exact .inl h
  ·exact .inr (.inl h)
  exact .inr (.inr ⟨n,l,s,j,rfl,h⟩)
theorem cZ.one{w:Xa}(h:cZ w n v x):∃t y,x=.iface t y:=by
 rcases h.fY with⟨i,_,rfl,_⟩|⟨b,_,rfl,_⟩|⟨_,_,s,_,_,_,rfl,_⟩
 ·grind
 ·grind
 grind
def PV(w:Xa)(r:Except Nat V)(e:Ending)(w':Xa):Prop :=Xc w w'/\(∀v,r=.ok v->∃y,e=.returned y/\cZ w' 3 v y)/\(∀c,r=.error c->e=gY c)
def PV.ok{w w':Xa}(b:Xc w w')(h:cZ w' 3 v y):PV w (.ok v) (.returned y) w' :=⟨b,λu hu=>(by cases hu;exact⟨y,rfl,h⟩),λc e=>(by cases e)⟩
def PV.err{w w':Xa}(b:Xc w w'):PV w (.error c) (gY c) w' :=⟨b,λu hu=>(by cases hu),λc e=>TD⟩
/-! What the assertions of kinds answer. -/
def ov(a w):(Instr.typeAssert (.iface 219 a) 111 219 true).run prog w=.ok (.tuple #[a,.bool true]) w:=S8
def ow(a w):(Instr.typeAssert (.iface 215 a) 111 219 true).run prog w=.ok (.tuple #[.int .i64 0,.bool false]) w:=S8
def oz(a w):(Instr.typeAssert (.iface 248 a) 111 219 true).run prog w=.ok (.tuple #[.int .i64 0,.bool false]) w:=S8
def oC(a w):(Instr.typeAssert (.iface 219 a) 111 215 true).run prog w=.ok (.tuple #[.string ⟨#[]⟩,.bool false]) w:=S8
def oD(a w):(Instr.typeAssert (.iface 215 a) 111 215 true).run prog w=.ok (.tuple #[a,.bool true]) w:=S8
def oE(a w):(Instr.typeAssert (.iface 248 a) 111 215 true).run prog w=.ok (.tuple #[.string ⟨#[]⟩,.bool false]) w:=S8
def oG(a w):(Instr.typeAssert (.iface 219 a) 111 248 true).run prog w=.ok (.tuple #[.slice none 0 0,.bool false]) w:=S8
def oH(a w):(Instr.typeAssert (.iface 215 a) 111 248 true).run prog w=.ok (.tuple #[.slice none 0 0,.bool false]) w:=S8
def oJ(a w):(Instr.typeAssert (.iface 248 a) 111 248 true).run prog w=.ok (.tuple #[a,.bool true]) w:=S8
attribute [local go_sem] ov ow oz oC oD oE oG oH oJ
def eK(i w):Calls prog 280 #[.iface 219 (.int .i64 i)] w λe b=>e=.returned (.int .i64 i)/\b=w:=by
 go_enter func280,ntmps280;go_wp2;go_ret;exact⟨rfl,rfl⟩
def gC(t a w)(b:t=215\/t=248):Calls prog 280 #[.iface t a] w λe l=>e=gY 9/\l=w:=by
 rcases b with rfl|rfl
 all_goals
  go_enter func280,ntmps280;go_wp2;exact⟨rfl,rfl,rfl⟩
def pO(o n c w):Calls prog 278 #[.iface 248 (.slice o n c)] w λe b=>e=.returned (.slice o n c)/\b=w:=by
 go_enter func278,ntmps278;go_wp2;go_ret;exact⟨rfl,rfl⟩
def lr(t a w)(b:t=215\/t=219):Calls prog 278 #[.iface t a] w λe l=>e=gY 9/\l=w:=by
 rcases b with rfl|rfl
 all_goals
  go_enter func278,ntmps278;go_wp2;exact⟨rfl,rfl,rfl⟩
def rY(b w):Calls prog 317 #[.bool b] w λe l=>e=.returned (.iface 219 (.int .i64 (if b then 1 else 0)))/\l=w:=by
 cases b
 all_goals
  go_enter func317,ntmps317;go_wp2;go_ret;exact⟨rfl,rfl⟩
def xJ(i n k w)(h:bY.place i n=.ok k):Calls prog 318 #[.int .i64 i,.int .i64 n] w λe l=>e=.returned (.int .i64 k)/\l=w:=by
 have b:0<=i/\i<(n:Int)/\i=(k:Int):=by
  unfold bY.place at h;split at h
  ·cases h
  rename_i m;cases h;omega
 obtain⟨h1,h2,rfl⟩:=b;go_enter func318,ntmps318;go_wp2;go_ret;exact⟨rfl,rfl⟩
theorem pP(h:bY.place i n=.error c):(i<0\/n<=i)/\c=7:=by
 grind [bY.place]
theorem AM(h:bY.place i n=.ok k):i=k/\k<n:=by
 grind [bY.place]
def xK(i)(n:Nat)(w)(h1:i<0\/(n:Int)<=i):Calls prog 318 #[.int .i64 i,.int .i64 n] w λe b=>e=gY 7/\b=w:=by
 go_enter func318,ntmps318;by_cases h2:i<0
 ·go_wp2;exact⟨rfl,rfl,rfl⟩
 have l:(n:Int)<=i:=R5;go_wp2;exact⟨rfl,rfl,rfl⟩
end
section
open Tryz
variable{md:Region.Mode}
attribute [local go_sem] ov ow oz oC oD oE oG oH oJ
def LL{p:Prop}{a:Act}{w:Xa}(h:p)(_:wpAny prog md #[] (λ_ _ _=>True) 0 #[] a w):p:=h
def kc(i j w):Calls prog 316 #[.agg #[.iface 219 (.int .i64 i),.iface 219 (.int .i64 j)]] w λe b=>e=.returned (.tuple #[.int .i64 i,.int .i64 j])/\Xc w b:=by
 go_enter func316,ntmps316;go_wp2
 go_region_with (go_at_call 280;refine(eK _ _).mono ?_;rintro e b ⟨rfl,rfl⟩)
 all_goals go_wp2
 all_goals go_ret2
 all_goals exact⟨rfl,((VM _ _).alloc (af _) _).drew⟩
def nC(t u a b w)(m:(t=219/\∃i,a=.int .i64 i)\/t=215\/t=248)(j:(u=219/\∃i,b=.int .i64 i)\/u=215\/u=248)(n:t≠219\/u≠219):Calls prog 316 #[.agg #[.iface t a,.iface u b]] w λe l=>e=gY 9/\Xc w l:=by
 have r:∀o,Xc w (w.alloc o).drew:=λo=>((VM _ _).alloc (af _) _).drew;rcases m with⟨rfl,i,rfl⟩|m
 ·have y:u=215\/u=248:=by
   rcases j with⟨rfl,_⟩|j
   ·rcases n with h|h<;>exact absurd rfl h
   exact j
  have p:=bZ (λw=>eK i w);have z:=bZ (λw=>gC u b w y);clear j n y;go_enter func316,ntmps316;go_wp2
  go_region_with (first|(go_at_call 280;refine(p.Z _).mono ?_;clear p;rintro e l ⟨rfl,rfl⟩)|(go_at_call 280;refine(z.Z _).mono ?_;rintro e l ⟨rfl,rfl⟩;refine LL (md:=.text) (a:=⟨#[],[]⟩) (w:=w) ⟨rfl,rfl,r _⟩ ?_))
  all_goals trivial
 clear j n;go_enter func316,ntmps316;go_wp2
 go_region_with (go_at_call 280;refine(gC _ _ _ m).mono ?_;rintro e l ⟨rfl,rfl⟩;refine LL (md:=.text) (a:=⟨#[],[]⟩) (w:=w) ⟨rfl,rfl,r _⟩ ?_)
 all_goals trivial
end
section
open bY
open Tryz
variable{n:Nat}{v u:V}{x y:Xb}
attribute [local go_sem] ov ow oz oC oD oE oG oH oJ
theorem ku(i):-9223372036854775808<=bY.wrap i/\bY.wrap i<=9223372036854775807:=by
 grind [bY.wrap]
def qT(i):bY.wrap i=wrap64 i:=by
 unfold bY.wrap wrap64;rfl
def uJ{w:Xa}(i)(b:-9223372036854775808<=i)(h1:i<=9223372036854775807):cZ w n (vn i) (.iface 219 (.int .i64 i)) :=.leaf (.inl ⟨i,rfl,rfl,b,h1⟩)
theorem pd{w:Xa}{m:Nat}(hx:cZ w n v x)(r:cZ w m u y):(∃i j,v=vn i/\u=vn j/\x=.iface 219 (.int .i64 i)/\y=.iface 219 (.int .i64 j)/\-9223372036854775808<=i/\i<=9223372036854775807/\-9223372036854775808<=j/\j<=9223372036854775807) \/((∀f,mO v u f=.error 9)/\∀W:Xa,Calls prog 316 #[.agg #[x,y]] W λe D=>e=gY 9/\Xc W D):=by
 rcases hx.fY with⟨i,rfl,rfl,hi⟩|⟨b,rfl,rfl,_⟩|⟨_,l,s,B,_,rfl,rfl,_⟩
 ·rcases r.fY with⟨j,rfl,rfl,C⟩|⟨b,rfl,rfl,_⟩|⟨_,l,s,B,_,rfl,rfl,_⟩
  ·grind
  ·exact .inr ⟨λ_=>rfl,λW=>nC _ _ _ _ W (.inl ⟨rfl,_,rfl⟩) (.inr (.inl rfl)) (.inr S4)⟩
  exact .inr ⟨λ_=>rfl,λW=>nC _ _ _ _ W (.inl ⟨rfl,_,rfl⟩) (.inr (.inr rfl)) (.inr S4)⟩
 ·have z:∃t b,y=.iface t b/\((t=219/\∃i,b=.int .i64 i)\/t=215\/t=248):=by
   rcases r.fY with⟨j,rfl,rfl,C⟩|⟨b,rfl,rfl,_⟩|⟨_,l,s,B,_,rfl,rfl,_⟩
   ·grind
   ·grind
   grind
  obtain⟨t,c,rfl,p⟩:=z;exact .inr ⟨λ_=>rfl,λW=>nC _ _ _ _ W (.inr (.inl rfl)) p (.inl S4)⟩
 have z:∃t b,y=.iface t b/\((t=219/\∃i,b=.int .i64 i)\/t=215\/t=248):=by
  rcases r.fY with⟨j,rfl,rfl,C⟩|⟨b,rfl,rfl,_⟩|⟨_,l,s,B,_,rfl,rfl,_⟩
  ·grind
  ·grind
  grind
 obtain⟨t,c,rfl,p⟩:=z;exact .inr ⟨λ_=>rfl,λW=>nC _ _ _ _ W (.inr (.inr rfl)) p (.inl S4)⟩
def FQ(w)(hx:cZ w 3 v x)(b:cZ w 3 u y):Calls prog 304 #[.agg #[x,y]] w (PV w (mO v u λi j=>.ok (vn (bY.wrap (i-j))))):=by
 obtain⟨t1,D,m⟩:=hx.one;obtain⟨t2,E,p⟩:=b.one;rcases pd hx b with⟨i,j,rfl,rfl,rfl,rfl,F,h1,h2,G⟩|⟨z,r⟩
 ·clear m p hx b;go_enter func304,ntmps304;go_wp2_with(go_at_call 316;refine b_ (kc _ _ _) λC l=>?_);go_ret;exact PV.ok (((VM _ _).alloc (af _) _).trans (l.mono S5)) (show cZ _ 3 _ (.iface 219 (.int .i64 (wrap64 (i-j))))from by rw[<-qT];exact uJ _ (ku _).1 (ku _).2)
 rw[z];subst m p;have B:=bZ r;clear r z hx b;go_enter func304,ntmps304;go_wp2_with fail;refine(B.Z _).mono ?_;rintro e C⟨rfl,l⟩;exact⟨rfl,PV.err (((VM _ _).alloc (af _) _).trans (l.mono S5))⟩
def FR(w)(hx:cZ w 3 v x)(b:cZ w 3 u y):Calls prog 305 #[.agg #[x,y]] w (PV w (mO v u λi j=>.ok (vn (bY.wrap (i*j))))):=by
 obtain⟨t1,D,m⟩:=hx.one;obtain⟨t2,E,p⟩:=b.one;rcases pd hx b with⟨i,j,rfl,rfl,rfl,rfl,F,h1,h2,G⟩|⟨z,r⟩
 ·clear m p hx b;go_enter func305,ntmps305;go_wp2_with(go_at_call 316;refine b_ (kc _ _ _) λC l=>?_);go_ret;exact PV.ok (((VM _ _).alloc (af _) _).trans (l.mono S5)) (show cZ _ 3 _ (.iface 219 (.int .i64 (wrap64 (i*j))))from by rw[<-qT];exact uJ _ (ku _).1 (ku _).2)
 rw[z];subst m p;have B:=bZ r;clear r z hx b;go_enter func305,ntmps305;go_wp2_with fail;refine(B.Z _).mono ?_;rintro e C⟨rfl,l⟩;exact⟨rfl,PV.err (((VM _ _).alloc (af _) _).trans (l.mono S5))⟩
def FT(w)(hx:cZ w 3 v x)(b:cZ w 3 u y):Calls prog 309 #[.agg #[x,y]] w (PV w (mO v u λi j=>.ok (vn (min i j)))):=by
 obtain⟨t1,D,m⟩:=hx.one;obtain⟨t2,E,p⟩:=b.one;rcases pd hx b with⟨i,j,rfl,rfl,rfl,rfl,F,h1,h2,G⟩|⟨z,r⟩
 ·clear m p hx b;go_enter func309,ntmps309;go_wp2_with(go_at_call 316;refine b_ (kc _ _ _) λC l=>?_);go_ret;exact PV.ok (((VM _ _).alloc (af _) _).trans (l.mono S5)) (show cZ _ 3 _ (.iface 219 (.int .i64 (min i j)))from uJ _ R5 R5)
 rw[z];subst m p;have B:=bZ r;clear r z hx b;go_enter func309,ntmps309;go_wp2_with fail;refine(B.Z _).mono ?_;rintro e C⟨rfl,l⟩;exact⟨rfl,PV.err (((VM _ _).alloc (af _) _).trans (l.mono S5))⟩
def Im(w)(hx:cZ w 3 v x)(b:cZ w 3 u y):Calls prog 310 #[.agg #[x,y]] w (PV w (mO v u λi j=>.ok (vn (max i j)))):=by
 obtain⟨t1,D,m⟩:=hx.one;obtain⟨t2,E,p⟩:=b.one;rcases pd hx b with⟨i,j,rfl,rfl,rfl,rfl,F,h1,h2,G⟩|⟨z,r⟩
 ·clear m p hx b;go_enter func310,ntmps310;go_wp2_with(go_at_call 316;refine b_ (kc _ _ _) λC l=>?_);go_ret;exact PV.ok (((VM _ _).alloc (af _) _).trans (l.mono S5)) (show cZ _ 3 _ (.iface 219 (.int .i64 (max i j)))from uJ _ R5 R5)
 rw[z];subst m p;have B:=bZ r;clear r z hx b;go_enter func310,ntmps310;go_wp2_with fail;refine(B.Z _).mono ?_;rintro e C⟨rfl,l⟩;exact⟨rfl,PV.err (((VM _ _).alloc (af _) _).trans (l.mono S5))⟩
def Io(w)(hx:cZ w 3 v x)(l:cZ w 3 u y):Calls prog 306 #[.agg #[x,y]] w (PV w (mO v u λi j=>if j=0 then .error 8 else .ok (vn (bY.wrap (i.tdiv j))))):=by
 obtain⟨t1,E,p⟩:=hx.one;obtain⟨t2,F,r⟩:=l.one;rcases pd hx l with⟨i,j,rfl,rfl,rfl,rfl,G,h1,h2,I⟩|⟨B,z⟩
 ·clear p r hx l;by_cases m:j=0
  ·show Calls _ _ _ _ (PV w (if j=0 then .error 8 else .ok (vn (bY.wrap (i.tdiv j)))));rw[ag m];subst m;go_enter func306,ntmps306;go_wp2_with(go_at_call 316;refine b_ (kc _ _ _) λC b=>?_);exact⟨rfl,PV.err (((VM _ _).alloc (af _) _).trans (b.mono S5))⟩
  show Calls _ _ _ _ (PV w (if j=0 then .error 8 else .ok (vn (bY.wrap (i.tdiv j)))));rw[ae m];go_enter func306,ntmps306;go_wp2_with(go_at_call 316;refine b_ (kc _ _ _) λC b=>?_);go_ret;exact PV.ok (((VM _ _).alloc (af _) _).trans (b.mono S5)) (show cZ _ 3 _ (.iface 219 (.int .i64 (wrap64 (i.tdiv j))))from by rw[<-qT];exact uJ _ (ku _).1 (ku _).2)
 rw[B];subst p r;have D:=bZ z;clear z B hx l;go_enter func306,ntmps306;go_wp2_with fail;refine(D.Z _).mono ?_;rintro e C⟨rfl,b⟩;exact⟨rfl,PV.err (((VM _ _).alloc (af _) _).trans (b.mono S5))⟩
end
section
open bY
open Tryz
variable{n:Nat}{l:a_}{b:ba}{s y x:Xb}{p:List Xb}{o:Option Addr}{v:V}
attribute [local go_sem] ov ow oz oC oD oE oG oH oJ
def Oj{w:Xa}(b)(h:b.size<=30):cZ w n (vw b.1.1) (.iface 215 (.string b)) :=.leaf (.inr ⟨b,rfl,rfl,h⟩)
def qU(b:ba):b.1.1.length=b.size:=S5
def LO(a b w)(h:a.size+b.size<=30):Calls prog 314 #[.string a,.string b] w λe j=>e=.returned (.iface 215 (.string (a++b)))/\j=w:=by
 go_enter func314,ntmps314;go_wp2;go_ret;exact⟨rfl,rfl⟩
def LQ(a b w)(m:a.size<=30)(r:b.size<=30)(h:30<a.size+b.size):Calls prog 314 #[.string a,.string b] w λe j=>e=gY 10/\j=w:=by
 go_enter func314,ntmps314;go_wp2;exact⟨rfl,rfl,rfl⟩
def PV.num{w w':Xa}{i j:Int}(m:Xc w w')(h:j=i)(e:-9223372036854775808<=i)(h1:i<=9223372036854775807):PV w (.ok (vn i)) (.returned (.iface 219 (.int .i64 j))) w':=by
 subst h;exact PV.ok m (uJ _ e h1)
def PV.word{w w':Xa}(j:Xc w w')(h:b.1.1=l)(e:b.size<=30):PV w (.ok (vw l)) (.returned (.iface 215 (.string b))) w':=by
 subst h;exact PV.ok j (Oj _ e)
theorem gm.len{w:Xa}(h:gm w s p):∃o c,s=.slice o p.length c:=by
 rcases h with⟨rfl,rfl⟩|⟨b,e,j,m,rfl,_⟩
 ·simp_all
 grind
theorem gm.cell{w:Xa}{c:Nat}(h:gm w (.slice o n c) p){i:Nat}(hi:p[i]?=some y):∃b,o=some ⟨b,0,none⟩/\w.cell? ⟨b,i,none⟩=some y:=by
 have m:i<p.length:=by
  grind
 rcases h with⟨h1,rfl⟩|⟨b,r,u,z,h1,h2,e,B,j⟩
 ·grind
 cases h1;refine⟨b,rfl,?_⟩;simp[World.cell?,e,j i m,hi]
def Ip(w)(hx:cZ w 3 v x):Calls prog 283 #[x] w (PV w (bY.size v)):=by
 rcases hx.fY with⟨i,rfl,rfl,hi⟩|⟨b,rfl,rfl,r⟩|⟨m,l,s,p,z,rfl,rfl,e,u,j,B⟩
 ·go_enter func283,ntmps283;go_wp2;exact⟨rfl,PV.err (VM _ _)⟩
 ·go_enter func283,ntmps283;go_wp2;go_ret;exact PV.num (VM _ _) S5 S5 Tc
 obtain⟨o,c,rfl⟩:=e.len;go_enter func283,ntmps283;go_wp2;go_ret;exact PV.num (VM _ _) R5 R5 R5
def CU(w)(g:G w)(hx:cZ w 3 v x):Calls prog 285 #[x] w (PV w (iu v)):=by
 rcases hx.fY with⟨i,rfl,rfl,hi⟩|⟨b,rfl,rfl,j⟩|⟨m,l,s,p,B,rfl,rfl,r,z,u,C⟩
 ·have hlen:(Lib.itoa i).length<=30:=by have:=Lib.itoa_length_le i hi.1 hi.2;omega
  go_enter func285,ntmps285;go_wp2_with(go_at_call 171;refine b_ (iH i _ g hi.1 hi.2) λD e=>?_);go_ret;exact PV.word e rfl (by simp[ByteArray.size];exact hlen)
 ·go_enter func285,ntmps285;go_wp2;go_ret;exact PV.word (VM _ _) rfl j
 obtain⟨o,c,rfl⟩:=r.len;go_enter func285,ntmps285;go_wp2;exact⟨rfl,PV.err (VM _ _)⟩
def LR(w)(hx:cZ w 3 v x):Calls prog 284 #[x] w (PV w (jW v)):=by
 rcases hx.fY with⟨i,rfl,rfl,hi⟩|⟨b,rfl,rfl,M⟩|⟨m,l,s,p,X,rfl,rfl,E,U,Q,P⟩
 ·go_enter func284,ntmps284;go_wp2_with fail;refine(lr _ _ _ (.inr rfl)).mono ?_;rintro e C⟨rfl,rfl⟩;exact⟨rfl,PV.err (VM _ _)⟩
 ·go_enter func284,ntmps284;go_wp2_with fail;refine(lr _ _ _ (.inl rfl)).mono ?_;rintro e C⟨rfl,rfl⟩;exact⟨rfl,PV.err (VM _ _)⟩
 obtain⟨o,c,rfl⟩:=E.len;show Calls _ _ _ _ (PV w (fE 0 l));generalize N:fE 0 l=J;have G:=bZ N;go_enter func284,ntmps284;go_wp2_with(go_at_call 278;refine(pO _ _ _ _).mono ?_;rintro e C ⟨rfl,rfl⟩)
 go_loop [3,9] (λa i=>∃(k:Nat) (z:Int),k<=l.length/\i=.int .i64 k/\a=.int .i64 z/\-9223372036854775808<=z/\z<=9223372036854775807/\Hid (fE z (l.drop k)=J)) (λ_ i=>p.length-(intOf i).toNat)
 case atStart=>exact⟨0,0,ar _,rfl,rfl,by omega,by omega,G⟩
 case round =>
  obtain⟨k,z,T,rfl,rfl,K,L,D⟩:=hrel;by_cases O:k<p.length
  ·obtain⟨y,F⟩:∃y,p[k]?=some y:=⟨_,aq O⟩;obtain⟨u,hu⟩:∃u,l[k]?=some u:=⟨_,aq R5⟩;obtain⟨b,rfl,R⟩:=E.cell F;have r:=D.Z;have hd:l.drop k=u::l.drop (k+1):=by
    rw[aU R5];rw[aq R5]at hu;cases hu;rfl
   rw[hd]at r;rcases(P k u y hu F).fY with⟨j,rfl,rfl,S⟩|⟨d,rfl,rfl,M⟩|⟨m2,l2,s2,aa,Y,rfl,rfl,Z,V,_,_⟩
   ·have I:=r;go_wp2_with(go_at_call 280;refine dL (eK _ _) ?_);exact⟨⟨k+1,bY.wrap _,by omega,by go_num,by rw[qT],(ku _).1,(ku _).2,I⟩,by simp[intOf];omega⟩
   ·have B:=r.symm;subst B;go_wp2_with fail;refine(gC _ _ _ (.inl rfl)).mono ?_;rintro e C⟨rfl,rfl⟩;exact⟨rfl,PV.err (VM _ _)⟩
   have B:=r.symm;subst B;go_wp2_with fail;refine(gC _ _ _ (.inr rfl)).mono ?_;rintro e C⟨rfl,rfl⟩;exact⟨rfl,PV.err (VM _ _)⟩
  have r:=D.Z;rw[aT R5]at r;have B:=r.symm;subst B;go_wp2;go_ret;exact PV.num (VM _ _) rfl K L
end
