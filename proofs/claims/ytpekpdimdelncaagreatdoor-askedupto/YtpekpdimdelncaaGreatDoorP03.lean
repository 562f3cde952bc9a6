/- Out of W1. -/
import Derived.Test.YtpekpdimdelncaaGreatDoorP01
import Derived.WalkSpells
import Derived.WalkLawsBesides
import Derived.Test.YtpekpdimdelncaaGreatDoorPS
import Derived.Lib.AppendIntMem
import Derived.Shelf.Strconv.ErrVarParseInt
import Derived.Test.YtpekpdimdelncaaGreatDoorPB
import Derived.Lib.BufferOwn
set_option maxRecDepth 100000
set_option maxHeartbeats 1000000
set_option linter.defProp false
namespace Go.Proofs.YtpekpdimdelncaaGreatDoor
open Go.RowKit
section
open bY
open Tryz
abbrev QV:=Go.World
abbrev Xa:=Go.Value
abbrev Xb(w v:Go.World):=Go.RowKit.Below w.1.size w v
def _root_.Go.RowKit.Hid.Z{p:Prop}(h:Go.RowKit.Hid p):p:=h
def bZ{p:Prop}(h:p):Hid p:=h
def iz(c w):Calls prog 118 #[.int .u8 c] w λe w'=>e=.returned (.bool (wk c))/\w'=w:=by
 go_enter func118,ntmps118;go_wp2
 all_goals go_ret
 ·exact⟨by simp[wk, *],rfl⟩
 exact⟨by simp[wk];omega,rfl⟩
def js(c w):Calls prog 120 #[.int .u8 c] w λe w'=>e=.returned (.bool (zG c))/\w'=w:=by
 go_enter func120,ntmps120;go_wp2
 all_goals go_ret
 ·exact⟨by simp[zG, *],rfl⟩
 exact⟨by simp[zG];omega,rfl⟩
def BK(c w):Calls prog 156 #[.int .u8 c] w λe w'=>e=.returned (.bool (Og c))/\w'=w:=by
 go_enter func156,ntmps156;go_wp2_with(first|(go_at_call 118;refine(iz _ _).mono ?_;rintro e w' ⟨rfl,rfl⟩)|(go_at_call 120;refine(js _ _).mono ?_;rintro e w' ⟨rfl,rfl⟩))
 all_goals go_ret
 all_goals exact⟨by simp[Og, *],rfl⟩
def Kq(s:ba){a b:Nat}(h:a=b):Ending.returned (.string (s.extract 0 a))=.returned (.string (s.extract 0 b)):=by rw[h]
def zI(s w)(hs:s.size<=4611686018427387904):Calls prog 155 #[.string s,.func (.func 118) #[] #[]] w λe w'=>e=.returned (.string (s.extract 0 (dC dA s.1.1)))/\w'=w:=by
 go_enter func155,ntmps155;go_wp2_with fail
 go_loop [5] (λi=>∃k:Nat,k<=s.size/\i=.int .i64 k/\k<=dC dA s.1.1) (λi=>s.size-(intOf i).toNat)
 case atStart=>exact⟨0,au _,rfl,au _⟩
 case round =>
  obtain⟨k,j,rfl,hl⟩:=hrel;by_cases b:k<s.size
  ·go_wp2_with(go_at_call 118;refine(iz _ _).mono ?_;rintro e w' ⟨rfl,rfl⟩)
   ·exact⟨⟨k+1,by omega,by go_num,pg _ _ k Sy hl (by rw[<-dH s k b];assumption)⟩,by simp[intOf];omega⟩
   go_ret;exact⟨Kq s (jk _ _ k hl (λ_=>by rw[<-dH s k b];assumption)).symm,rfl⟩
  go_wp2_with fail;go_ret;exact⟨Kq s (jk _ _ k hl (λh=>absurd Sf b)).symm,rfl⟩
def BL(s w)(hs:s.size<=4611686018427387904):Calls prog 155 #[.string s,.func (.func 156) #[] #[]] w λe w'=>e=.returned (.string (s.extract 0 (dC eF s.1.1)))/\w'=w:=by
 go_enter func155,ntmps155;go_wp2_with fail
 go_loop [5] (λi=>∃k:Nat,k<=s.size/\i=.int .i64 k/\k<=dC eF s.1.1) (λi=>s.size-(intOf i).toNat)
 case atStart=>exact⟨0,au _,rfl,au _⟩
 case round =>
  obtain⟨k,j,rfl,hl⟩:=hrel;by_cases b:k<s.size
  ·go_wp2_with(go_at_call 156;refine(BK _ _).mono ?_;rintro e w' ⟨rfl,rfl⟩)
   ·exact⟨⟨k+1,by omega,by go_num,pg _ _ k Sy hl (by rw[<-dH s k b];assumption)⟩,by simp[intOf];omega⟩
   go_ret;exact⟨Kq s (jk _ _ k hl (λ_=>by rw[<-dH s k b];assumption)).symm,rfl⟩
  go_wp2_with fail;go_ret;exact⟨Kq s (jk _ _ k hl (λh=>absurd Sf b)).symm,rfl⟩
end
section
open bY
open Tryz
structure G(w:QV):Prop where
 size:8<=w.1.size
 PN : Lib.TabIs prog w "internal/strconv.uint64pow10" .u64 Lib.pow10Tab
 syn : ∃ tp p, w.var? prog "strconv.ErrSyntax" = some #[.iface tp p]
 du : ∃ tp p, w.var? prog "strconv.ErrRange" = some #[.iface tp p]
def Kr : prog.globalNamed "strconv.ErrSyntax" = some 4 := by kernel_rfl
def Ks : prog.globalNamed "strconv.ErrRange" = some 5 := by kernel_rfl
def Kt : prog.globalNamed "internal/strconv.uint64pow10" = some 1 := by kernel_rfl
def G.below{B:Nat}{w w':QV}(g:G w)(h:Below B w w')(l:8<=B):G w':=by
 obtain⟨h1,h2,⟨a,e,ha'⟩,⟨b,hb,j⟩⟩:=g;exact⟨ah h1 h.size,var?_below h Kt RM h2,⟨a,e,var?_below h Kr RM ha'⟩,⟨b,hb,var?_below h Ks RM j⟩⟩
def BM(s w):Calls prog 157 #[.string s] w λe w'=>e=.returned (.bool (gU s.1.1))/\w'=w:=by
 go_enter func157,ntmps157;go_wp2
 all_goals first
  |(exfalso;simp_all;done)
  |(go_ret;exact⟨by rw[<-UC];simp[gU, *],rfl⟩)
def iA(n w)(g:G w)(b:-9223372036854775808<=n)(h1:n<=9223372036854775807):Calls prog 171 #[.int .i64 n] w λe w'=>e=.returned (.string ⟨(Lib.itoa n).toArray⟩)/\Xb w w':=by
 go_enter func171,ntmps171;go_wp2_with(go_at_call 211;refine(strconv_FormatInt_10 _ b h1 _ g.PN).mono ?_;rintro e w' ⟨rfl,k,os,rfl⟩);go_ret;exact⟨rfl,Lib.below_grow _ _ (af _) _ _⟩
def tM(s w)(g:G w)(hs:s.size<=281474976710656)(h:∀v,Lib.parseIntB 64 s.1.1≠.ok v):Calls prog 130 #[.string s] w λe w'=>e=.returned (.tuple #[.int .i64 0,.bool false])/\Xb w w':=by
 have hc:Calls prog 170 #[.string s,.int .i64 10,.int .i64 64] w λe w'=>∃n N,e=.returned (.tuple #[.int .i64 n,.iface 331 (.pointer (some ⟨N,0,none⟩))])/\Xb w w':=by
  obtain⟨a,m,ha'⟩:=g.syn;obtain⟨b,hb,p⟩:=g.du;rcases l:Lib.parseIntB 64 s.1.1 with v|_|_
  ·exact absurd l (h v)
  ·refine(Any.strconv_ParseInt_10_at64_syntax_var laysC174 s hs l a m w ha').mono ?_;rintro e w'⟨N,rfl,_,_,j⟩;exact⟨_,_,rfl,j⟩
  refine(Any.strconv_ParseInt_10_at64_range_var laysC174 s hs l b hb w p).mono ?_;rintro e w'⟨N,rfl,_,_,j⟩;exact⟨_,_,rfl,j⟩
 have H:=bZ hc;clear hc h g;go_enter func130,ntmps130;go_wp2_with(go_at_call 170;refine H.Z.mono ?_;rintro e w' ⟨n,N,rfl,j⟩);go_ret2;exact⟨rfl,j⟩
def wo(s w)(g:G w)(hs:s.size<=281474976710656)(v)(h:Lib.parseIntB 64 s.1.1=.ok v)(p:-9223372036854775808<=v)(h1:v<=9223372036854775807)(b)(hb:(Lib.itoa v==s.1.1)=b):Calls prog 130 #[.string s] w λe w'=>e=.returned (.tuple #[.int .i64 (if b then v else 0),.bool b])/\Xb w w':=by
 have hc:=strconv_ParseInt_10_at64_ok s RM v h w;have H:=bZ hc;have l:=bZ hb;clear hc h hb;go_enter func130,ntmps130;go_wp2_with(go_at_call 170;refine H.Z.mono ?_;rintro e w' ⟨rfl,n⟩);have j:Xb w w':=by
  rcases n with rfl|⟨t,rfl⟩
  ·exact Uz _ _
  exact Lib.bytesWorld_below _ _ _
 clear n;have g':=g.below j g.size;have u:(Lib.itoa v==s.toList)=b:=by
  rw[UC];exact l.Z
 clear l;go_wp2_with fail;refine(iA v _ g' p h1).mono ?_;rintro e w2⟨rfl,r⟩;have m:=j.trans (r.mono j.size);cases b
 ·go_wp2_with fail;go_ret2;exact⟨rfl,m⟩
 go_wp2_with fail;go_ret2;exact⟨rfl,m⟩
def ou(s w)(g:G w)(hs:s.size<=281474976710656):Calls prog 130 #[.string s] w λe w'=>e=.returned (.tuple #[.int .i64 ((dT s.1.1).getD 0),.bool (dT s.1.1).isSome])/\Xb w w':=by
 by_cases h:∃v,Lib.parseIntB 64 s.1.1=.ok v
 ·obtain⟨v,h⟩:=h;have j:=iy _ _ h;refine(wo s w g hs v h j.1 j.2 _ rfl).mono ?_;rintro e w'⟨rfl,b⟩;refine⟨?_,b⟩;simp only[dT,h];by_cases hb:(Lib.itoa v==s.1.1)=true
  ·simp[hb]
  simp at hb;simp[hb]
 have h':∀v,Lib.parseIntB 64 s.1.1≠.ok v:=λv hv=>h ⟨v,hv⟩;refine(tM s w g hs h').mono ?_;rintro e w'⟨rfl,b⟩;refine⟨?_,b⟩;rw[BI _ h'];rfl
def td(s:ba):Option Nat->Xa
 |some n=>.tuple #[.string (s.extract 1 (n+1)),.bool true]
 |none=>.tuple #[.string ⟨#[]⟩,.bool false]
def qw(s w)(_hs:s.size<=4611686018427387904):Calls prog 127 #[.string s] w λe w'=>e=.returned (td s (dM s.1.1))/\w'=w:=by
 by_cases p:Lib.hasPrefix s.1.1 [39]=true
 ·have C:=wm _ p;go_enter func127,ntmps127;go_wp2_with(go_at_call 126;refine(strings_HasPrefix _ _ _).mono ?_;rintro e w' ⟨rfl,rfl⟩);clear p
  go_loop [4] (λi=>∃k:Nat,i=.int .i64 k/\mO s.1.1 k) (λi=>32-(intOf i).toNat)
  case atStart=>exact⟨1,rfl,C⟩
  case round =>
   clear C;obtain⟨k,rfl,hl⟩:=hrel;have J:=hl.1;have K:=hl.2.1;by_cases j:k<s.size/\k<=31
   ·obtain⟨j,y⟩:=j;have ge:=dH s k j;have GE:=bZ ge;clear ge;have u:k<s.1.1.length:=by simpa using j
    by_cases h1:(s[k].toNat:Int)=39
    ·have l:=Ew hl u y (by rw[<-GE.Z];exact Qi.1 (by show s[k].toNat=39;omega));have b:=bZ l;clear l;go_wp2_with fail;go_ret2;exact⟨by rw[b.Z];simp only[td];rw[show k-1+1=k by omega];rfl,rfl⟩
    have n:¬s.1.1[k]=39:=by
     rw[<-GE.Z];intro e;rw[e]at h1;exact h1 rfl
    by_cases h2:fH s[k]=true
    ·have B:=BH hl u y n (by rw[<-GE.Z];exact h2);have D:=bZ B;have m:32<=(s[k].toNat:Int)/\(s[k].toNat:Int)<=126:=by simpa[fH]using h2
     obtain⟨m,I⟩:=m;have E:((s[k].toNat:Int)==39)=false:=SR;clear B h2 h1 n;go_wp2_with fail;exact⟨⟨k+1,by go_num,D.Z⟩,by simp[intOf];omega⟩
    have r:fH s[k]=false:=by simpa using h2
    have l:=Ey hl u y n (by rw[<-GE.Z];exact r);have b:=bZ l;have m:(s[k].toNat:Int)<32\/126<(s[k].toNat:Int):=by
     simp[fH]at r;omega
    have E:((s[k].toNat:Int)==39)=false:=SR;clear l h2 r h1 n;by_cases z:(s[k].toNat:Int)<32
    ·clear m;go_wp2_with fail;go_ret2;exact⟨by rw[b.Z];rfl,rfl⟩
    have F:126<(s[k].toNat:Int):=RM;clear m;go_wp2_with fail;go_ret2;exact⟨by rw[b.Z];rfl,rfl⟩
   have l:=Ev hl (by simp at j ⊢;omega);have b:=bZ l;clear l;by_cases z:k<s.size
   ·have F:¬k<=31:=λh=>j ⟨z,h⟩;clear j;go_wp2_with fail;go_ret2;exact⟨by rw[b.Z];rfl,rfl⟩
   clear j;go_wp2_with fail;go_ret2;exact⟨by rw[b.Z];rfl,rfl⟩
 have G:Lib.hasPrefix s.1.1 [39]=false:=SC;have b:=bZ (zH _ G);clear p;go_enter func127,ntmps127;go_wp2_with(go_at_call 126;refine(strings_HasPrefix _ _ _).mono ?_;rintro e w' ⟨rfl,rfl⟩);go_ret2;exact⟨by rw[b.Z];rfl,rfl⟩
end
section
open bY
open Tryz
def ov(l:a_):Xa :=match (bY.tok l).1 with
 |2=>.iface 219 (.int .i64 ((dT (l.take (bY.tok l).2)).getD 0))
 |3=>.iface 215 (.string ⟨((l.drop 1).take ((bY.tok l).2-2)).toArray⟩)
 |_=>.nilIface
def Ku(l):(ov l).oneCell'=true:=by
 unfold ov;split<;>rfl
def hY{P:Program}{w:QV}(a m l):(store a (ov l) m).run P w=stored P w a (ov l) m:=run_store P w a _ m (Ku l)
def l_(s:ba)(i:Nat):Xa :=.agg #[.int .i64 ((bY.tok (s.1.1.drop i)).1:Int),.string (s.extract i (i+(bY.tok (s.1.1.drop i)).2)),.int .i64 (i:Int),ov (s.1.1.drop i)]
def nQ{W w1:QV}(hb:Xb W w1):(∀b o,b<W.1.size->w1.cell? ⟨b,o,none⟩=W.cell? ⟨b,o,none⟩)/\(∀b o,b<W.1.size->w1.frozen? ⟨b,o,none⟩=W.frozen? ⟨b,o,none⟩) :=⟨λb o h=>hb.cell (p:=⟨b,o,none⟩) h,λb o h=>hb.frozen (p:=⟨b,o,none⟩) h⟩
def ml(s:ba)(a b):(s.extract a b).size<=s.size:=by
 rw[QD];omega
def BN{B:Nat}{a w:QV}(h:Below B a w){b:Nat}(e:B<=b)(u0 u1 u2 u3):Below B a ((((w.setCell ⟨b,0,none⟩ u0).setCell ⟨b,1,none⟩ u1).setCell ⟨b,2,none⟩ u2).setCell ⟨b,3,none⟩ u3) :=(((h.setCell (p:=⟨b,0,none⟩) e _).setCell (p:=⟨b,1,none⟩) e _).setCell (p:=⟨b,2,none⟩) e _).setCell (p:=⟨b,3,none⟩) e _
def sS:Xa:=.agg #[.int .i64 1,.string ⟨#[]⟩,.int .i64 0,.nilIface]
def Gz(s:ba):Option Int->Xa
 |none=>sS
 |some v=>.agg #[.int .i64 2,.string (s.extract 0 (dC dA s.1.1)),.int .i64 0,.iface 219 (.int .i64 v)]
def sT(s w)(g:G w)(hs:s.size<=281474976710656)(o)(n:dT (s.1.1.take (dC dA s.1.1))=o):Calls prog 119 #[.string s] w λe w'=>e=.returned (Gz s o)/\Xb w w':=by
 have j:=λ(w:QV) (g:G w)=>ou (s.extract 0 (dC dA s.1.1)) w g (by have:=ml s 0 (dC dA s.1.1);omega);rw[UG,aW,Q7,n]at j;have m:=bZ j;have l:=g.below ((Uz _ w).alloc (af _) (Obj.cells #[Value.int IntKind.i64 0,Value.string { data:=#[] },Value.int IntKind.i64 0,Value.nilIface] 172)) g.size;go_enter func119,ntmps119;go_wp2_with(go_at_call 155;refine(zI _ _ RM).mono ?_;rintro e w' ⟨rfl,rfl⟩);refine(m.Z _ l).mono ?_;rintro e w1⟨rfl,hb⟩;obtain⟨hc,hf⟩:=nQ hb;have b:=((Uz _ _).alloc (af _) _).trans (hb.mono R2);cases o with
 |none =>
  go_wp2_with fail;exact UA (v:=sS) (by simp[results,results119,go_sem,hc,sS]) rfl ⟨rfl,BN b (af _) _ _ _ _⟩
 |some v =>
  go_wp2_with fail;exact UA (v:=Gz s _) (by simp[results,results119,go_sem,hc,Gz]) rfl ⟨rfl,BN b (af _) _ _ _ _⟩
def ym(s:ba)(n:Nat)(b:Bool):Xa :=if b=true then .agg #[.int .i64 5,.string (s.extract 0 n),.int .i64 0,.nilIface]
 else if 8<n then sS
 else .agg #[.int .i64 4,.string (s.extract 0 n),.int .i64 0,.nilIface]
def sU(s w)(hs:s.size<=281474976710656)(b)(hb:gU (s.1.1.take (dC eF s.1.1))=b):Calls prog 121 #[.string s] w λe w'=>e=.returned (ym s (dC eF s.1.1) b)/\Xb w w':=by
 have hl:dC eF s.1.1<=s.size:=by have:=mN eF s.1.1;simpa using this
 have l:=BM (s.extract 0 (dC eF s.1.1));rw[UG,aW,Q7,hb]at l;have m:=bZ l;go_enter func121,ntmps121;go_wp2_with(first|(go_at_call 155;refine(BL _ _ RM).mono ?_;rintro e w' ⟨rfl,rfl⟩)|(go_at_call 157;refine(m.Z _).mono ?_;rintro e w' ⟨rfl,rfl⟩))
 ·rename_i hb;subst hb;exact UA (v:=ym s _ true) (by simp[results,results121,go_sem,ym]) rfl ⟨rfl,(Uz _ _).alloc (af _) _⟩
 ·rename_i hb n;subst hb;have j:8<dC eF s.1.1:=RM;exact UA (v:=ym s _ false) (by simp[results,results121,go_sem,ym,j,sS]) rfl ⟨rfl,(Uz _ _).alloc (af _) _⟩
 rename_i hb n;subst hb;have j:¬8<dC eF s.1.1:=RM;exact UA (v:=ym s (dC eF s.1.1) false) (by simp[results,results121,go_sem,ym,j]) rfl ⟨rfl,(Uz _ _).alloc (af _) _⟩
def GA(s:ba):Option Nat->Xa
 |none=>sS
 |some n=>.agg #[.int .i64 3,.string (s.extract 0 (n+2)),.int .i64 0,.iface 215 (.string (s.extract 1 (n+1)))]
def wq(s w)(hs:s.size<=281474976710656)(o)(j:dM s.1.1=o):Calls prog 122 #[.string s] w λe w'=>e=.returned (GA s o)/\Xb w w':=by
 have l:=qw s;have m:∀n,o=some n->n+2<=s.size:=λn h=>by have:=po (j.trans h);simpa using this
 rw[j]at l;have b:=bZ l;cases o with
 |none =>
  go_enter func122,ntmps122;go_wp2_with fail;refine(b.Z _ RM).mono ?_;rintro e w'⟨rfl,rfl⟩;unfold td;go_wp2_with fail;exact UA (v:=sS) (by simp[results,results122,go_sem,sS]) rfl ⟨rfl,(Uz _ _).alloc (af _) _⟩
 |some n =>
  have p:=m n rfl;have r:(s.extract 1 (n+1)).size=n:=by rw[QD];omega
  go_enter func122,ntmps122;go_wp2_with fail;refine(b.Z _ RM).mono ?_;rintro e w'⟨rfl,rfl⟩;unfold td;go_wp2_with fail;exact UA (v:=GA s _) (by simp[results,results122,go_sem,GA]) rfl ⟨rfl,(Uz _ _).alloc (af _) _⟩
end
section
open bY
open Tryz
attribute [local go_sem] hY
def fe(s:ba):Xa :=.agg #[.int .i64 ((bY.tok s.1.1).1:Int),.string (s.extract 0 (bY.tok s.1.1).2),.int .i64 0,ov s.1.1]
def mP(s)(h:bY.tok s.1.1=(1,0)):sS=fe s:=by
 simp[fe,ov,h,sS];rfl
def BO(s)(h:bY.tok s.1.1=(0,0)):(.agg #[.int .i64 0,.string ⟨#[]⟩,.int .i64 0,.nilIface]:Xa)=fe s:=by
 simp[fe,ov,h];rfl
def zJ(s)(h:bY.tok s.1.1=(6,1)):(.agg #[.int .i64 6,.string (s.extract 0 1),.int .i64 0,.nilIface]:Xa)=fe s:=by
 simp[fe,ov,h]
def BQ(s)(h:bY.tok s.1.1=if(dT (s.1.1.take (dC dA s.1.1))).isSome then(2,dC dA s.1.1) else(1,0)):Gz s (dT (s.1.1.take (dC dA s.1.1)))=fe s:=by
 cases b:dT (s.1.1.take (dC dA s.1.1)) with
 |none =>
  rw[b]at h;exact mP s Sf
 |some v =>
  rw[b]at h;simp only[Rq,aN]at h;simp[fe,ov,h,Gz,b]
def BR(s)(h:bY.tok s.1.1=if gU (s.1.1.take (dC eF s.1.1))=true then(5,dC eF s.1.1)else if 8<dC eF s.1.1 then(1,0) else(4,dC eF s.1.1)):ym s (dC eF s.1.1) (gU (s.1.1.take (dC eF s.1.1)))=fe s:=by
 unfold ym;split at h
 ·rename_i hb;rw[ag hb];simp[fe,ov,h]
 rename_i hb;rw[ae hb];split at h
 ·rename_i b;rw[ag b];exact mP s h
 rename_i b;rw[ae b];simp[fe,ov,h]
def zK(s)(h:bY.tok s.1.1=fa (dM s.1.1)):GA s (dM s.1.1)=fe s:=by
 cases b:dM s.1.1 with
 |none=>rw[b]at h;exact mP s h
 |some n =>
  rw[b]at h;simp only[fe,ov,h,GA,fa];rw[UM s 1 (n+1)];simp
def lj(s w)(g:G w)(hs:s.size<=281474976710656):Calls prog 82 #[.string s] w λe w'=>e=.returned (fe s)/\Xb w w':=by
 by_cases u:s.size=0
 ·have hl:s.1.1=[]:=by
   rw[<-QG,<-UB];exact u
  have N:s=ByteArray.empty:=by
   rw[<-Lib.mk_data s,hl];rfl
  have hv:=BO s (by rw[hl];rfl);subst N;have j:=bZ hv;clear hv hl u;go_enter func82,ntmps82;go_wp2_with fail;exact UA (v:=.agg #[.int .i64 0,.string ⟨#[]⟩,.int .i64 0,.nilIface]) (by simp[results,results82,go_sem]) rfl ⟨by rw[j.Z],(Uz _ _).alloc (af _) _⟩
 have J:0<s.size:=RM;obtain⟨c,r,hl⟩:∃c r,s.1.1=c :: r:=by
  cases hl:s.1.1 with
  |nil=>exfalso;rw[UB,hl]at u;exact u rfl
  |cons c r=>exact⟨c,r,rfl⟩
 have E:s[0]=c:=by rw[dH s 0 J];simp[hl]
 have O:s.toList.isEmpty=false:=by rw[UC,hl];rfl
 have y:Xb w (w.alloc (Obj.cells #[Value.int IntKind.i64 0,Value.string { data:=#[] },Value.int IntKind.i64 0,Value.nilIface] 172)):=(Uz _ _).alloc (af _) _;have I:=g.below y g.size;have b:=fZ s.1.1 c r hl;have HL:=bZ hl;have l:=bZ E;clear hl E;by_cases h1:dA c=true
 ·have hv:=BQ s (by rw[b,ag h1]);have hd:wk (s[0].toNat:Int)=true:=by rw[l.Z];exact h1
  have j:=bZ hv;clear b hv h1;go_enter func82,ntmps82;go_wp2_with(go_at_call 118;refine(iz _ _).mono ?_;rintro e w' ⟨rfl,rfl⟩);refine(sT s _ I hs _ rfl).mono ?_;rintro e w1⟨rfl,hb⟩;rw[j.Z];unfold fe;obtain⟨hc,hf⟩:=nQ hb;have hz:w.1.size<w1.1.size:=Tb;have p:Xb w w1:=y.trans (hb.mono R2);go_wp2_with fail;exact UA (v:=fe s) Tc rfl ⟨rfl,BN p (af _) _ _ _ _⟩
 have C:dA c=false:=SR;have hd:wk (s[0].toNat:Int)=false:=by rw[l.Z];exact C
 rw[ae h1]at b;clear h1 C;by_cases h2:eo c=true
 ·have hv:=BR s (by rw[b,ag h2]);have K:zG (s[0].toNat:Int)=true:=by rw[l.Z];exact h2
  have j:=bZ hv;clear b hv h2;go_enter func82,ntmps82;go_wp2_with(first|(go_at_call 118;refine(iz _ _).mono ?_;rintro e w' ⟨rfl,rfl⟩)|(go_at_call 120;refine(js _ _).mono ?_;rintro e w' ⟨rfl,rfl⟩));refine(sU s _ hs _ rfl).mono ?_;rintro e w1⟨rfl,hb⟩;rw[j.Z];unfold fe;obtain⟨hc,hf⟩:=nQ hb;have hz:w.1.size<w1.1.size:=Tb;have p:Xb w w1:=y.trans (hb.mono R2);go_wp2_with fail;exact UA (v:=fe s) Tc rfl ⟨rfl,BN p (af _) _ _ _ _⟩
 have D:eo c=false:=by simpa using h2
 have K:zG (s[0].toNat:Int)=false:=by rw[l.Z];exact D
 rw[ae h2]at b;clear h2 D;by_cases m:c=39
 ·have hv:=zK s (by rw[b,ag m]);have L:((s[0].toNat:Int)==39)=true:=by rw[l.Z,m];rfl
  have j:=bZ hv;clear b hv m;go_enter func82,ntmps82;go_wp2_with(first|(go_at_call 118;refine(iz _ _).mono ?_;rintro e w' ⟨rfl,rfl⟩)|(go_at_call 120;refine(js _ _).mono ?_;rintro e w' ⟨rfl,rfl⟩));refine(wq s _ hs _ rfl).mono ?_;rintro e w1⟨rfl,hb⟩;rw[j.Z];unfold fe;obtain⟨hc,hf⟩:=nQ hb;have hz:w.1.size<w1.1.size:=Tb;have p:Xb w w1:=y.trans (hb.mono R2);go_wp2_with fail;exact UA (v:=fe s) Tc rfl ⟨rfl,BN p (af _) _ _ _ _⟩
 have L:((s[0].toNat:Int)==39)=false:=by
  rw[l.Z,aw];intro e;exact m (Qi.1 (by show c.toNat=39;omega))
 rw[ae m]at b;clear m;have z:=strings_IndexByte ⟨#[40,41,91,93,123,125,44,43,45,42,47,60,61]⟩ (s[0].toNat:Int);have F:((s[0].toNat:Int)).toNat.toUInt8=c:=by rw[l.Z];simp
 rw[F]at z;have B:=bZ z;clear z F;by_cases n:jl c=true
 ·have hv:=zJ s (by rw[b,ag n]);have M:0<=Lib.indexByte [40,41,91,93,123,125,44,43,45,42,47,60,61] c:=by simpa[jl]using n
  have j:=bZ hv;clear b hv n;go_enter func82,ntmps82;go_wp2_with(first|(go_at_call 118;refine(iz _ _).mono ?_;rintro e w' ⟨rfl,rfl⟩)|(go_at_call 120;refine(js _ _).mono ?_;rintro e w' ⟨rfl,rfl⟩));refine(B.Z _).mono ?_;rintro e w'⟨rfl,rfl⟩;go_wp2_with fail;exact UA (v:=.agg #[.int .i64 6,.string (s.extract 0 1),.int .i64 0,.nilIface]) (by simp[results,results82,go_sem]) rfl ⟨by rw[j.Z],(Uz _ _).alloc (af _) _⟩
 have hv:=mP s (by rw[b,ae n]);have M:¬0<=Lib.indexByte [40,41,91,93,123,125,44,43,45,42,47,60,61] c:=by simpa[jl]using n
 have j:=bZ hv;clear b hv n;go_enter func82,ntmps82;go_wp2_with(first|(go_at_call 118;refine(iz _ _).mono ?_;rintro e w' ⟨rfl,rfl⟩)|(go_at_call 120;refine(js _ _).mono ?_;rintro e w' ⟨rfl,rfl⟩));refine(B.Z _).mono ?_;rintro e w'⟨rfl,rfl⟩;go_wp2_with fail;exact UA (v:=sS) (by simp[results,results82,go_sem,sS]) rfl ⟨by rw[j.Z],(Uz _ _).alloc (af _) _⟩
end
section
open Tryz
attribute [local go_sem] hY
def kN(s:ba)(i):(s.extract i s.size).1.1=s.1.1.drop i:=by
 rw[UG,Qb];rw[aO,<-UB];exact af _
def extract_extract(s:ba)(i n):(s.extract i s.size).extract 0 n=s.extract i (i+n):=by
 rw[UM (s.extract i s.size),kN,UM s i (i+n),aW,Q7,Qx]
def sr(s:ba)(i):fe (s.extract i s.size)=.agg #[.int .i64 ((bY.tok (s.1.1.drop i)).1:Int),.string (s.extract i (i+(bY.tok (s.1.1.drop i)).2)),.int .i64 0,ov (s.1.1.drop i)]:=by
 unfold fe;rw[kN,extract_extract]
def zL(s)(a:Nat)(w)(g:G w)(hs:s.size<=281474976710656)(r:a<=s.size):Calls prog 88 #[.string s,.int .i64 a] w λe w'=>e=.returned (l_ s (bY.skip s.1.1 a))/\Xb w w':=by
 have m:Xb w (w.alloc (Obj.cells #[Value.int IntKind.i64 0,Value.string { data:=#[] },Value.int IntKind.i64 0,Value.nilIface] 172)):=(Uz _ _).alloc (af _) _;have p:=g.below m g.size;go_enter func88,ntmps88;go_wp2_with fail
 go_loop [1] (λi=>∃k:Nat,k<=s.size/\i=.int .i64 k/\Hid (bY.skip s.1.1 k=bY.skip s.1.1 a)) (λi=>s.size-(intOf i).toNat)
 case atStart=>exact⟨a,r,rfl,rfl⟩
 case round =>
  obtain⟨k,z,rfl,hl⟩:=hrel;by_cases n:k<s.size
  ·have GE:=bZ (bY.dH s k n);have y:k<s.1.1.length:=S0;by_cases hb:((s[k].toNat:Int)==32)=true
   ·have j:=bZ (bY.wQ s.1.1 k y (by rw[<-GE.Z];exact hb));go_wp2_with fail;exact⟨⟨k+1,by omega,by go_num,j.Z.trans hl⟩,by simp[intOf];omega⟩
   have u:((s[k].toNat:Int)==32)=false:=Sq;have j:=bZ (bY.pk s.1.1 k (λ_=>by rw[<-GE.Z];exact u));clear hb;go_wp2_with fail;refine(lj (s.extract k s.size) _ p Td).mono ?_;rintro e w1⟨rfl,b⟩;rw[sr];obtain⟨hc,hf⟩:=nQ b;have hz:w.1.size<w1.1.size:=SU;have l:Xb w w1:=m.trans (b.mono R2);go_wp2_with fail;exact UA (v:=l_ s k) Tr rfl ⟨by rw[<-hl.Z,j.Z],(BN l (af _) _ _ _ _).alloc S2 _⟩
  have j:=bZ (bY.pk s.1.1 k (λh=>absurd Sf n));go_wp2_with fail;refine(lj (s.extract k s.size) _ p Td).mono ?_;rintro e w1⟨rfl,b⟩;rw[sr];obtain⟨hc,hf⟩:=nQ b;have hz:w.1.size<w1.1.size:=SU;have l:Xb w w1:=m.trans (b.mono R2);go_wp2_with fail;exact UA (v:=l_ s k) Tr rfl ⟨by rw[<-hl.Z,j.Z],(BN l (af _) _ _ _ _).alloc S2 _⟩
end
section
open bY
open Tryz
variable{s:ba}
attribute [local go_sem] hY
def GB(s:ba)(i b e:Nat):Array Xa :=#[.string s,.int .i64 ((bY.tok (s.1.1.drop i)).1:Int),.string (s.extract i (i+(bY.tok (s.1.1.drop i)).2)),.int .i64 (i:Int),ov (s.1.1.drop i),.int .i64 (b:Int),.int .i64 (e:Int)]
def gS(w:QV)(s:ba)(j i b e:Nat):Prop:=w.1[j]?=some (.cells (GB s i b e) 183 (0,0))
def gS.lt{w:QV}{b i deep its:Nat}(h:gS w s b i deep its):b<w.1.size:=by
 by_cases e:b<w.1.size
 ·exact e
 unfold gS at h;rw[QH RM]at h;cases h
def gS.cells{w:QV}{b i deep its:Nat}(h:gS w s b i deep its):w.cell? ⟨b,0,none⟩=some (.string s)/\w.cell? ⟨b,1,none⟩=some (.int .i64 ((bY.tok (s.1.1.drop i)).1:Int))/\w.cell? ⟨b,2,none⟩=some (.string (s.extract i (i+(bY.tok (s.1.1.drop i)).2)))/\w.cell? ⟨b,3,none⟩=some (.int .i64 i)/\w.cell? ⟨b,4,none⟩=some (ov (s.1.1.drop i))/\w.cell? ⟨b,5,none⟩=some (.int .i64 deep)/\w.cell? ⟨b,6,none⟩=some (.int .i64 its)/\(∀o,w.frozen? ⟨b,o,none⟩=false):=by
 unfold gS at h;refine⟨?_,?_,?_,?_,?_,?_,?_,?_⟩
 all_goals simp[World.cell?,World.frozen?,h,GB]
def refusal(c i:Nat):Ending:=.panicked [{ v:=.iface 179 (.agg #[.int .i64 (c:Int),.int .i64 (i:Int)]),recovered:=false }]
def mQ(s b i j l)(c:Nat)(w)(h:gS w s b i j l):Calls prog 90 #[.pointer (some ⟨b,0,none⟩),.int .i64 c] w λe w'=>e=refusal c i/\w=w':=by
 obtain⟨m,c1,c2,n,p,r,u,cf⟩:=h.cells;go_enter func90,ntmps90;go_wp2_with fail;exact⟨rfl,rfl,rfl⟩
def tN(s:ba)(i):(s.extract i (i+(bY.tok (s.1.1.drop i)).2)).toList=tx s.1.1 i:=by
 rw[Lib.extract_toList,Qx];rfl
def nR(s:ba)(i):(s.extract i (i+(bY.tok (s.1.1.drop i)).2)).1.1=tx s.1.1 i:=by
 rw[UG,Qx];rfl
def hC{a b:Bool}(h:a=b):Ending.returned (.bool a)=.returned (.bool b):=by rw[h]
def f_(s b i j l t w)(h:gS w s b i j l):Calls prog 313 #[.pointer (some ⟨b,0,none⟩),.string t] w λe w'=>e=.returned (.bool (tx s.1.1 i==t.1.1))/\w=w':=by
 obtain⟨m,c1,c2,n,p,r,u,cf⟩:=h.cells;go_enter func313,ntmps313;go_wp2_with fail;go_ret;exact⟨hC (by rw[tN,UC]),rfl⟩
def km(s n i p u t w)(h:gS w s n i p u):Calls prog 132 #[.pointer (some ⟨n,0,none⟩),.string t] w λe w'=>e=.returned (.bool (fY s.1.1 i t.1.1))/\w=w':=by
 obtain⟨y,c1,c2,z,B,C,D,cf⟩:=h.cells;by_cases b:(bY.tok (s.1.1.drop i)).1=6
 ·obtain⟨c,r,hl,j⟩:=Gy _ b;have hx:tx s.1.1 i=[c]:=by rw[tx,j,hl];rfl
  have m:s.extract i (i+(bY.tok (s.1.1.drop i)).2)=⟨#[c]⟩:=by
   rw[UM,Qx,j,hl];rfl
  have hv:fY s.1.1 i t.1.1=decide (0<=Lib.indexByte t.1.1 c):=by
   rw[fY,hx];simp[b]
  rw[m]at c2;rw[j]at c1;have l:=bZ hv;clear hv m hx hl j b h;go_enter func132,ntmps132;go_wp2_with(go_at_call 174;refine(strings_Contains_one _ _ _).mono ?_;rintro e w' ⟨rfl,rfl⟩);go_ret;exact⟨hC l.Z.symm,rfl⟩
 have hv:fY s.1.1 i t.1.1=false:=by
  unfold fY;split
  ·simp[b]
  rfl
 have l:=bZ hv;have E:(((bY.tok (s.1.1.drop i)).1:Int)==6)=false:=by
  rw[aw];omega
 clear hv b h;go_enter func132,ntmps132;go_wp2_with fail;go_ret;exact⟨hC l.Z.symm,rfl⟩
theorem yo(t w):Calls prog 293 #[.string t] w λe w'=>e=.returned (.int .i64 (jL t.1.1))/\w=w':=by
 go_enter func293,ntmps293;go_wp2_with fail
 all_goals first
  |(exfalso;simp_all;done)
  |(go_ret;refine⟨?_,rfl⟩;rw[<-UC];simp_all [jL])
theorem yp(x b j w)(c2:w.cell? ⟨b,2,none⟩=some (.string x))(l:w.cell? ⟨b,6,none⟩=some (.int .i64 j)):Calls prog 292 #[.pointer (some ⟨b,0,none⟩)] w λe w'=>e=.returned (.int .i64 (fu x.toList j))/\w=w':=by
 go_enter func292,ntmps292;go_wp2_with fail
 all_goals clear c2 l
 all_goals first
  |(exfalso;simp_all;done)
  |(go_ret;refine⟨?_,rfl⟩;simp_all [fu];done)
  |(go_ret;refine⟨?_,rfl⟩;simp_all [fu];omega)
def mR(s u i I b w)(h:gS w s u i I b):Calls prog 261 #[.pointer (some ⟨u,0,none⟩)] w λe w'=>e=.returned (.int .i64 (cq s.1.1 i b))/\w=w':=by
 obtain⟨C,c1,c2,D,E,F,G,cf⟩:=h.cells;have r:=yp _ _ _ _ c2 G;have p:=yo (s.extract i (i+(bY.tok (s.1.1.drop i)).2)) w;rw[nR]at p;rw[tN]at r;have hv:cq s.1.1 i b=kindOf (bY.tok (s.1.1.drop i)).1 (tx s.1.1 i) b:=rfl;rw[hv];have z:=bZ r;have y:=bZ p;clear r p hv C D E F h;generalize (bY.tok (s.1.1.drop i)).1=k at *;by_cases h2:k=2
 ·subst h2;go_enter func261,ntmps261;go_wp2_with fail;go_ret;exact⟨by simp[kindOf],rfl⟩
 by_cases j:k=3
 ·subst j;go_enter func261,ntmps261;go_wp2_with fail;go_ret;exact⟨by simp[kindOf],rfl⟩
 by_cases l:k=4
 ·subst l;go_enter func261,ntmps261;go_wp2_with fail;go_ret;exact⟨by simp[kindOf],rfl⟩
 by_cases m:k=5
 ·subst m;go_enter func261,ntmps261;go_wp2_with fail;refine z.Z.mono ?_;rintro e w'⟨rfl,rfl⟩;go_wp2_with fail;go_ret;exact⟨by simp[kindOf],rfl⟩
 by_cases n:k=6
 ·subst n;go_enter func261,ntmps261;go_wp2_with fail;refine y.Z.mono ?_;rintro e w'⟨rfl,rfl⟩;go_wp2_with fail;go_ret;exact⟨by simp[kindOf],rfl⟩
 have e2:((k:Int)==2)=false:=R7;have J:((k:Int)==3)=false:=R7;have K:((k:Int)==4)=false:=R7;have L:((k:Int)==5)=false:=R7;have M:((k:Int)==6)=false:=R7;have B:=bZ (show kindOf k (tx s.1.1 i) b=0 by simp[kindOf,h2,j,l,m,n]);clear h2 j l m n;go_enter func261,ntmps261;go_wp2_with fail;go_ret;exact⟨by rw[B.Z];rfl,rfl⟩
end
section
open bY
open Tryz
variable{c k n:Nat}{s x y:Xa}{ys:List Xa}{v:V}{i:Int}
def gE(c:Nat):Ending:=.panicked [{ v:=.iface 324 (.int .i64 (c:Int)),recovered:=false }]
def Cb(v:V)(x:Xa):Prop :=(∃i:Int,v=vn i/\x=.iface 219 (.int .i64 i)/\-9223372036854775808<=i/\i<=9223372036854775807) \/(∃b:ba,v=vw b.1.1/\x=.iface 215 (.string b)/\b.size<=30)
def fX(w:QV)(s:Xa)(ys:List Xa):Prop :=(s=.slice none 0 0/\ys=[]) \/∃(b e:Nat) (cs:Array Xa) (fz:Nat×Nat),s=.slice (some ⟨b,0,none⟩) ys.length e/\ys.length<=e/\w.1[b]?=some (.cells cs 111 fz)/\e<=cs.size/\∀i,i<ys.length->cs[i]?=ys[i]?
def cT(w:QV):Nat->V->Xa->Prop
 |0,v,x=>Cb v x
 |n+1,v,x=>Cb v x\/∃(l:List V) (s:Xa) (ys:List Xa),v=vl l/\x=.iface 248 s/\fX w s ys/\l.length=ys.length/\l.length<=12/\∀(i:Nat) u y,l[i]?=some u->ys[i]?=some y->cT w n u y
def Kx(t:TypeId):Prop:=t=111\/t=263\/t=121
def cK(w w':QV):Prop :=∀(k:Nat) (cs:Array Xa) (t:TypeId) (fz:Nat×Nat),w.1[k]?=some (.cells cs t fz)->Kx t->w'.1[k]?=some (.cells cs t fz)
def cK.refl(w):cK w w:=λ_ _ _ _ h _=>h
def cK.trans{a b c:QV}(h:cK a b)(h':cK b c):cK a c:=λk cs t fz j e=>h' k cs t fz (h k cs t fz j e) e
def cj{w:QV}{o:Obj}(h:w.1[k]?=some o):k<w.1.size:=by
 rcases Qh k _ with h'|h'
 ·exact h'
 simp[QH h']at h
def cK.below{w w':QV}(h:Xb w w'):cK w w':=λk _ _ _ b _=>(h.block k (cj b)).trans b
def fX.keeps{w w':QV}(h:fX w s ys)(p:cK w w'):fX w' s ys:=by
 rcases h with h|⟨b,e,cs,fz,h1,h2,j,l,m⟩
 ·exact .inl h
 exact .inr ⟨b,e,cs,fz,h1,h2,p _ _ _ _ j (.inl rfl),l,m⟩
def cT.keeps{w w':QV}(b:cK w w'):∀{n:Nat} {v:V} {x:Xa},cT w n v x->cT w' n v x
 |0,_,_,h=>h
 |n+1,v,x,h=>by
  rcases h with h|⟨l,s,ys,h1,h2,e,j,m,p⟩
  ·exact .inl h
  exact .inr ⟨l,s,ys,h1,h2,e.keeps b,j,m,λi u y hu hy=>cT.keeps b (p i u y hu hy)⟩
def cT.leaf{w:QV}(h:Cb v x):cT w n v x:=by
 cases n with
 |zero=>exact h
 |succ n=>exact .inl h
def cT.up{w:QV}:∀{n:Nat} {v:V} {x:Xa},cT w n v x->cT w (n+1) v x
 |0,_,_,h=>.inl h
 |n+1,v,x,h=>by
  rcases h with h|⟨l,s,ys,h1,h2,b,e,j,m⟩
  ·exact .inl h
  exact .inr ⟨l,s,ys,h1,h2,b,e,j,λi u y hu hy=>cT.up (m i u y hu hy)⟩
def cT.le{w:QV}{m:Nat}(h:cT w n v x)(e:n<=m):cT w m v x:=by
 induction m with
 |zero =>
  obtain rfl:n=0:=RM;exact h
 |succ m b =>
  rcases Qh m n with h'|h'
  ·obtain rfl:n=m+1:=RM;exact h
  exact(b h').up
def cT.fP{w:QV}(h:cT w n v x):(∃i:Int,v=vn i/\x=.iface 219 (.int .i64 i)/\-9223372036854775808<=i/\i<=9223372036854775807) \/(∃b:ba,v=vw b.1.1/\x=.iface 215 (.string b)/\b.size<=30) \/(∃(m:Nat) (l:List V) (s:Xa) (ys:List Xa),n=m+1/\v=vl l/\x=.iface 248 s/\fX w s ys/\l.length=ys.length/\l.length<=12/\∀(i:Nat) u y,l[i]?=some u->ys[i]?=some y->cT w m u y):=by
 cases n with
 |zero =>
  rcases h with h|h
  ·exact .inl h
  exact .inr (.inl h)
 |succ n =>
  rcases h with(h|h)|⟨l,s,ys,h⟩
  ·exact .inl h
  ·exact .inr (.inl h)
  exact .inr (.inr ⟨n,l,s,ys,rfl,h⟩)
def cT.one{w:QV}(h:cT w n v x):∃t y,x=.iface t y:=by
 rcases h.fP with⟨i,_,rfl,_⟩|⟨b,_,rfl,_⟩|⟨_,_,s,_,_,_,rfl,_⟩
 ·exact⟨_,_,rfl⟩
 ·exact⟨_,_,rfl⟩
 exact⟨_,_,rfl⟩
def PV(w:QV)(r:Except Nat V)(e:Ending)(w':QV):Prop :=Xb w w'/\(∀v,r=.ok v->∃y,e=.returned y/\cT w' 3 v y)/\(∀c,r=.error c->e=gE c)
def PV.ok{w w':QV}(b:Xb w w')(h:cT w' 3 v y):PV w (.ok v) (.returned y) w' :=⟨b,λu hu=>(by cases hu;exact⟨y,rfl,h⟩),λc hc=>(by cases hc)⟩
def PV.err{w w':QV}(b:Xb w w'):PV w (.error c) (gE c) w' :=⟨b,λu hu=>(by cases hu),λc hc=>(by cases hc;rfl)⟩
/-! What the assertions of kinds answer. -/
def nT(a w):(Instr.typeAssert (.iface 219 a) 111 219 true).run prog w=.ok (.tuple #[a,.bool true]) w:=RO
def nV(a w):(Instr.typeAssert (.iface 215 a) 111 219 true).run prog w=.ok (.tuple #[.int .i64 0,.bool false]) w:=RO
def nW(a w):(Instr.typeAssert (.iface 248 a) 111 219 true).run prog w=.ok (.tuple #[.int .i64 0,.bool false]) w:=RO
def nX(a w):(Instr.typeAssert (.iface 219 a) 111 215 true).run prog w=.ok (.tuple #[.string ⟨#[]⟩,.bool false]) w:=RO
def nY(a w):(Instr.typeAssert (.iface 215 a) 111 215 true).run prog w=.ok (.tuple #[a,.bool true]) w:=RO
def nZ(a w):(Instr.typeAssert (.iface 248 a) 111 215 true).run prog w=.ok (.tuple #[.string ⟨#[]⟩,.bool false]) w:=RO
def n_(a w):(Instr.typeAssert (.iface 219 a) 111 248 true).run prog w=.ok (.tuple #[.slice none 0 0,.bool false]) w:=RO
def oc(a w):(Instr.typeAssert (.iface 215 a) 111 248 true).run prog w=.ok (.tuple #[.slice none 0 0,.bool false]) w:=RO
def oe(a w):(Instr.typeAssert (.iface 248 a) 111 248 true).run prog w=.ok (.tuple #[a,.bool true]) w:=RO
attribute [local go_sem] nT nV nW nX nY nZ n_ oc oe
def eD(i w):Calls prog 280 #[.iface 219 (.int .i64 i)] w λe w'=>e=.returned (.int .i64 i)/\w'=w:=by
 go_enter func280,ntmps280;go_wp2;go_ret;exact⟨rfl,rfl⟩
def gf(t a w)(b:t=215\/t=248):Calls prog 280 #[.iface t a] w λe w'=>e=gE 9/\w'=w:=by
 rcases b with rfl|rfl
 all_goals
  go_enter func280,ntmps280;go_wp2;exact⟨rfl,rfl,rfl⟩
def px(o n c w):Calls prog 278 #[.iface 248 (.slice o n c)] w λe w'=>e=.returned (.slice o n c)/\w'=w:=by
 go_enter func278,ntmps278;go_wp2;go_ret;exact⟨rfl,rfl⟩
def k_(t a w)(b:t=215\/t=219):Calls prog 278 #[.iface t a] w λe w'=>e=gE 9/\w'=w:=by
 rcases b with rfl|rfl
 all_goals
  go_enter func278,ntmps278;go_wp2;exact⟨rfl,rfl,rfl⟩
def rI(b w):Calls prog 317 #[.bool b] w λe w'=>e=.returned (.iface 219 (.int .i64 (if b then 1 else 0)))/\w'=w:=by
 cases b
 all_goals
  go_enter func317,ntmps317;go_wp2;go_ret;exact⟨rfl,rfl⟩
def wW(i n k w)(h:bY.place i n=.ok k):Calls prog 318 #[.int .i64 i,.int .i64 n] w λe w'=>e=.returned (.int .i64 k)/\w'=w:=by
 have b:0<=i/\i<(n:Int)/\i=(k:Int):=by
  unfold bY.place at h;split at h
  ·cases h
  rename_i h';cases h;omega
 obtain⟨h1,h2,rfl⟩:=b;go_enter func318,ntmps318;go_wp2;go_ret;exact⟨rfl,rfl⟩
def py(h:bY.place i n=.error c):(i<0\/n<=i)/\c=7:=by
 unfold bY.place at h;split at h
 ·cases h;exact⟨by assumption,rfl⟩
 cases h
def zZ(h:bY.place i n=.ok k):i=k/\k<n:=by
 unfold bY.place at h;split at h
 ·cases h
 rename_i h';cases h;omega
def wX(i)(n:Nat)(w)(h1:i<0\/(n:Int)<=i):Calls prog 318 #[.int .i64 i,.int .i64 n] w λe w'=>e=gE 7/\w'=w:=by
 go_enter func318,ntmps318;by_cases h2:i<0
 ·go_wp2;exact⟨rfl,rfl,rfl⟩
 have b:(n:Int)<=i:=RM;go_wp2;exact⟨rfl,rfl,rfl⟩
end
section
open Tryz
variable{md:Region.Mode}
attribute [local go_sem] nT nV nW nX nY nZ n_ oc oe
def Ky{p:Prop}{a:Act}{w:QV}(h:p)(_:wpAny prog md #[] (λ_ _ _=>True) 0 #[] a w):p:=h
def jU(i j w):Calls prog 316 #[.agg #[.iface 219 (.int .i64 i),.iface 219 (.int .i64 j)]] w λe w'=>e=.returned (.tuple #[.int .i64 i,.int .i64 j])/\Xb w w':=by
 go_enter func316,ntmps316;go_wp2
 go_region_with (go_at_call 280;refine(eD _ _).mono ?_;rintro e w' ⟨rfl,rfl⟩)
 all_goals go_wp2
 all_goals go_ret2
 all_goals exact⟨rfl,((Uz _ _).alloc (af _) _).drew⟩
def mW(t u a b w)(j:(t=219/\∃i,a=.int .i64 i)\/t=215\/t=248)(hb:(u=219/\∃i,b=.int .i64 i)\/u=215\/u=248)(l:t≠219\/u≠219):Calls prog 316 #[.agg #[.iface t a,.iface u b]] w λe w'=>e=gE 9/\Xb w w':=by
 have n:∀o,Xb w (w.alloc o).drew:=λo=>((Uz _ _).alloc (af _) _).drew;rcases j with⟨rfl,i,rfl⟩|j
 ·have p:u=215\/u=248:=by
   rcases hb with⟨rfl,_⟩|hb
   ·rcases l with h|h<;>exact absurd rfl h
   exact hb
  have m:=bZ (λw=>eD i w);have r:=bZ (λw=>gf u b w p);clear hb l p;go_enter func316,ntmps316;go_wp2
  go_region_with (first|(go_at_call 280;refine(m.Z _).mono ?_;clear m;rintro e w' ⟨rfl,rfl⟩)|(go_at_call 280;refine(r.Z _).mono ?_;rintro e w' ⟨rfl,rfl⟩;refine Ky (md:=.text) (a:=⟨#[],[]⟩) (w:=w) ⟨rfl,rfl,n _⟩ ?_))
  all_goals trivial
 clear hb l;go_enter func316,ntmps316;go_wp2
 go_region_with (go_at_call 280;refine(gf _ _ _ j).mono ?_;rintro e w' ⟨rfl,rfl⟩;refine Ky (md:=.text) (a:=⟨#[],[]⟩) (w:=w) ⟨rfl,rfl,n _⟩ ?_)
 all_goals trivial
end
