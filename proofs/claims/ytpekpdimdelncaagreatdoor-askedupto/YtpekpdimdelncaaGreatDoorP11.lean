/- Out of W11. -/
import Derived.Test.YtpekpdimdelncaaGreatDoorP06
import Derived.Deep.AppendLies
set_option maxRecDepth 100000
set_option maxHeartbeats 1000000
set_option linter.defProp false
namespace Go.Proofs.YtpekpdimdelncaaGreatDoor
open Go.RowKit
section
open bY
open Tryz
variable{s:ba}{e:Ending}{x:Nat×Nat}{a:Option Addr}
def kK(s:ba)(b l m:Nat)(w:QV)(r:Except (Nat×Nat) Nat)(e:Ending)(w':QV):Prop :=w.grownBy w' (some b)/\(∀j,r=.ok j->(∃a n c,e=.returned (.slice a n c))/\gS w' s b j l m)/\(∀x,r=.error x->e=refusal x.1 x.2)
def kK.ok{b l m j:Nat}{w w':QV}(h:kK s b l m w (.ok j) e w'):w.grownBy w' (some b)/\(∃a n c,e=.returned (.slice a n c))/\gS w' s b j l m :=⟨h.1,h.2.1 j rfl⟩
def kK.err{b j l:Nat}{w w':QV}(h:kK s b j l w (.error x) e w'):w.grownBy w' (some b)/\e=refusal x.1 x.2 :=⟨h.1,h.2.2 x rfl⟩
def kK.jo{b l m j:Nat}{w w':QV}{n c:Nat}(h:w.grownBy w' (some b))(r:gS w' s b j l m):kK s b l m w (.ok j) (.returned (.slice a n c)) w' :=⟨h,λk p=>(by cases p;exact⟨⟨a,n,c,rfl⟩,r⟩),λx hx=>Sr⟩
def kK.eU{b j m:Nat}{w w':QV}(h:w.grownBy w' (some b)):kK s b j m w (.error x) (refusal x.1 x.2) w' :=⟨h,λk l=>(by cases l),λy hy=>S3⟩
def gS.grown{w w':QV}{b i deep its:Nat}{row:Option Nat}(h:gS w s b i deep its)(j:w.grownBy w' row)(l:some b≠row):gS w' s b i deep its :=(j.block b h.lt l).trans h
def Fr.grown{a w w':QV}{r row:Option Nat}(h:a.grownBy w r)(b:w.grownBy w' row)(m:∀k,row=some k->a.1.size<=k):a.grownBy w' r :=⟨b.os.trans h.os,b.tape.trans h.tape,b.output.trans h.output,ah h.size b.size,λk j l=>(b.block k (aA j h.size) (λe=>by have:=m k e.symm;omega)).trans (h.block k j l)⟩
def nodeInfo:(prog.info? 121).map (λi=>(i.zero,i.size,i.bytes))=some (some (.pointer none),1,8):=RO
def Kv(w:QV)(B e v)(b:B<=w.1.size):(w.alloc (.cells #[v] e)).ownsRow B e 1 (.slice (some ⟨w.1.size,0,none⟩) 1 1) 1 [v] :=⟨rfl,.inr ⟨w.1.size,1,#[v],rfl,b,heap_alloc_new w _,af _,by unfold maxLen;omega,rfl,rfl⟩⟩
def rD(s u n p r i)(hs:s.size<=200)(C:8<=u)(hi:i<=s.size)(hd:p<=20)(Q:r<=p)(ao:8*(s.size-i)+4<=n)(H:∀m,m<=n->CT s u m 0 89)(w)(g:G w)(h:gS w s u i p r):Calls prog 295 #[.pointer (some ⟨u,0,none⟩)] w (kK s u p r w (if tx s.1.1 i=[125]then .ok (fC s.1.1 i)else bY.andThen (bY.P s.1.1 n 0 p r i) λj=>bY.P s.1.1 n 6 p r j)):=by
 by_cases hb:tx s.1.1 i=[125]
 ·rw[ag hb];have ai:(tx s.1.1 i==[125])=true:=by rw[hb];rfl
  go_enter func295,ntmps295;go_wp2_with(go_at_call 313;refine(f_ s u i p r _ _ h).mono ?_;rintro e w' ⟨rfl,rfl⟩);refine(ju s u i p r _ g h RM hi).mono ?_;rintro e w1⟨rfl,h1,f1⟩;unfold l_;go_wp2_with fail;go_ret;exact kK.jo f1 h1
 rw[ae hb];have ai:(tx s.1.1 i==[125])=false:=by rw[aw];exact hb
 have h1:=H n (af _) p r i hi hd Q ao;have N:=jv s.1.1 n 0 p r i;cases hx:bY.P _ n 0 p r i with
 |error x =>
  rw[hx]at h1;show Calls _ _ _ _ _;have K:=bZ h1;go_enter func295,ntmps295;go_wp2_with(go_at_call 313;refine(f_ s u i p r _ _ h).mono ?_;rintro e w' ⟨rfl,rfl⟩);refine(K.Z _ g h).mono ?_;rintro e w1 B;obtain⟨f1,rfl⟩:=B.err;exact⟨rfl,kK.eU f1⟩
 |ok j =>
  rw[hx]at h1;have hj:=N j hx Sc;have ax:j<=s.size:=Sh;have a9:i+1<=j:=by simpa using hj.1
  have K:=bZ h1;have Z:=bZ H;have am:8*(s.size-j)+1<=n:=RM;show Calls _ _ _ _ (kK s u p r w (bY.P s.1.1 n 6 p r j));generalize ak:bY.P _ n 6 p r j=fin;have Y:=bZ ak;have bc:=h.lt;obtain⟨i0,av,a2,a3,a4⟩:=UJ nodeInfo;go_enter func295,ntmps295;go_wp2_with(go_at_call 313;refine(f_ s u i p r _ _ h).mono ?_;rintro e w' ⟨rfl,rfl⟩);refine(K.Z _ g h).mono ?_;rintro e w1 B;obtain⟨f1,⟨q1,rfl⟩,h1⟩:=B.ok;go_wp2_with fail;have hB:=f1.size
  go_loopw [3] (λv wr=>∃(E:Nat) (xs:List Xa) (k m:Nat),wr.ownsRow _ 121 1 v E xs/\gS wr s u k p r/\w.grownBy wr _/\k<=s.size/\8*(s.size-k)+1<=m/\m<=n/\E<=k/\Hid (bY.P s.1.1 m 6 p r k=fin)) (λ_ wr=>s.size-GD wr u)
  case atStart=>exact⟨1,_,j,n,Kv w1 _ _ _ hB,h1.alloc _,Fr.alloc f1 _,ax,am,af _,by omega,Y⟩
  case round =>
   obtain⟨E,xs,k,m,J,z,y,I,hm,bd,a8,HM⟩:=hrel;obtain⟨m,rfl⟩:∃m',m=m'+1:=⟨m-1,by omega⟩;have X:=bZ (pq z);have hM:=HM.Z;have hT:bY.P _ (m+1) 6 p r k=if tx _ k=[44]then bY.andThen _ λj=>bY.P _ m 6 p r j else bY.cv s.1.1 [125] k:=rfl;rw[hT]at hM;by_cases D:tx s.1.1 k=[44]
   ·rw[ag D]at hM;have aC:(tx s.1.1 k==[44])=true:=by rw[D];rfl
    have bf:=fO (ma (l:=s.1.1) (i:=k) (by rw[D];simp));have S:fC s.1.1 k<=s.size:=by have:=fb s.1.1 k (by simpa using I);simpa using this
    have h2:=Z.Z m RM p r (fC s.1.1 k) S hd Q R8;have N:=jv s.1.1 m 0 p r (fC s.1.1 k);cases hx:bY.P s.1.1 m 0 p r (fC s.1.1 k) with
    |error x =>
     rw[hx]at h2 hM;have ab:=hM.symm;subst ab;have L:=bZ h2;go_wp2_with(go_at_call 313;refine(f_ s u k p r _ _ z).mono ?_;rintro e w' ⟨rfl,rfl⟩);refine(ju s u k p r _ (g.fr y C) z RM I).mono ?_;rintro e w2⟨rfl,M,f2⟩;unfold l_;go_wp2_with fail;refine(L.Z _ ((g.fr y C).fr f2 C) M).mono ?_;rintro e w3 B;obtain⟨f3,rfl⟩:=B.err;exact⟨rfl,kK.eU (Fr.trans (Fr.trans y f2) f3)⟩
    |ok k2 =>
     have hj:=N k2 hx (by simpa using S);have ay:k2<=s.size:=Sh;rw[hx]at h2 hM;have L:=bZ h2;have ad:=hM;have aa:=bZ ad;go_wp2_with(go_at_call 313;refine(f_ s u k p r _ _ z).mono ?_;rintro e w' ⟨rfl,rfl⟩);refine(ju s u k p r _ (g.fr y C) z RM I).mono ?_;rintro e w2⟨rfl,M,f2⟩;unfold l_;go_wp2_with fail;refine(L.Z _ ((g.fr y C).fr f2 C) M).mono ?_;rintro e w3 B;obtain⟨f3,⟨q3,rfl⟩,F⟩:=B.ok;have f23:=Fr.trans f2 f3;have a7:_:=J.lt;have T:w3.ownsRow w.1.size 121 1 _ E xs:=J.kept f23 (Or.inr (λe=>by have:=(J.lt _ e).1;omega));have bh:=ah y.size f23.size;go_wp2_with(at_builtin;go_must (refine US _ rfl _ _ 261 rfl w.1.size 121 i0 (.pointer none) 1 8 underlying261 av a2 a3 a4 rfl RZ _ _ _ rfl (T.alloc _) ⟨w3.1.size,0,none⟩ 1 1 [.pointer q3] rfl rfl (cell_one_new _ _ _) (λx hx=>by simp at hx;subst hx;rfl) R6 RM R5 ?_);intro v' w4 a0 ap bg);have P:=ap;have R:∀b,u3.ownBlock=some b->w.1.size<=b:=λb e=>(T.lt b e).1;have O:gS w4 s u k2 p r:=(F.alloc _).grown P (λe=>by have:=R u e.symm;omega);refine⟨⟨E+1,_,k2,m,a0,O,Fr.grown (Fr.alloc (Fr.trans y f23) _) P R,ay,by omega,by omega,by omega,aa⟩,?_⟩;rw[pq O,X.Z];omega
   rw[ae D]at hM;have aC:(tx s.1.1 k==[44])=false:=by rw[aw];exact D
   have HX:=bZ hM;go_wp2_with(go_at_call 313;refine(f_ s u k p r _ _ z).mono ?_;rintro e w' ⟨rfl,rfl⟩);refine(lk s u k p r ⟨#[125]⟩ _ (g.fr y C) z RM I).mono ?_;rintro e w2⟨f2,h2,F⟩;have hX:=HX.Z;rw[hX]at h2 F;cases fin with
   |error x =>
    have he:=F x rfl;subst he;exact⟨rfl,kK.eU (Fr.trans y f2)⟩
   |ok U =>
    obtain⟨rfl,h4⟩:=h2 U rfl;have hu:∃a V c,u3=.slice a V c:=by
     rcases J.2 with⟨hu,_⟩|⟨gg,a5,a6,hu,_⟩
     ·exact⟨_,_,_,hu⟩
     exact⟨_,_,_,hu⟩
    go_wp2_with fail;go_ret;obtain⟨a,V,c,hu⟩:=hu;show kK s u p r w (.ok U) (.returned u3) w2;rw[hu];exact kK.jo (Fr.trans y f2) h4
end
section
variable{l:a_}{s:ba}
def fE(l:a_)(n b e k i:Nat):Except (Nat×Nat) Nat :=bY.parts l k i (λj=>bY.P l n 0 b e j) (λj=>bY.P l n 3 b e j) (λj=>bY.P l n 6 b e j) (λj=>bY.P l n 0 b (e+1) j)
def O2{n m b e i j:Nat}(hl:l=s.1.1)(h:bY.P l n m b e i=.ok j)(hi:i<=s.size):i<=j/\j<=s.size:=by
 subst hl;have:=bY.jv s.1.1 n m b e i j h Sc;simp at this;omega
end

section
attribute [local go_sem] hY
def KR(x:Nat):Prop:=x=0\/(2<=x/\x<=16)
def KR.ite{c:Prop}[Decidable c]{a b:Nat}(e:KR a)(hb:KR b):KR (if c then a else b):=by split<;>assumption
def mS(l i b):KR (bY.cq l i b):=by
 unfold bY.cq bY.kindOf bY.fu bY.jL
 repeat' refine KR.ite ?_ ?_
 all_goals first
  |exact Or.inl rfl
  |exact Or.inr ⟨by decide,by decide⟩
def tO(l):ov l=.nilIface\/∃t x,ov l=.iface t x:=by
 unfold ov;split
 ·exact Or.inr ⟨_,_,rfl⟩
 ·exact Or.inr ⟨_,_,rfl⟩
 exact Or.inl rfl
def kX{w2 w3:QV}{n:Nat}{A:Obj}{j a1 l m b:Xa}{T:TypeId}(f3:((w2.alloc A).alloc (.cells #[j,a1,l,m,b] T)).grownBy w3 (some n))(r:n<w2.1.size):w3.cell? ⟨w2.1.size+1,4,none⟩=some b/\(∀o,w3.frozen? ⟨w2.1.size+1,o,none⟩=false):=by
 have hb:=f3.block (w2.1.size+1) R2 (λe=>by injection e;omega);have p:((w2.alloc A).alloc (.cells #[j,a1,l,m,b] T)).1[w2.1.size+1]?=some (.cells #[j,a1,l,m,b] T):=by
  have:=heap_alloc_new (w2.alloc A) (.cells #[j,a1,l,m,b] T);simpa using this
 rw[p]at hb;constructor
 ·simp[World.cell?,hb]
 intro o;simp[World.frozen?,hb]
end
section
open Tryz
def BT(b p1 j w):CallsD prog 87 #[.pointer (some b),.pointer (some p1),.pointer (some j)] .returning w λe u' w'=>e=.returned (.tuple #[])/\u'=.returning/\w'=w:=by
 refine callsD_of_wpS func87 rfl λm cs hu=>?_;apply wpS_seq;apply wpS_region;simp[wpOpsS,go_sem,recoverD,hu,ntmps87,Exit.thenS];refine wpS_of_wp ?_;have l:(#[Value.pointer (some b),Value.pointer (some p1),Value.pointer (some j)]++((Array.replicate 15 undef).setIfInBounds 4 Value.nilIface).setIfInBounds 0 Value.nilIface)=#[Value.pointer (some b),Value.pointer (some p1),Value.pointer (some j),Value.nilIface,undef,undef,undef,Value.nilIface,undef,undef,undef,undef,undef,undef,undef,undef,undef,undef]:=rfl;rw[l];clear l;go_wp2_with fail;cases m
 simp_all [bodyPostS,results,results87]
def zM(b)(c i:Nat)(w m)(y:∃q,m=.pointer q)(v1 v2)(hb:b+1+1<w.1.size)(n:w.cell? ⟨b,0,none⟩=some m)(c1:w.cell? ⟨b+1,0,none⟩=some (.int .i64 v1))(c2:w.cell? ⟨b+1+1,0,none⟩=some (.int .i64 v2))(z0:w.frozen? ⟨b,0,none⟩=false)(C:w.frozen? ⟨b+1,0,none⟩=false)(D:w.frozen? ⟨b+1+1,0,none⟩=false):CallsD prog 87 #[.pointer (some ⟨b,0,none⟩),.pointer (some ⟨b+1,0,none⟩),.pointer (some ⟨b+1+1,0,none⟩)] (.panicking [{ v:=.iface 179 (.agg #[.int .i64 c,.int .i64 i]),recovered:=false }]) w λe u' w' =>
   e=.returned (.tuple #[])/\u'=.panicking [{ v:=.iface 179 (.agg #[.int .i64 c,.int .i64 i]),recovered:=true }]/\w'.cell? ⟨b,0,none⟩=some (.pointer none)/\w'.cell? ⟨b+1,0,none⟩=some (.int .i64 c)/\w'.cell? ⟨b+1+1,0,none⟩=some (.int .i64 i)/\Below b w w':=by
 obtain⟨q,rfl⟩:=y;have r:b<w.1.size:=RM;have u:b+1<w.1.size:=RM;have B:∀(a:Xa) (w:QV),(Instr.typeAssert (.iface 179 a) 20 179 true).run prog w=.ok (.tuple #[a,.bool true]) w:=λ_ _=>by kernel_rfl
 refine callsD_of_wpS func87 rfl λz cs hu=>?_;apply wpS_seq;apply wpS_region;simp[wpOpsS,go_sem,recoverD,hu,ntmps87,Exit.thenS];refine wpS_of_wp ?_;generalize hv:Value.iface 179 (.agg #[.int .i64 (c:Int),.int .i64 (i:Int)])=j;have l:(#[Value.pointer (some ⟨b,0,none⟩),Value.pointer (some ⟨b+1,0,none⟩),Value.pointer (some ⟨b+1+1,0,none⟩)]++((Array.replicate 15 undef).setIfInBounds 4 j).setIfInBounds 0 j)=#[Value.pointer (some ⟨b,0,none⟩),Value.pointer (some ⟨b+1,0,none⟩),Value.pointer (some ⟨b+1+1,0,none⟩),j,undef,undef,undef,j,undef,undef,undef,undef,undef,undef,undef,undef,undef,undef]:=rfl;rw[l];clear l;subst hv;go_wp2_with fail
 go_region
 refine⟨rfl,_,rfl,.tuple #[],by simp[results,results87],rfl,rfl,?_,?_,?_,?_⟩
 ·simp[go_sem,r,n]
 ·simp[go_sem,u,c1]
 ·simp[go_sem,hb,c2]
 exact((((((Uz b w).setCell (p:=⟨b,0,none⟩) (af _) _).setCell (p:=⟨b+1,0,none⟩) (aJ _ _) _).setCell (p:=⟨b+1+1,0,none⟩) (by show b<=b+1+1;omega) _).alloc S2 _).drew)
end
section
open Tryz
def Oh(w:QV)(c i:Nat)(e:Ending)(w':QV):Prop :=(∃q,e=.returned (.tuple #[.pointer q,.int .i64 (c:Int),.int .i64 (i:Int)]))/\Xb w w'
def BU(s w)(hs:200<s.size)(b:s.size<=9223372036854775807):Calls prog 54 #[.string s] w (Oh w 2 0):=by
 go_enter_defers func54,ntmps54
 go_wp2_with fail;refine⟨.tuple #[.pointer none,.int .i64 2,.int .i64 0],by simp[results,results54,go_sem],⟨none,rfl⟩,?_⟩;exact(((Uz _ _).alloc (af _) _).alloc R2 _).alloc R5 _
end
