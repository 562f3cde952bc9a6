/- Out of W8. -/
import Derived.Test.YtpekpdimdelncaaGreatDoorP03
import Derived.Deep.AppendLies
set_option maxRecDepth 100000
set_option maxHeartbeats 1000000
set_option linter.defProp false
namespace Go.Proofs.YtpekpdimdelncaaGreatDoor
open Go.RowKit
section
open Tryz
def G.fr{w w':Xa}{b:Nat}(g:G w)(h:w.grownBy w' (some b))(l:8<=b):G w' :=g.below (B:=8) ⟨h.os,h.tape,h.output,h.size,λk j=>h.block k TI (λe=>by injection e;omega)⟩ (af _)
def Fr.alloc{a w:Xa}{row:Option Nat}(h:a.grownBy w row)(o):a.grownBy (w.alloc o) row:=Lib.grownBy_allocR h o
theorem rT(s b i j l t w)(g:G w)(h:iI w s b i j l)(p:s.size<=281474976710656)(hi:i<=s.size)(m:bY.tx s.1.1 i=t.1.1):Calls prog 296 #[.pointer (some ⟨b,0,none⟩),.string t] w λe n=>e=.returned (.tuple #[])/\iI n s b (bY.fX s.1.1 i) j l/\w.grownBy n (some b):=by
 have u:(bY.tx s.1.1 i==t.1.1)=true:=by rw[m];simp
 have r:=bZ m;clear m;go_enter func296,ntmps296;go_wp2_with(go_at_call 313;refine(kF s b i j l t _ h).mono ?_;rintro e n ⟨rfl,rfl⟩);refine b_ (mM s b i j l _ g h p hi) λy ⟨h1,f1⟩=>?_;go_wp2
 go_end0
 exact⟨rfl,h1,f1⟩
def Fz(s b i j m t w)(h:iI w s b i j m)(l:¬bY.tx s.1.1 i=t.1.1):Calls prog 296 #[.pointer (some ⟨b,0,none⟩),.string t] w λe n=>e=refusal 3 i/\w=n:=by
 have r:(bY.tx s.1.1 i==t.1.1)=false:=by rw[az];exact l
 have p:=bZ l;clear l;go_enter func296,ntmps296;go_wp2_with(go_at_call 313;refine(kF s b i j m t _ h).mono ?_;rintro e n ⟨rfl,rfl⟩);refine(nj s b i j m 3 _ h).mono ?_;rintro e n⟨rfl,rfl⟩;exact⟨rfl,rfl,rfl⟩
def nu(s b i l m t w)(g:G w)(h:iI w s b i l m)(u:s.size<=281474976710656)(hi:i<=s.size):Calls prog 296 #[.pointer (some ⟨b,0,none⟩),.string t] w λe n=>w.grownBy n (some b)/\(∀j,bY.cD s.1.1 t.1.1 i=.ok j->e=.returned (.tuple #[])/\iI n s b j l m)/\(∀x,bY.cD s.1.1 t.1.1 i=.error x->e=refusal x.1 x.2):=by
 by_cases p:bY.tx s.1.1 i=t.1.1
 ·grind [bY.cD,rT]
 refine(Fz s b i l m t w h p).mono ?_;rintro e n⟨rfl,rfl⟩;refine⟨VQ _ _,λj r=>?_,λx hx=>?_⟩
 ·grind [bY.cD]
 grind [bY.cD]
end
section
variable{s:ba}
def LJ(w:Xa)(b:Nat):Nat :=match w.cell? ⟨b,3,none⟩ with
 |some (.int _ k)=>k.toNat
 |_=>0
def tT{w:Xa}{b i e j:Nat}(h:iI w s b i e j):LJ w b=i:=by
 rw[LJ,h.cells.2.2.2.1];rfl
end

section
variable{s:ba}
def iI.grown{w w':Xa}{b i deep its:Nat}{row:Option Nat}(h:iI w s b i deep its)(e:w.grownBy w' row)(j:some b≠row):iI w' s b i deep its :=(e.block b h.lt j).trans h
def Fr.grown{a w w':Xa}{r row:Option Nat}(h:a.grownBy w r)(b:w.grownBy w' row)(m:∀k,row=some k->a.1.size<=k):a.grownBy w' r :=⟨b.os.trans h.os,b.tape.trans h.tape,b.output.trans h.output,ah h.size b.size,λk j l=>(b.block k (aw j h.size) (λe=>by have:=m k e.symm;omega)).trans (h.block k j l)⟩
def nodeInfo:(Tryz.prog.info? 121).map (λi=>(i.zero,i.size,i.bytes))=some (some (.pointer none),1,8):=S8
end
section
variable{l:a_}{s:ba}
def fL(l:a_)(n b e k i:Nat):Except (Nat×Nat) Nat :=bY.parts l k i (λj=>bY.P l n 0 b e j) (λj=>bY.P l n 3 b e j) (λj=>bY.P l n 6 b e j) (λj=>bY.P l n 0 b (e+1) j)
def Qi{n m b e i j:Nat}(p:l=s.1.1)(h:bY.P l n m b e i=.ok j)(hi:i<=s.size):i<=j/\j<=s.size:=by
 subst p;have:=bY.kS s.1.1 n m b e i j h Tt;simp at this;omega
end

section
attribute [local go_sem] im
def KR(x:Nat):Prop:=x=0\/(2<=x/\x<=16)
def KR.ite{c:Prop}[Decidable c]{a b:Nat}(e:KR a)(j:KR b):KR (if c then a else b):=by
 grind
def nw(l i b):KR (bY.cu l i b):=by
 unfold bY.cu bY.kindOf bY.fC bY.jV
 repeat' refine KR.ite ?_ ?_
 all_goals first
  |exact Or.inl rfl
  |exact Or.inr ⟨by decide,by decide⟩
def ux(l):pL l=.nilIface\/∃t x,pL l=.iface t x:=by
 grind [pL]
def ll{w2 w3:Xa}{r:Nat}{A:Obj}{j l m n b:Xb}{T:TypeId}(f3:((w2.alloc A).alloc (.cells #[j,l,m,n,b] T)).grownBy w3 (some r))(y:r<w2.1.size):w3.cell? ⟨w2.1.size+1,4,none⟩=some b/\(∀o,w3.frozen? ⟨w2.1.size+1,o,none⟩=false):=by
 have p:=f3.block (w2.1.size+1) S5 (λe=>by injection e;omega);have u:((w2.alloc A).alloc (.cells #[j,l,m,n,b] T)).1[w2.1.size+1]?=some (.cells #[j,l,m,n,b] T):=by
  have:=heap_alloc_new (w2.alloc A) (.cells #[j,l,m,n,b] T)
  simp_all
 rw[u]at p;constructor
 ·simp[World.cell?,p]
 intro o;simp[World.frozen?,p]
end
section
open Tryz
def Cz(b j l w):CallsD prog 87 #[.pointer (some b),.pointer (some j),.pointer (some l)] .returning w λe p r=>e=.returned (.tuple #[])/\p=.returning/\r=w:=by
 refine callsD_of_wpS func87 rfl λn u hu=>?_;apply wpS_seq;apply wpS_region;simp[wpOpsS,go_sem,recoverD,hu,ntmps87,Exit.thenS];refine wpS_of_wp ?_;have m:(#[Value.pointer (some b),Value.pointer (some j),Value.pointer (some l)]++((Array.replicate 15 undef).setIfInBounds 4 Value.nilIface).setIfInBounds 0 Value.nilIface)=#[Value.pointer (some b),Value.pointer (some j),Value.pointer (some l),Value.nilIface,undef,undef,undef,Value.nilIface,undef,undef,undef,undef,undef,undef,undef,undef,undef,undef]:=rfl;rw[m];clear m;go_wp2_with fail;cases n
 simp_all [bodyPostS,results,results87]
def Aw(b)(c i:Nat)(w n)(C:∃q,n=.pointer q)(F G)(y:b+1+1<w.1.size)(p:w.cell? ⟨b,0,none⟩=some n)(r:w.cell? ⟨b+1,0,none⟩=some (.int .i64 F))(u:w.cell? ⟨b+1+1,0,none⟩=some (.int .i64 G))(L:w.frozen? ⟨b,0,none⟩=false)(M:w.frozen? ⟨b+1,0,none⟩=false)(N:w.frozen? ⟨b+1+1,0,none⟩=false):CallsD prog 87 #[.pointer (some ⟨b,0,none⟩),.pointer (some ⟨b+1,0,none⟩),.pointer (some ⟨b+1+1,0,none⟩)] (.panicking [{v:=.iface 179 (.agg #[.int .i64 c,.int .i64 i]),recovered:=false}]) w λe E l =>
   e=.returned (.tuple #[])/\E=.panicking [{v:=.iface 179 (.agg #[.int .i64 c,.int .i64 i]),recovered:=true}]/\l.cell? ⟨b,0,none⟩=some (.pointer none)/\l.cell? ⟨b+1,0,none⟩=some (.int .i64 c)/\l.cell? ⟨b+1+1,0,none⟩=some (.int .i64 i)/\Below b w l:=by
 obtain⟨q,rfl⟩:=C;have z:b<w.1.size:=R5;have B:b+1<w.1.size:=R5;have K:∀(a:Xb) (w:Xa),(Instr.typeAssert (.iface 179 a) 20 179 true).run prog w=.ok (.tuple #[a,.bool true]) w:=λ_ _=>by kernel_rfl
 refine callsD_of_wpS func87 rfl λJ I hu=>?_;apply wpS_seq;apply wpS_region;simp[wpOpsS,go_sem,recoverD,hu,ntmps87,Exit.thenS];refine wpS_of_wp ?_;generalize D:Value.iface 179 (.agg #[.int .i64 (c:Int),.int .i64 (i:Int)])=j;have m:(#[Value.pointer (some ⟨b,0,none⟩),Value.pointer (some ⟨b+1,0,none⟩),Value.pointer (some ⟨b+1+1,0,none⟩)]++((Array.replicate 15 undef).setIfInBounds 4 j).setIfInBounds 0 j)=#[Value.pointer (some ⟨b,0,none⟩),Value.pointer (some ⟨b+1,0,none⟩),Value.pointer (some ⟨b+1+1,0,none⟩),j,undef,undef,undef,j,undef,undef,undef,undef,undef,undef,undef,undef,undef,undef]:=rfl;rw[m];clear m;subst D;go_wp2_with fail
 go_region
 refine⟨rfl,_,rfl,.tuple #[],by simp[results,results87],rfl,rfl,?_,?_,?_,?_⟩
 ·simp[go_sem,z,p]
 ·simp[go_sem,B,r]
 ·simp[go_sem,y,u]
 exact((((((VM b w).setCell (p:=⟨b,0,none⟩) (af _) _).setCell (p:=⟨b+1,0,none⟩) (aI _ _) _).setCell (p:=⟨b+1+1,0,none⟩) (by show b<=b+1+1;omega) _).alloc Ub _).drew)
def Pw(w:Xa)(c i:Nat)(e:Ending)(w':Xa):Prop :=(∃q,e=.returned (.tuple #[.pointer q,.int .i64 (c:Int),.int .i64 (i:Int)]))/\Xc w w'
def CA(s w)(e:200<s.size)(b:s.size<=9223372036854775807):Calls prog 54 #[.string s] w (Pw w 2 0):=by
 go_enter_defers func54,ntmps54
 go_wp2_with fail;refine⟨.tuple #[.pointer none,.int .i64 2,.int .i64 0],by simp[results,results54,go_sem],⟨none,rfl⟩,?_⟩;exact(((VM _ _).alloc (af _) _).alloc S5 _).alloc Tc _
end
