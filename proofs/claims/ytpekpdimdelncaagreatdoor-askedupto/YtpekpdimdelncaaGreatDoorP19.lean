/- Out of X16. -/
import Derived.Test.YtpekpdimdelncaaGreatDoorP16
set_option linter.unusedSimpArgs false
set_option linter.unusedVariables false
set_option maxRecDepth 100000
set_option maxHeartbeats 1000000
set_option linter.defProp false
namespace Go.Proofs.YtpekpdimdelncaaGreatDoor
open Go.RowKit
section
open Tryz
def AR(s b)(hs:s.size<=200)(l:8<=b):∀n,sY s b n 0 89/\sY s b n 1 131/\sY s b n 2 173/\sY s b n 3 212:=by
 have p:s.size<=281474976710656:=RM;intro n
 induction n using Nat.strongRecOn with
 |ind n u =>
  cases n with
  |zero =>
   refine⟨?_,?_,?_,?_⟩
   all_goals
    intro y B i hi hd z r;simp[bY.nd]at r
  |succ n =>
   have j:∀m,m<=n->_:=λm e=>u m RM;exact⟨CY s b n p l (j n (af _)).2.1,FG s b n p l (λm e=>(j m e).2.2.1),CZ s b n p l (λm e=>(j m e).2.2.2),zn s b n hs l (λm e=>(j m e).1) (j n (af _)).2.2.2⟩
def bY.mG(l:a_):Option bY.T :=if 200<l.length then none
 else match bY.PT l (8*l.length+5) 0 0 0 (bY.skip l 0) [] with
  |.ok (j,ts)=>if(bY.tok (l.drop j)).1=0 then ts.head? else none
  |.error _=>none
def u_(w:QV)(o:Option bY.T)(c i:Nat)(e:Ending)(w':QV):Prop :=(∃q,e=.returned (.tuple #[.pointer q,.int .i64 (c:Int),.int .i64 (i:Int)])/\∀t,o=some t->c=0/\i=0/\∃a,q=some a/\qh w' t a)/\Xb w w'
def AU(s w)(hs:200<s.size)(j:s.size<=9223372036854775807):Calls prog 54 #[.string s] w (u_ w (bY.mG s.1.1) (bY.check s.1.1).1 (bY.check s.1.1).2):=by
 have h1:bY.mG s.1.1=none:=by rw[bY.mG,ag (by simpa using hs)]
 have h2:bY.check s.1.1=(2,0):=by rw[bY.check,ag (by simpa using hs)]
 rw[h1,h2];refine(BU s w hs j).mono ?_;rintro e w'⟨⟨q,rfl⟩,b⟩;exact⟨⟨q,rfl,λt l=>by cases l⟩,b⟩
def sL(w0 w b c i j)(t2:j[2]?.getD undef=.pointer (some ⟨b,0,none⟩))(t3:j[3]?.getD undef=.pointer (some ⟨b+1,0,none⟩))(t4:j[4]?.getD undef=.pointer (some ⟨b+1+1,0,none⟩))(q v1 v2)(hb:b+1+1<w.1.size)(l:w.cell? ⟨b,0,none⟩=some (.pointer q))(c1:w.cell? ⟨b+1,0,none⟩=some (.int .i64 v1))(c2:w.cell? ⟨b+1+1,0,none⟩=some (.int .i64 v2))(z0:w.frozen? ⟨b,0,none⟩=false)(u:w.frozen? ⟨b+1,0,none⟩=false)(y:w.frozen? ⟨b+1+1,0,none⟩=false)(m:Xb w0 w)(p:w0.1.size<=b):Leaves prog f54 j (u_ w0 none c i) [{ target:=Target.fn (Fn.func 87) #[.pointer (some ⟨b,0,none⟩),.pointer (some ⟨b+1,0,none⟩),.pointer (some ⟨b+1+1,0,none⟩)],args:=#[] }] (.panicking [{ v:=.iface 179 (.agg #[.int .i64 c,.int .i64 i]),recovered:=false }]) w:=by
 refine leaves_cons (f:=87) (args:=#[.pointer (some ⟨b,0,none⟩),.pointer (some ⟨b+1,0,none⟩),.pointer (some ⟨b+1+1,0,none⟩)]) R2 Sj ?_;refine(zM b c i w _ ⟨q,rfl⟩ v1 v2 hb l c1 c2 z0 u y).mono ?_;rintro e u' w'⟨rfl,rfl,d0,d1,d2,n⟩;refine⟨.tuple #[.pointer none,.int .i64 _,.int .i64 (i:Int)],?_,⟨none,rfl,λt r=>by cases r⟩,m.trans (n.mono p)⟩;simp[results,results54,go_sem,t2,t3,t4,d0,d1,d2]
def C5(w0 w)(b c i:Nat)(j)(t2:j[2]?.getD undef=.pointer (some ⟨b,0,none⟩))(t3:j[3]?.getD undef=.pointer (some ⟨b+1,0,none⟩))(t4:j[4]?.getD undef=.pointer (some ⟨b+1+1,0,none⟩))(q t)(n:qh w t q)(l:w.cell? ⟨b,0,none⟩=some (.pointer (some q)))(c1:w.cell? ⟨b+1,0,none⟩=some (.int .i64 c))(c2:w.cell? ⟨b+1+1,0,none⟩=some (.int .i64 i))(m:Xb w0 w)(hc:c=0)(hi:i=0):Leaves prog f54 j (u_ w0 (some t) c i) [{ target:=Target.fn (Fn.func 87) #[.pointer (some ⟨b,0,none⟩),.pointer (some ⟨b+1,0,none⟩),.pointer (some ⟨b+1+1,0,none⟩)],args:=#[] }] .returning w:=by
 refine leaves_cons (f:=87) (args:=#[.pointer (some ⟨b,0,none⟩),.pointer (some ⟨b+1,0,none⟩),.pointer (some ⟨b+1+1,0,none⟩)]) R2 Sj ?_;refine(BT _ _ _ w).mono ?_;rintro e u' w'⟨rfl,rfl,rfl⟩;refine⟨.tuple #[.pointer _,.int .i64 _,.int .i64 _],?_,⟨some q,rfl,λt' p=>by cases p;exact⟨hc,hi,q,rfl,n⟩⟩,m⟩;simp[results,results54,go_sem,t2,t3,t4,l,c1,c2]
def zo(s w)(g:G w)(hs:s.size<=200):Calls prog 54 #[.string s] w (u_ w (bY.mG s.1.1) (bY.check s.1.1).1 (bY.check s.1.1).2):=by
 have ay:∀(fn:Fn) (first N:Array Xa) (w:QV),(Instr.makeFunc fn first N).run prog w=.ok (.func fn first N) w:=λ_ _ _ _=>rfl;have O:Xb w (((w.alloc (Obj.cells #[Value.pointer none] 121)).alloc (Obj.cells #[Value.int IntKind.i64 0] 39)).alloc (Obj.cells #[Value.int IntKind.i64 0] 3)):=(((Uz _ _).alloc (af _) _).alloc R2 _).alloc R5 _;have g0:=g.below O g.size;have C:bY.skip s.1.1 0<=s.size:=by have:=bY.pj s.1.1 0 (au _);simpa using this
 have b:bY.check s.1.1=bY.wR s.1.1 (bY.P s.1.1 (8*s.1.1.length+5) 0 0 0 (bY.skip s.1.1 0)):=by
  rw[bY.check,ae R5]
 generalize R:bY.skip s.1.1 0=m at C b;have l:bY.mG s.1.1=match bY.PT s.1.1 (8*s.1.1.length+5) 0 0 0 (bY.skip s.1.1 0) [] with
   |.ok (j,ts)=>if(bY.tok (s.1.1.drop j)).1=0 then ts.head? else none
   |.error _=>none:=by
  rw[bY.mG,ae R5]
 rw[R]at l;have S:=λpb y=>(AR s pb hs y (8*s.1.1.length+5)).1 0 0 m C RM (af _) R8;have Y:=bZ R;rw[<-bY.oJ s.1.1 _ _ _ _ _ []]at b;generalize ak:bY.PT s.1.1 (8*s.1.1.length+5) 0 0 0 m []=r at b S l;have am:∀j ts,r=.ok (j,ts)->j<=s.size:=λj ts hj=>(oj rfl (ak.trans hj) C).2;generalize bY.check s.1.1=u at b;generalize bY.mG s.1.1=X at l;have M:=bZ l;clear l;have L:=bZ b;have aa:=bZ S
 go_enter_defers func54,ntmps54
 go_wp2_with fail;refine(su s 0 0 _ rfl g0 RM (au _)).mono ?_;rw[Y.Z];rintro e w1⟨rfl,B⟩;obtain⟨hc,hf⟩:=nQ B;have hz:w.1.size+1+1<w1.1.size:=by have:=B.size;simp at this;omega
 have P:Xb w w1:=O.trans (B.mono R5);have n0:w1.cell? ⟨w.1.size,0,none⟩=some (.pointer none):=by rw[hc _ _ R5];simp[go_sem]
 have n1:w1.cell? ⟨w.1.size+1,0,none⟩=some (.int .i64 0):=by rw[hc _ _ R2];simp[go_sem]
 have n2:w1.cell? ⟨w.1.size+1+1,0,none⟩=some (.int .i64 0):=by rw[hc _ _ R2];simp[go_sem]
 have m0:w1.frozen? ⟨w.1.size,0,none⟩=false:=by rw[hf _ _ R5];simp[go_sem]
 have m1:w1.frozen? ⟨w.1.size+1,0,none⟩=false:=by rw[hf _ _ R2];simp[go_sem]
 have m2:w1.frozen? ⟨w.1.size+1+1,0,none⟩=false:=by rw[hf _ _ R2];simp[go_sem]
 have y:8<=w1.1.size:=Sz;have hP:∀v,ov (s.1.1.drop m)=v->gS (w1.alloc (.cells #[.string s,.int .i64 ((bY.tok (s.1.1.drop m)).1:Int),.string (s.extract m (m+(bY.tok (s.1.1.drop m)).2)),.int .i64 (m:Int),v,.int .i64 0,.int .i64 0] 183)) s w1.1.size m 0 0:=λv hv=>by
  subst hv;exact heap_alloc_new _ _
 have Z:=bZ hP;have Q:=tO (s.1.1.drop m);unfold l_;generalize hv:ov (s.1.1.drop m)=v at Q;have HV:=bZ hv;rcases Q with rfl|⟨t,x,rfl⟩
 all_goals
  go_wp2_with fail;refine(aa.Z _ y _ ((g.below P g.size).below ((Uz _ _).alloc (af _) _) y) (Z.Z _ HV.Z)).mono ?_;rintro e w2 F;have f2:=F.1;have aC:w1.1.size<w2.1.size:=by have:=f2.size;simp at this;omega
  have n:Xb w1 w2:=⟨f2.os,f2.tape,f2.output,by omega,λk D=>(f2.block k R5 (λe=>by injection e;omega)).trans (UE _ _ k D)⟩;have z:Xb w w2:=P.trans (n.mono RM);have I:w2.cell? ⟨w.1.size,0,none⟩=some (.pointer none):=(n.cell (p:=⟨w.1.size,0,none⟩) (by show w.1.size<_;omega)).trans n0;have J:w2.cell? ⟨w.1.size+1,0,none⟩=some (.int .i64 0):=(n.cell (p:=⟨w.1.size+1,0,none⟩) (by show w.1.size+1<_;omega)).trans n1;have K:w2.cell? ⟨w.1.size+1+1,0,none⟩=some (.int .i64 0):=(n.cell (p:=⟨w.1.size+1+1,0,none⟩) hz).trans n2;have T:w2.frozen? ⟨w.1.size,0,none⟩=false:=(n.frozen (p:=⟨w.1.size,0,none⟩) (by show w.1.size<_;omega)).trans m0;have U:w2.frozen? ⟨w.1.size+1,0,none⟩=false:=(n.frozen (p:=⟨w.1.size+1,0,none⟩) (by show w.1.size+1<_;omega)).trans m1;have V:w2.frozen? ⟨w.1.size+1+1,0,none⟩=false:=(n.frozen (p:=⟨w.1.size+1+1,0,none⟩) hz).trans m2
 all_goals rcases r with x|⟨j,ts⟩
 all_goals try
   obtain⟨_,rfl⟩:=dd.err F;have b:u=x:=L.Z;have l:X=none:=M.Z;subst b;subst l;exact sL w w2 w.1.size u.1 u.2 _ rfl rfl rfl none 0 0 RM I J K T U V z (af _)
 all_goals
   obtain⟨_,⟨q,t,rfl,rfl,ao⟩,h2⟩:=dd.ok F;have ap:=am j _ rfl;have ai:¬w.1.size=w1.1.size:=RM;obtain⟨d0,d1,d2,d3,d4,d5,d6,df⟩:=h2.cells;have b:u=if(bY.tok (s.1.1.drop j)).1=0 then(0,0) else(3,j):=L.Z;have l:X=if(bY.tok (s.1.1.drop j)).1=0 then some t else none:=M.Z;have ax:w1.1.size+1<=(w1.alloc (Obj.cells #[] 183)).1.size:=R2;have ab:=bZ ao;by_cases E:(bY.tok (s.1.1.drop j)).1=0
   ·rw[ag E]at b l;subst b;subst l;have ad:(((bY.tok (s.1.1.drop j)).1:Int) != 0)=false:=by rw[E];rfl
    go_wp2_with fail;refine C5 w _ w.1.size 0 0 _ rfl rfl rfl q t ?_ (by simp[go_sem,I]) (by simp[go_sem,J]) (by simp[go_sem,K]) ?_ rfl rfl
    ·have ht:=ab.Z;refine(ht _ ?_);intro k D _ cs t' fz hc _;have av:w1.1.size+1<=k:=S4
     repeat' first|exact hc|refine(UK _ _ _ k (by show k≠_;simp;omega)).trans ?_
    repeat' (first|exact z|exact af _|exact aJ _ _|exact ah (aJ _ 1) (aJ _ 1)|apply Below.setCell)
   rw[ae E]at b l;subst b;subst l;have ad:(((bY.tok (s.1.1.drop j)).1:Int) != 0)=true:=Sm;go_wp2_with fail;refine(mQ s w1.1.size j 0 0 3 _ (h2.other ai _ _)).mono ?_;rintro e w3⟨rfl,rfl⟩;exact sL w _ w.1.size 3 j _ rfl rfl rfl (some q) 0 0 S2 (by simp[go_sem,I]) (by simp[go_sem,J]) (by simp[go_sem,K]) (by simp[go_sem,T]) (by simp[go_sem,U]) (by simp[go_sem,V]) (z.setCell (p:=⟨w.1.size,0,none⟩) (af _) _) (af _)
def va(s w)(g:G w)(b:s.size<=9223372036854775807):Calls prog 54 #[.string s] w (u_ w (bY.mG s.1.1) (bY.check s.1.1).1 (bY.check s.1.1).2):=by
 by_cases hs:200<s.size
 ·exact AU s w hs b
 exact zo s w g RM
end
