/- Out of L5. -/
import Derived.Test.YtpekpdimdelncaaGreatDoorP20
import Derived.Test.YtpekpdimdelncaaGreatDoorP12
import Derived.Test.YtpekpdimdelncaaGreatDoorPS3
set_option linter.unusedVariables false
set_option linter.unusedSimpArgs false
set_option maxRecDepth 100000
set_option maxHeartbeats 4000000
set_option linter.defProp false
namespace Go.Proofs.YtpekpdimdelncaaGreatDoor
open Go.RowKit Go.Shelf
section
open Tryz
variable{ops:Array Oper}{o:Oper}{a:Act}{K:Act->QV->Prop}{Q:Exit->Act->QV->Prop}{E:Prop}{k b hb db:Nat}{cs:Array Xa}{fz:Nat×Nat}{l:List (a_×Xa)}{L:Nat->Prop}{cm:List (a_×bY.cu)}{done:List (a_×bY.Wo)}{v:Xa}{xs:List Xa}
def ja{P:Program}{w:QV}(m:o.guard=none)(s x t u)(n:o.op=Op.call { callee:=Callee.builtin Builtin.append,args:=#[s,x],argTypes:=#[t,u] })(vs e v' w')(hs:a.eval s=vs)(hx:a.eval x=e)(p:(Builtin.append_ #[t,u] o.type #[vs,e]).run P w=.ok v' w')(j:K (a.put o.dst v') w'):if Region.wanted o (yielded ops a.tmps)=true then Oper.wp P o a w K Q else E:=by
 have r:Region.wanted o (yielded ops a.tmps)=true:=by simp[Region.wanted,m]
 rw[ag r];unfold Oper.wp;simp[execOp,n,resolve,invoke,builtin,hs,hx,p,Result.andThen];exact j
def yK{P:Program}{w:QV}(r:o.guard=none)(m x y t)(z:o.op=Op.mapUpdate t m x y)(e j n w')(u:a.eval m=e)(hx:a.eval x=j)(hy:a.eval y=n)(B:(Instr.mapUpdate t e j n).run P w=.ok () w')(p:K (a.put o.dst undef) w'):if Region.wanted o (yielded ops a.tmps)=true then Oper.wp P o a w K Q else E:=by
 have C:Region.wanted o (yielded ops a.tmps)=true:=by simp[Region.wanted,r]
 rw[ag C];unfold Oper.wp;simp[execOp,z,u,hx,hy,B,Result.andThen];exact p
def cY{P:Program}(w){rest:List Oper}(n:o.guard=none)(s x t u)(p:o.op=Op.call { callee:=Callee.builtin Builtin.append,args:=#[s,x],argTypes:=#[t,u] })(vs e v' w')(hs:a.eval s=vs)(hx:a.eval x=e)(r:(Builtin.append_ #[t,u] o.type #[vs,e]).run P w=.ok v' w')(j:wpList P ops Q rest (a.put o.dst v') w'):wpList P ops Q (o :: rest) a w:=by
 refine wpList_plain n λy m=>?_;unfold Oper.wp;simp[execOp,p,resolve,invoke,builtin,hs,hx,r,Result.andThen];exact m _ _ j
structure Tn(e0:TypeId)(w w':QV)(row:Option Nat):Prop where
 g:w.grownBy w' row
 ty:∀b,row=some b->∃cs fz,w.1[b]?=some (.cells cs e0 fz)
def Tn.kept{e0:TypeId}{w w':QV}{row:Option Nat}(h:Tn e0 w w' row){o:Obj}(j:w.1[k]?=some o)(m:∀cs fz,o≠.cells cs e0 fz):w'.1[k]?=some o:=by
 refine(h.g.block k (Qe.1 j).1 (λe=>?_)).trans j;obtain⟨cs,fz,h1⟩:=h.ty k e.symm;rw[j]at h1;cases h1;exact m _ _ rfl
def Tn.cells{e0:TypeId}{w w':QV}{row:Option Nat}(h:Tn e0 w w' row){t:TypeId}(j:w.1[k]?=some (.cells cs t fz))(m:t≠e0):w'.1[k]?=some (.cells cs t fz) :=h.kept j (λ_ _ e=>by cases e;exact m rfl)
def Tn.stay{e0:TypeId}{w w':QV}{row:Option Nat}(h:Tn e0 w w' row)(j:LT e0):eH w w' :=cK.stay (λk cs t fz m n=>h.cells m (λe=>j.rQ (.inl (e▸n))))
def Tn.map{e0:TypeId}{w w':QV}{row:Option Nat}(h:Tn e0 w w' row)(j:fJ w b l):w'.1[b]?=w.1[b]? := by
 obtain⟨es,c,hb⟩:=j.isMap;rw[h.kept hb (λ_ _ e=>by cases e),hb]
def ik.tn{e0:TypeId}{w w':QV}{row:Option Nat}(h:ik w L hb cm)(m:Tn e0 w w' row)(r:LT e0)(h1:e0≠124)(h2:e0≠131)(p:e0≠133):ik w' L hb cm:=by
 have n:w'.1[hb]?=w.1[hb]? := by obtain⟨_,_,n,_⟩:=h;exact m.map n
 exact h.st n (λk _ cs fz hc=>m.cells hc h1.symm) (λk _ cs t fz hc j=>m.cells hc (λe=>by rcases j with j|j;exact h2 (e▸j);exact p (e▸j))) (m.stay r)
def ic.tn{e0:TypeId}{w w':QV}{row:Option Nat}(h:ic w L db done)(j:Tn e0 w w' row)(m:LT e0):ic w' L db done:=by
 have e:w'.1[db]?=w.1[db]? := by obtain⟨_,_,e,_⟩:=h;exact j.map e
 exact h.st e (j.stay m)
def iV{e0:TypeId}{w w':QV}{row:Option Nat}{n size:Nat}{e:TypeId}(h:w.ownsRow 8 e size v n xs)(m:Tn e0 w w' row)(j:e≠e0):w'.ownsRow 8 e size v n xs :=cD h (λg _ cs fz hc=>m.cells hc j)
def cz{w:QV}{n size:Nat}{e:TypeId}(h:w.ownsRow 8 e size v n xs){g:Nat}(j:v.ownBlock=some g):∃cs fz,w.1[g]?=some (.cells cs e fz):=by
 rcases h.2 with⟨rfl,_⟩|⟨g',p,r,rfl,_,m,_⟩
 ·cases j
 cases j;exact⟨_,_,m⟩
def uF{e0:TypeId}{w w':QV}{row:Option Nat}(h:∀k,L k->8<=k/\((∃es c,w.1[k]?=some (.map es c))\/∃cs t fz,w.1[k]?=some (.cells cs t fz)/\LT t))(m:Tn e0 w w' row)(u:LT e0)(z:∀b,row=some b->∃cs fz,w'.1[b]?=some (.cells cs e0 fz)):∀k,L k->8<=k/\((∃es c,w'.1[k]?=some (.map es c))\/∃cs t fz,w'.1[k]?=some (.cells cs t fz)/\LT t):=by
 intro k y;obtain⟨r,h1⟩:=h k y;refine⟨r,?_⟩;rcases h1 with⟨es,c,h1⟩|⟨cs,t,fz,h1,h2⟩
 ·exact .inl ⟨es,c,m.kept h1 (λ_ _ e=>by cases e)⟩
 by_cases j:row=some k
 ·obtain⟨cs',n,p⟩:=z k j;exact .inr ⟨cs',e0,n,p,u⟩
 exact .inr ⟨cs,t,fz,(m.g.block k (cj h1) (λe=>j e.symm)).trans h1,h2⟩
def kA{w:QV}{t:TypeId}(h:w.1[b]?=some (.cells cs t fz))(i v):(w.setCell ⟨b,i,none⟩ v).1[b]?=some (.cells (cs.setIfInBounds i v) t fz):=by
 simp[World.setCell,Qj,h]
def yL{w:QV}{t:TypeId}(h:w.1[b]?=some (.cells cs t fz))(i v):Tn t w (w.setCell ⟨b,i,none⟩ v) (some b) :=⟨da (UD w (some b)) i v,λb' hb=>by cases hb;exact⟨_,_,h⟩⟩
def Hx:(prog.info? 5).map (λi=>(i.zero,i.size,i.bytes))=some (some (.int .u8 0),1,1):=RO
def Aj(w ty v n xs)(r:w.ownsRow 8 5 1 v n xs)(s)(N:0<s.size)(R:n+s.size<=140737488355328)(O:8<=w.1.size):∃g m w',(Builtin.append_ #[106,9] ty #[v,.string s]).run prog w=.ok (.slice (some ⟨g,0,none⟩) (n+s.size) m) w'/\w'.ownsRow 8 5 1 (.slice (some ⟨g,0,none⟩) (n+s.size) m) (n+s.size) (xs++Lib.strCells s)/\w.grownBy w' v.ownBlock/\(v.ownBlock=some g\/g=w.1.size)/\(∀b,v.ownBlock=some b->∃cs fz,w'.1[b]?=some (.cells cs 5 fz)):=by
 obtain⟨z,p,G,I,J⟩:=UJ Hx;obtain⟨v',w',y,F,S,_⟩:=Lib.run_append_own_string (P:=prog) w 8 106 9 ty 5 z underlying106 underlying9 p G I J v n xs r s R6 R O;obtain⟨g,m,rfl,_,X⟩:=F.form RM;refine⟨g,m,w',y,F,S,?_⟩;rcases r.2 with⟨rfl,rfl⟩|⟨C,B,M,rfl,U,D,Y,V,hcs,Z⟩
 ·have e:=run_append_nil_string (P:=prog) w 106 9 ty 5 z _ underlying106 underlying9 p G s N RM (by rw[J];omega);rw[y]at e;injection e with e1 e2
  injection e1 with e1 _ _
  injection e1 with e1
  injection e1 with e1
  exact⟨.inr e1,λb hb=>by cases hb⟩
 by_cases T:n+s.size<=B
 ·have e:=Lib.run_append_room_string (P:=prog) w 106 9 ty 5 z underlying106 underlying9 p I C n B M D s T RM;rw[y]at e;injection e with e1 e2
  injection e1 with e1 _ _
  injection e1 with e1
  injection e1 with e1
  subst e1;exact⟨.inl rfl,λb hb=>by cases hb;exact cz F rfl⟩
 have holds:∀j u,xs[j]?=some u->w.cell? _=some u:=r.cells (g:=C) rfl;have e:=Lib.run_append_grow_string (P:=prog) w 106 9 ty 5 z _ underlying106 underlying9 p G ⟨C,0,none⟩ n B xs (by rw[I];exact r.1) holds s RM RM (by rw[J];exact growslice_fits RM RM);rw[y]at e;injection e with e1 e2
 injection e1 with e1 _ _
 injection e1 with e1
 injection e1 with e1
 refine⟨.inr e1,λb hb=>?_⟩;cases hb;rw[e2];exact⟨_,_,(heap_alloc_old w.drew _ (cj D)).trans D⟩
def iE{w:QV}(t ty e z size bytes)(N:prog.underlying t=some (.slice e))(aa:(prog.info? e).map (λi=>(i.zero,i.size,i.bytes))=some (some z,size,bytes))(ak:z.cells.size=size)(ai:0<size)(v n xs)(C:w.ownsRow 8 e size v n xs)(p c m)(hl:m.length=size)(J:∀j u,m[j]?=some u->w.cell? (p.add j)=some u)(h1:∀u∈m,u.oneCell'=true)(Z:(n+1)*bytes<=140737488355328)(R:n+1<=maxLen)(Y:8<=w.1.size):∃g B w',(Builtin.append_ #[t,t] ty #[v,.slice (some p) 1 c]).run prog w=.ok (.slice (some ⟨g,0,none⟩) (n+1) B) w'/\w'.ownsRow 8 e size (.slice (some ⟨g,0,none⟩) (n+1) B) (n+1) (xs++m)/\w.grownBy w' v.ownBlock/\(v.ownBlock=some g\/g=w.1.size)/\(∀b,v.ownBlock=some b->∃cs fz,w'.1[b]?=some (.cells cs e fz)):=by
 obtain⟨O,I,U,y,V⟩:=UJ aa;obtain⟨g,B,w',M,S,hg,ab,ap⟩:=run_append_lies (P:=prog) w t ty 8 e O z size bytes N I U y V ak ai v n xs C p 1 c m RM J h1 RM R Z Y _ rfl;refine⟨g,B,w',M,S,hg,ab,?_⟩;rcases C.2 with⟨rfl,rfl⟩|⟨F,D,X,rfl,am,G,av,ao,hcs,ax⟩
 ·exact λb hb=>by cases hb
 intro b hb;cases hb;by_cases T:n+1<=D
 ·have r:=UN (P:=prog) w t ty e O N I F n D X G p 1 c m SI J h1 T (by
   rw[y,hl,hcs];have:=Qo size T;rw[QO,QX]at this;exact this)
  rw[M]at r;injection r with e1 e2
  injection e1 with e1 _ _
  injection e1 with e1
  injection e1 with e1
  subst e1;exact cz S rfl
 have holds:∀j u,xs[j]?=some u->w.cell? _=some u:=C.cells (g:=F) rfl;have r:=run_append_grow (P:=prog) w t ty e O z N I U ⟨F,0,none⟩ n D xs (by rw[y];exact C.1) holds p 1 c m SI J RM (by simp only[maxLen]at R;omega) (by rw[V];exact growslice_fits RM RM);rw[M]at r;injection r with e1 e2
 rw[e2];exact⟨_,_,(heap_alloc_old w.drew _ (cj G)).trans G⟩
def eN(e)(t:a_):cW (e++[t])=cW e++bY.line t:=by
 simp[cW]
def sW(a b:a_):Lib.strCells ⟨a.toArray⟩++Lib.strCells ⟨b.toArray⟩=Lib.strCells ⟨(a++b).toArray⟩:=by
 simp[Lib.strCells]
def LP.turned{w w1:QV}{C:Nat}{s s':bY.LS}{V Y vn X r p z y:Xa}(h:LP w C s L hb db V Y vn X)(e0 row)(m:Tn e0 w w1 row)(B:LT e0)(h1:e0≠108)(h2:e0≠124)(J:e0≠131)(M:e0≠133)(S:∀b,row=some b->L b/\∃cs fz,w1.1[b]?=some (.cells cs e0 fz))(u:Nat->Prop)(N:∀k,u k->w.1.size<=k/\∃cs fz,w1.1[k]?=some (.cells cs e0 fz))(g:G w)(i v)(am:(#[.map (some hb),.map (some db),V,Y,vn,X]:Array Xa).setIfInBounds i v=#[.map (some hb),.map (some db),r,p,z,y])(ad:s'.cm=s.cm)(ab:s'.done=s.done)(r1:dm w1 r s'.b_)(r2:dm w1 p s'.cE)(r3:w1.ownsRow 8 61 6 z s'.du.length (s'.du.flatMap dB))(r4:w1.ownsRow 8 5 1 y (cW s'.jr).length (Lib.strCells ⟨(cW s'.jr).toArray⟩))(ai:∀k,r.ownBlock=some k\/p.ownBlock=some k\/z.ownBlock=some k\/y.ownBlock=some k->L k\/u k)(aa:∀k,r.ownBlock=some k->p.ownBlock≠some k)(ak:s'.cE=[]->p=.slice none 0 0):cH w C L s' (w1.setCell ⟨C,i,none⟩ v):=by
 have D:LT 108:=.inl rfl;have O:=m.cells h.eb h1.symm;have n:=yL O i v;have F:=kA O i v;rw[am]at F;have I:∀k,L k->L k\/u k:=λk j=>.inl j;have R:LP _ C s' (λk=>L k\/u k) hb db r p z y:={
   eb:=F
   here:=.inl h.here
   ne:=h.ne
   cm:=by rw[ad];exact((h.cm.tn m B h2 J M).tn n D RZ RZ RZ).mono I
   done:=by rw[ab];exact((h.done.tn m B).tn n D).mono I
   b_:=iV r1 n RZ
   cE:=iV r2 n RZ
   du:=iV r3 n RZ
   jr:=iV r4 n RZ
   dK:=ai
   apart:=aa
   oq:=ak
   ct:=uF (λk j=>by
    rcases j with j|j
    ·exact uF h.ct m B (λb hb=>(S b hb).2) k j
    ·obtain⟨Z,cs,fz,h6⟩:=N k j;exact⟨ah g.size Z,.inr ⟨cs,e0,fz,h6,B⟩⟩) n D (λb hb=>by cases hb;exact⟨_,_,F⟩) }
 have f1:ed L w w1:=by
  refine⟨m.g.os,m.g.tape,m.g.output,m.g.size,λk j hn=>m.g.block k j (λe=>hn (S k e.symm).1)⟩
 refine⟨λk=>L k\/u k,⟨hb,db,r,p,z,y,R⟩,λk j=>by rcases j with j|j;exact .inl j;exact .inr (N k j).1,I,h.Hw R (f1.trans (ed.grown n.g h.here) (λk j=>.inl j)) (λk j cs t fz hc P=>n.cells (m.cells hc ?_) ?_) ?_⟩
 ·rcases P with rfl|rfl
  ·exact J.symm
  exact M.symm
 ·rcases P with rfl|rfl<;>decide
 obtain⟨hp,q1,T,_⟩:=h.cm;have e1:=m.map T;obtain⟨es,cc,U⟩:=T.isMap;rw[U]at e1;rw[n.kept e1 (λ_ _ e=>by cases e),U]
def LP.write{w w1:QV}{p:Nat}{s:bY.LS}{L:Nat->Prop}{hb db:Nat}{C D vn j:Xa}(h:LP w p s L hb db C D vn j)(y:G w){g r n:Nat}(t:a_)(z:w.grownBy w1 j.ownBlock)
  (B:n=(cW (s.jr++[t])).length) (u:w1.ownsRow 8 5 1 (.slice (some ⟨g,0,none⟩) n r) n (Lib.strCells ⟨(cW (s.jr++[t])).toArray⟩)) (hl:j.ownBlock=some g\/g=w.1.size) (hold:∀b,j.ownBlock=some b->∃cs fz,w1.1[b]?=some (.cells cs 5 fz)) :
  cH w p L (s.write t) (w1.setCell ⟨p,5,none⟩ (.slice (some ⟨g,0,none⟩) n r)):=by
 subst B;have m:Tn 5 w w1 _:=⟨z,λb hb=>cz h.jr hb⟩;refine h.turned 5 j.ownBlock m (.inr (.inr (.inr (.inl rfl)))) RZ RZ RZ RZ (λb hb=>⟨h.dK b (.inr (.inr (.inr hb))),hold b hb⟩) (λk=>k=g/\g=w.1.size) (λk e=>?_) y 5 _ rfl rfl rfl (iV h.b_ m RZ) (iV h.cE m RZ) (iV h.du m RZ) u (λk e=>?_) h.apart h.oq
 ·obtain⟨rfl,h1⟩:=e;exact⟨by omega,cz u rfl⟩
 rcases e with e|e|e|e
 ·exact .inl (h.dK k (.inl e))
 ·exact .inl (h.dK k (.inr (.inl e)))
 ·exact .inl (h.dK k (.inr (.inr (.inl e))))
 cases e;rcases hl with hl|hl
 ·exact .inl (h.dK _ (.inr (.inr (.inr hl))))
 exact .inr ⟨rfl,hl⟩
end
section
open bY
open Tryz
namespace Ref
def oP:Option Int->Xa
 |some i=>.tuple #[.int .i64 i,.bool true]
 |none=>.tuple #[.int .i64 0,.bool false]
def E_:a_:=[45,57,50,50,51,51,55,50,48,51,54,56,53,52,55,55,53,56,48,56]
def DP:Lib.itoa (-9223372036854775808)=E_:=by decide +kernel
def qe(s w)(hs:s.size<=20000000):Calls prog 193 #[.string s] w λe w'=>e=.returned (oP (dT s.1.1))/\w'=w:=by
 rw[<-EP];have z:s.1.1.length=s.size:=by rw[UB]
 by_cases hc:1<s.1.1.length/\s.1.1.head?=some 45
 ·have h1:(1:Int)<(s.size:Int):=by have:=hc.1;omega
  have r:0<s.size:=RM;have hb:((s[0].toNat:Int)==45)=true:=by
   have:s[0]=45:=by
    have h2:=hc.2;rw[QI,byte_at s 0 r]at h2;exact aB h2
   rw[this];rfl
  by_cases p:s.1.1=E_
  ·have l:iU s.1.1=some (-9223372036854775808):=by
    unfold iU;rw[ag hc,ag (by rw[DP];exact p)]
   rw[l];have u:(s.toList==E_)=true:=by rw[UC,p];rfl
   unfold E_ at u;clear l p hc;go_enter func193,ntmps193;go_wp2_with fail;go_ret2;exact⟨rfl,rfl⟩
  have u:(s.toList==E_)=false:=by rw[UC];simpa using p
  unfold E_ at u;have hx:(s.extract 1 s.size).1.1=s.1.1.drop 1:=by
   rw[UG];exact Qb (by rw[aO,z];omega)
  have j:=bZ (eC (s.extract 1 s.size) w (by rw[UB,hx,aO,z];omega));rw[hx]at j;have l:iU s.1.1=match dJ (s.1.1.drop 1) with|some n=>if 0<n then some (-(n:Int))else none|none=>none:=by
   unfold iU;rw[ag hc,ae (by rw[DP];exact p)];cases dJ (s.1.1.drop 1)<;>rfl
  rw[l];cases hd:dJ (s.1.1.drop 1) with
  |none =>
   rw[hd]at j;unfold gp at j;clear l p hc hx hd;go_enter func193,ntmps193;go_wp2_with fail;refine j.Z.mono ?_;rintro e w'⟨rfl,m⟩;obtain rfl:=m;dsimp only;go_wp2_with fail;go_ret2;exact⟨rfl,rfl⟩
  |some n =>
   have F:=(lR hd).2;have G:(n:Int)<=9223372036854775807:=RM;rw[hd]at j;unfold gp at j;clear l p hc hx hd;by_cases B:0<n
   ·have E:(0:Int)<(n:Int):=RM;simp only[B,aN];go_enter func193,ntmps193;go_wp2_with fail;refine j.Z.mono ?_;rintro e w'⟨rfl,m⟩;obtain rfl:=m;dsimp only;go_wp2_with fail;go_ret2;exact⟨rfl,rfl⟩
   obtain rfl:n=0:=RM;go_enter func193,ntmps193;go_wp2_with fail;refine j.Z.mono ?_;rintro e w'⟨rfl,m⟩;obtain rfl:=m;dsimp only;go_wp2_with fail;go_ret2;exact⟨rfl,rfl⟩
 have l:iU s.1.1=(dJ s.1.1).map λn=>(n:Int):=by
  unfold iU;rw[ae hc]
 have j:=bZ (eC s w hs);have y:gp (dJ s.1.1)=oP (iU s.1.1):=by
  rw[l];cases dJ s.1.1<;>rfl
 rw[y]at j;have hv:∃(i:Int) (b:Bool),oP (iU s.1.1)=.tuple #[.int .i64 i,.bool b]:=by
  cases iU s.1.1<;>exact⟨_,_,rfl⟩
 obtain⟨i,b,hv⟩:=hv;rw[hv]at j ⊢;by_cases h1:1<s.size
 ·have C:(1:Int)<(s.size:Int):=RM;have r:0<s.size:=RM;have hb:((s[0].toNat:Int)==45)=false:=by
   have h2:s[0]≠45:=λe=>hc ⟨by omega,by rw[QI,byte_at s 0 r,e]⟩;have D:¬s[0].toNat=45:=λe=>h2 (Qi.1 e);simp;omega
  clear l y hv hc;go_enter func193,ntmps193;go_wp2_with fail;refine j.Z.mono ?_;rintro e w'⟨rfl,m⟩;obtain rfl:=m;dsimp only;go_wp2_with fail;go_ret2;exact⟨rfl,rfl⟩
 have C:¬(1:Int)<(s.size:Int):=RM;clear l y hv hc;go_enter func193,ntmps193;go_wp2_with fail;refine j.Z.mono ?_;rintro e w'⟨rfl,m⟩;obtain rfl:=m;dsimp only;go_wp2_with fail;go_ret2;exact⟨rfl,rfl⟩
end Ref
end
section
open bY
open Tryz
namespace Ref
variable{v:Xa}{l:List (a_)}{o:Option Addr}{i:Nat}{x:a_}
def qf:(prog.info? 9).map (λi=>(i.zero,i.size,i.bytes))=some (some (.string ⟨#[]⟩),1,16):=RO
structure iO(w0 w:QV)(v:Xa)(l:List (a_)):Prop where
 row:w.ownsRow 8 9 1 v l.length (l.map str)
 new:∀g,v.ownBlock=some g->w0.1.size<=g
 eh:Xb w0 w
def iO.nil(w):iO w w (.slice none 0 0) []:=⟨⟨rfl,.inl ⟨rfl,rfl⟩⟩,(λg b=>by cases b),Uz _ _⟩
def iO.below{w0 w w':QV}(h:iO w0 w v l)(b:Xb w w'):iO w0 w' v l :=⟨cD h.row (λg e cs fz hb=>(b.block g (cj hb)).trans hb),h.new,h.eh.trans (b.mono h.eh.size)⟩
def iO.form{w0 w:QV}(h:iO w0 w v l):∃o c,v=.slice o l.length c:=by
 rcases h.row.2 with⟨e,b⟩|⟨g,j,m,e,_⟩
 ·exact⟨_,_,by rw[e,b]⟩
 exact⟨_,_,e⟩
def iO.cell{w0 w:QV}{n c:Nat}(h:iO w0 w (.slice o n c) l)(hx:l[i]?=some x):∃g,o=some ⟨g,0,none⟩/\g<w.1.size/\w.cell? ⟨g,i,none⟩=some (str x):=by
 rcases h.row.2 with⟨_,p⟩|⟨g,j,m,e,_,b,_⟩
 ·have:=(az.1 hx).1;omega
 cases e;refine⟨g,rfl,cj b,?_⟩;have:=UX h.row (g:=g) rfl i (str x) (by rw[P2,hx];rfl);rw[addr_add,aI]at this;exact this
def iO.push{w0 w:QV}(h:iO w0 w v l)(r:8<=w0.1.size)(x)(D:l.length<=100000000):∃g n w',(Builtin.append_ #[40,40] 40 #[v,.slice (some ⟨w.1.size,0,none⟩) 1 1]).run prog (w.alloc (.cells #[.string x] 9))=.ok (.slice (some ⟨g,0,none⟩) (l.length+1) n) w'/\iO w0 w' (.slice (some ⟨g,0,none⟩) (l.length+1) n) (l++[x.1.1]):=by
 have y:Xb w (w.alloc (.cells #[.string x] 9)):=(Uz _ w).alloc (af _) _;have h1:=h.below y;have z:=heap_alloc_new w (.cells #[.string x] 9);obtain⟨g,n,w',C,B,b,m,hold⟩:=iE 40 40 9 _ 1 16 underlying40 qf rfl RZ v l.length (l.map str) h1.row ⟨w.1.size,0,none⟩ 1 [.string x] rfl (λj u hj=>by
  rw[addr_add,aI];simp only[World.cell?,z]
  match j,hj with
  |0,hj=>simp at hj;rw[<-hj];rfl) (λu hu=>by
  simp at hu;rw[hu];rfl) RM R6 (ah r h1.eh.size)
 refine⟨g,n,w',C,?_,λk p=>?_,?_⟩
 ·rw[aj,aV];show w'.ownsRow 8 9 1 _ (l.length+1) (l.map str++[str x.1.1]);rw[dF];exact B
 ·cases p;rcases m with m|m
  ·exact h.new _ m
  rw[m];exact h1.eh.size
 exact⟨b.os.trans h1.eh.os,b.tape.trans h1.eh.tape,b.output.trans h1.eh.output,ah h1.eh.size b.size,λk p=>(b.block k (aA p h1.eh.size) (λe=>by have:=h.new k e.symm;omega)).trans (h1.eh.block k p)⟩
def Hy(s:ba){f:Nat}(hf:f<=i)(hi:i<s.size):(s.1.1.take (i+1)).drop f=(s.1.1.take i).drop f++[s[i]]:=by
 rw[Q2,byte_at s i hi];rw[Su (by rw[P7,<-UB];omega)];rfl
def Fa(s:ba)(hi:i<s.size):s.1.1.drop i=s[i] :: s.1.1.drop (i+1):=by
 have hl:i<s.1.1.length:=by rw[<-UB];exact hi
 rw[aR hl];have:=byte_at s i hi;rw[aq hl]at this;rw[aB this]
def xp(c d:UInt8):((c.toNat)==(d.toNat:Int))=decide (c=d):=by
 by_cases h:c=d
 ·subst h;simp
 have:¬c.toNat=d.toNat:=λe=>h (Qi.1 e);have h2:¬(c.toNat:Int)=(d.toNat:Int):=RM;simp[h,h2]
def Ct(s w)(Q:8<=w.1.size)(hs:s.size<=20000000):Calls prog 232 #[.string s] w λe w'=>∃v,e=.returned v/\iO w w' v (fU s.1.1):=by
 have aa:s.1.1.length=s.size:=by rw[UB]
 cases M:s.toList.isEmpty with
 |true =>
  have hd:s.1.1=[]:=by rw[<-UC];exact List.isEmpty_iff.1 M
  have E:fU s.1.1=[]:=by rw[hd];rfl
  rw[E];clear E hd aa;go_enter func232,ntmps232;go_wp2_with fail;go_ret;exact⟨_,rfl,iO.nil w⟩
 |false =>
  have hd:s.1.1≠[]:=λe=>by rw[UC,e]at M;cases M
  have E:fU s.1.1=lP s.1.1 [] 0 false []:=by unfold fU;rw[ae hd]
  rw[E];have K:Hid (lP (s.1.1.drop 0) ((s.1.1.take 0).drop 0) 0 false []=lP s.1.1 [] 0 false []):=bZ rfl;generalize lP s.1.1 [] 0 false []=R at K;have O:Hid (iO w w (.slice none 0 0) []):=bZ (iO.nil w);clear E hd;go_enter func232,ntmps232;go_wp2_with fail
  go_loopw [3,4,5,6,7] (λlv fv X qv iv wr=>∃(i f:Nat) (d:Int) (q:Bool) (j:List (a_)) (o:Option Addr) (c:Nat),i<=s.size/\f<=i/\-(i:Int)<=d/\d<=(i:Int)/\j.length<=i/\lv=.slice o j.length c/\fv=.int .i64 f/\X=.int .i64 d/\qv=.bool q/\iv=.int .i64 i/\Hid (iO w wr (.slice o j.length c) j)/\Hid (lP (s.1.1.drop i) ((s.1.1.take i).drop f) d q j=R)) (λ_ _ _ _ iv _=>s.size-(intOf iv).toNat)
  case atStart=>exact⟨0,0,0,false,[],none,0,au _,af _,by omega,by omega,af _,rfl,rfl,rfl,rfl,rfl,O,K⟩
  case round =>
   obtain⟨i,f,d,q,j,o,c,hi,hf,ad,ai,ab,rfl,rfl,rfl,rfl,rfl,r,G⟩:=hrel;clear K O;by_cases S:i<s.size
   ·have Z:(i:Int)<(s.size:Int):=RM;have z:=Fa s S;have n:=Hy s hf S;have b:=G.Z;rw[z,lP]at b;have P:((s[i].toNat:Int)==39)=decide (s[i]=39):=xp s[i] 39;have J:((s[i].toNat:Int)==123)=decide (s[i]=123):=xp s[i] 123;have D:((s[i].toNat:Int)==125)=decide (s[i]=125):=xp s[i] 125;have C:((s[i].toNat:Int)==44)=decide (s[i]=44):=xp s[i] 44;clear G;by_cases p:s[i]=39
    ·rw[ag p,<-n]at b;rw[aS p]at P;have m:=bZ b;clear b z n J D C p;go_wp2_with fail;refine⟨⟨i+1,f,d,!q,j,o,c,by omega,by omega,by omega,by omega,by omega,rfl,rfl,rfl,rfl,by go_num,r,m⟩,?_⟩;simp[intOf];omega
    rw[ae p]at b;rw[aF p]at P;cases q with
    |true =>
     rw[ag rfl,<-n]at b;have m:=bZ b;clear b z n J D C p;go_wp2_with fail;refine⟨⟨i+1,f,d,true,j,o,c,by omega,by omega,by omega,by omega,by omega,rfl,rfl,rfl,rfl,by go_num,r,m⟩,?_⟩;simp[intOf];omega
    |false =>
     rw[ae R2]at b;by_cases u:s[i]=123
     ·rw[ag u,<-n]at b;rw[aS u]at J;have m:=bZ b;clear b z n D C p u;go_wp2_with fail;refine⟨⟨i+1,f,d+1,false,j,o,c,by omega,by omega,by omega,by omega,by omega,rfl,rfl,rfl,rfl,by go_num,r,m⟩,?_⟩;simp[intOf];omega
     rw[ae u]at b;rw[aF u]at J;by_cases y:s[i]=125
     ·rw[ag y,<-n]at b;rw[aS y]at D;have m:=bZ b;clear b z n C p u y;go_wp2_with fail;refine⟨⟨i+1,f,d-1,false,j,o,c,by omega,by omega,by omega,by omega,by omega,rfl,rfl,rfl,rfl,by go_num,r,m⟩,?_⟩;simp[intOf];omega
     rw[ae y]at b;rw[aF y]at D;by_cases B:s[i]=44
     ·rw[aS B]at C;by_cases L:d=0
      ·subst L;rw[ag ⟨B,rfl⟩]at b;have hx:(s.extract f i).1.1=(s.1.1.take i).drop f:=by rw[UG,List.drop_take]
       obtain⟨g,I,w3,N,F⟩:=r.Z.push Q (s.extract f i) RM;have T:(s.1.1.take (i+1)).drop (i+1)=[]:=aQ S7;rw[<-T,<-hx]at b;have m:=bZ b;have V:Hid (iO w w3 (.slice (some ⟨g,0,none⟩) (j++[(s.extract f i).1.1]).length I) (j++[(s.extract f i).1.1])):=bZ (by rw[aj];exact F);have Y:(f:Int)<=(i:Int):=RM;clear b z n p u y B hx T F r;go_wp2_with(at_builtin;refine cY _ rfl _ _ _ _ rfl _ _ _ _ rfl rfl N ?_);refine⟨⟨i+1,i+1,0,false,_,some ⟨g,0,none⟩,I,by omega,by omega,by omega,by omega,?_,?_,by go_num,rfl,rfl,by go_num,V,m⟩,?_⟩
       ·rw[aj,aD];omega
       ·rw[aj,aD]
       simp[intOf];omega
      have ak:(d==0)=false:=by simpa using L
      rw[ae (λh=>L h.2),<-n]at b;have m:=bZ b;clear b z n p u y B;go_wp2_with fail;refine⟨⟨i+1,f,d,false,j,o,c,by omega,by omega,by omega,by omega,by omega,rfl,rfl,rfl,rfl,by go_num,r,m⟩,?_⟩;simp[intOf];omega
     rw[aF B]at C;rw[ae (λh=>B h.1),<-n]at b;have m:=bZ b;clear b z n p u y B;go_wp2_with fail;refine⟨⟨i+1,f,d,false,j,o,c,by omega,by omega,by omega,by omega,by omega,rfl,rfl,rfl,rfl,by go_num,r,m⟩,?_⟩;simp[intOf];omega
   obtain rfl:i=s.size:=RM;have Z:¬(s.size:Int)<(s.size:Int):=RM;have b:=G.Z;rw[aQ RM,lP]at b;have hx:(s.extract f s.size).1.1=(s.1.1.take s.size).drop f:=by rw[UG,List.drop_take]
   rw[<-hx]at b;obtain⟨g,I,w3,N,F⟩:=r.Z.push Q (s.extract f s.size) RM;have U:Hid (iO w w3 (.slice (some ⟨g,0,none⟩) (j.length+1) I) R):=bZ (by rw[<-b];exact F);have Y:(f:Int)<=(s.size:Int):=RM;clear G b hx F r;go_wp2_with(at_builtin;refine cY _ rfl _ _ _ _ rfl _ _ _ _ rfl rfl N ?_);go_ret;exact⟨_,rfl,U.Z⟩
end Ref
end
section
open Tryz
variable{s:bY.LS}{L:Nat->Prop}
def jB(t:a_):(bY.line t).length=t.length+10:=by
 simp[bY.line,bY.wv]
def jI.below{B:Nat}{w w':QV}(h:jI w)(b:Below B w w')(e:8<=B):jI w':=by
 unfold jI at h ⊢;rw[<-h];exact UF (b.block _ (by show 7<_;omega))
def yV{w w':QV}{j:Nat}(h:fD w j s L)(hf:ed L w w')(g:G w)(hd:jI w):jI w':=by
 obtain⟨hb,db,l,n,vn,m,h⟩:=h;have b:Below 8 w w':=⟨hf.os,hf.tape,hf.output,hf.size,λk e=>hf.block k (aA e g.size) (λhl=>by have:=(h.ct k hl).1;omega)⟩;exact hd.below b (af _)
def pC(w m s L)(t:ba)(h:fD w m s L)(g:G w)(hd:jI w)(V:t.size<=140737488355328)(hj:(cW (s.jr++[t.1.1])).length<=140737488355328):Calls prog 59 #[ptr m,.string t] w λe w'=>e=.returned (.tuple #[])/\cH w m L (s.write t.1.1) w':=by
 obtain⟨hb,db,X,Y,vn,u,h⟩:=h;have F:w.cell? ⟨m,5,none⟩=some u:=by simp[World.cell?,h.eb]
 have T:m<w.1.size:=cj h.eb;have R:=λ(w0:QV) (l:Xb w w0)=>KL t w0 V (hd.below l g.size) (ah g.size l.size);have O:∀(w1:QV),Xb w w1->∃g' y w2,(Builtin.append_ #[106,9] 106 #[u,str (bY.line t.1.1)]).run prog w1=.ok (.slice (some ⟨g',0,none⟩) (cW (s.jr++[t.1.1])).length y) w2/\(∃v,w2.cell? ⟨m,5,none⟩=some v)/\w2.frozen? ⟨m,5,none⟩=false/\cH w m L (s.write t.1.1) (w2.setCell ⟨m,5,none⟩ (.slice (some ⟨g',0,none⟩) (cW (s.jr++[t.1.1])).length y)):=by
  intro w1 l;have h1:LP w1 m s L hb db X Y vn u:=h.st (λk r=>l.block k (h.lt r)) (eH.below l);have U:(⟨(bY.line t.1.1).toArray⟩:ba).size=(bY.line t.1.1).length:=by show(bY.line t.1.1).toArray.size=_;simp
  have hlen:(cW (s.jr++[t.1.1])).length=(cW s.jr).length+(⟨(bY.line t.1.1).toArray⟩:ba).size:=by rw[eN,aj,U]
  have Z:=jB t.1.1;obtain⟨g',y,w2,n,Q,P,hl,hold⟩:=Aj w1 106 u _ _ h1.jr ⟨(bY.line t.1.1).toArray⟩ RM RM (ah g.size l.size);rw[sW,<-eN,<-hlen]at Q;rw[<-hlen]at n;have N:=(Tn.mk (e0:=5) P (λb hb=>cz h1.jr hb)).cells h1.eb RZ;refine⟨g',y,w2,n,⟨u,by simp[World.cell?,N]⟩,by simp[World.frozen?,N],?_⟩;obtain⟨L',k1,k2,k3,k4⟩:=h1.write (g.below l g.size) t.1.1 P rfl Q hl hold;refine⟨L',k1,λk r=>?_,k3,(uE.below l).trans k4 (λk r=>.inl r) (λk r=>r)⟩;rcases k2 k r with h|h
  ·exact .inl h
  have:=l.size;exact .inr RM
 have E:=bZ R;have D:=bZ O;clear R O h;unfold ptr;go_enter func59,ntmps59;go_wp2_with fail;refine wp_region_held_drew (S:=λ_=>True) RO trivial (λhHeld=>?_);refine wpAnyH_take (i:=0) (v:=?_) rfl RO RO RO (λ_ _ _ h=>h) (Or.inl ⟨by rfl,?_⟩) trivial ?_
 rotate_left
 ·intro w' I;go_simp
  try with_reducible rfl
 simp only[Act.put,ar,Xc,Xd];refine wpAnyH_take (i:=1) (v:=?_) rfl RO RO RO (λ_ _ _ h=>h) (Or.inl ⟨by rfl,?_⟩) trivial ?_
 rotate_left
 ·intro w' I;go_simp
  try with_reducible rfl
 simp only[Act.put,ar,Xc,Xd];refine wpAnyH_take (i:=2) (v:=?_) rfl RO RO RO (λ_ _ _ h=>h) (Or.inl ⟨by rfl,?_⟩) trivial ?_
 rotate_left
 ·intro w' I;go_simp
  try with_reducible rfl
 simp only[Act.put,ar,Xc,Xd];refine wpAnyH_take (i:=3) (v:=?_) rfl RO RO RO (λ_ _ _ h=>h) (Or.inl ⟨by rfl,?_⟩) trivial ?_
 rotate_left
 ·intro w' I;go_simp
  try with_reducible rfl
 simp only[Act.put,ar,Xc,Xd];refine wpAnyH_take (i:=5) (v:=?_) rfl RO RO RO (λ_ _ _ h=>h) (Or.inl ⟨by rfl,?_⟩) trivial ?_
 rotate_left
 ·intro w' I;go_simp
  try with_reducible rfl
 simp only[Act.put,ar,Xc,Xd];have z:Xb w w.drew:=(Uz _ w).drew;have d5:w.drew.cell? ⟨m,5,none⟩=some u:=F;refine wpAnyH_ready (rs:=[4,6]) RO R2 ?_;refine AllReadyH.cons rfl (λK j=>?_) (AllReadyH.cons rfl (λK j=>?_) AllReadyH.nil)
 ·go_simp;refine j.out _ _ trivial (λ_=>?_);clear j;refine wpAnyH_ready (rs:=[6]) RO R2 ?_;refine AllReadyH.cons rfl (λK j=>?_) AllReadyH.nil;go_simp;refine(E.Z _ z).mono ?_;rintro e w1⟨rfl,B⟩;have l:Xb w w1:=z.trans (B.mono R2);refine j.out _ _ trivial (λ_=>?_);clear j
  try clear M
  clear d5;obtain⟨g',y,w2,n,⟨v,hv⟩,hz,C⟩:=D.Z w1 l;have J:=bZ C;clear C D E hHeld B l z F;refine wpAnyH_ready (rs:=[7]) RO R2 ?_;refine AllReadyH.cons rfl (λK j=>?_) AllReadyH.nil;refine ja rfl (.tmp 8) (.tmp 10) 106 9 rfl _ _ _ _ rfl rfl n ?_;simp only[Act.put,ar,Xc,Xd];refine j.out _ _ trivial (λ_=>?_);clear j n;refine wpAnyH_ready (rs:=[8]) RO R2 ?_;refine AllReadyH.cons rfl (λK j=>?_) AllReadyH.nil;go_simp;refine j.out _ _ trivial (λ_=>?_);clear j;refine wpAnyH_ready (rs:=[9]) RO R2 ?_;refine AllReadyH.cons rfl (λK j=>?_) AllReadyH.nil;go_simp;refine j.out _ _ trivial (λ_=>?_);clear j;refine wpAnyH_ready (rs:=[10]) RO R2 ?_;refine AllReadyH.cons rfl (λK j=>?_) AllReadyH.nil;go_simp;refine j.out _ _ trivial (λ_=>?_);clear j;refine wpAnyH_done RO ?_ _;go_wp2_with fail
  go_end0
  exact⟨rfl,J.Z⟩
 go_simp;refine(E.Z _ z).mono ?_;rintro e w1⟨rfl,B⟩;have l:Xb w w1:=z.trans (B.mono R2);have M:w1.cell? ⟨m,5,none⟩=some u:=(l.cell (p:=⟨m,5,none⟩) T).trans F;refine j.out _ _ trivial (λ_=>?_);clear j;refine wpAnyH_ready (rs:=[4]) RO R2 ?_;refine AllReadyH.cons rfl (λK j=>?_) AllReadyH.nil;go_simp;refine j.out _ _ trivial (λ_=>?_);clear j
 try clear M
 clear d5;obtain⟨g',y,w2,n,⟨v,hv⟩,hz,C⟩:=D.Z w1 l;have J:=bZ C;clear C D E hHeld B l z F;refine wpAnyH_ready (rs:=[7]) RO R2 ?_;refine AllReadyH.cons rfl (λK j=>?_) AllReadyH.nil;refine ja rfl (.tmp 8) (.tmp 10) 106 9 rfl _ _ _ _ rfl rfl n ?_;simp only[Act.put,ar,Xc,Xd];refine j.out _ _ trivial (λ_=>?_);clear j n;refine wpAnyH_ready (rs:=[8]) RO R2 ?_;refine AllReadyH.cons rfl (λK j=>?_) AllReadyH.nil;go_simp;refine j.out _ _ trivial (λ_=>?_);clear j;refine wpAnyH_ready (rs:=[9]) RO R2 ?_;refine AllReadyH.cons rfl (λK j=>?_) AllReadyH.nil;go_simp;refine j.out _ _ trivial (λ_=>?_);clear j;refine wpAnyH_ready (rs:=[10]) RO R2 ?_;refine AllReadyH.cons rfl (λK j=>?_) AllReadyH.nil;go_simp;refine j.out _ _ trivial (λ_=>?_);clear j;refine wpAnyH_done RO ?_ _;go_wp2_with fail
 go_end0
 exact⟨rfl,J.Z⟩
end
section
open Tryz
def MR:(prog.info? 188).map (·.size)=some 2:=RO
def Ov:liesAt prog prog.depth 188 (2 / prog.cellsOf 188) 0 188 1=true:=RO
def uO(w b)(l:w.cell? ⟨b,0,none⟩=some (.pointer (some ⟨b,0,none⟩))):Calls prog 139 #[.pointer (some ⟨b,0,none⟩)] w λe w'=>e=.returned (.tuple #[])/\w'=w:=by
 obtain⟨j,hj,_⟩:=RW.1 MR;go_enter func139,ntmps139;go_wp2;rw[Lib.run_neq_ptr_same w _ underlying186 hj];go_wp2
 go_end0
 exact⟨rfl,rfl⟩
def wF(w b)(n:w.cell? ⟨b,0,none⟩=some (.pointer none))(l:w.shape? b=some (188,2))(p:w.frozen? ⟨b,0,none⟩=false):Calls prog 139 #[.pointer (some ⟨b,0,none⟩)] w λe w'=>e=.returned (.tuple #[])/\w'=w.setCell ⟨b,0,none⟩ (.pointer (some ⟨b,0,none⟩)):=by
 obtain⟨j,hj,m⟩:=RW.1 MR;go_enter func139,ntmps139;go_wp2;rw[Lib.run_to_unsafe w ⟨b,0,none⟩ underlying186 underlying274 hj (by rw[m];decide) l _];simp only[Result.andThen];rw[Oper.upon_value];go_wp2;rw[run_callFunc_extern func188 RO RO RO (e:=Extern.AbiNoEscape.same) RO];rw[Lib.run_noEscape];simp only[Result.andThen];rw[Oper.upon_value];go_wp2;rw[Lib.run_from_unsafe w ⟨b,0,none⟩ underlying274 underlying186 hj l Ov];simp only[Result.andThen];rw[Oper.upon_value];go_wp2
 go_end0
 exact⟨rfl,rfl⟩
def Gv(B b:Nat)(l:a_)(w:QV):Prop:=Lib.IsBuilder 188 5 B b (Lib.byteCells l) w
def wG(B b l w)(h:Gv B b l w):Calls prog 139 #[.pointer (some ⟨b,0,none⟩)] w λe w'=>e=.returned (.tuple #[])/\(Lib.BuilderAt 188 5 B b (.pointer (some ⟨b,0,none⟩)) (Lib.byteCells l) w'/\Below B w w'/\∀k,k≠b->w'.1[k]?=w.1[k]?):=by
 rcases h with h|h
 ·refine(wF w b h.cell0 h.shape h.frozen0).mono ?_;rintro e w'⟨rfl,rfl⟩;exact⟨rfl,h.used _,(Uz B w).setCell (p:=⟨b,0,none⟩) h.1 _,λk j=>UK w ⟨b,0,none⟩ _ k j⟩
 refine(uO w b h.cell0).mono ?_;rintro e w'⟨rfl,rfl⟩;exact⟨rfl,h,Uz B _,λ_ _=>rfl⟩
def oh(B b l s w)(h:Gv B b l w)(h0:0<s.size)(hlen:l.length+s.size<=140737488355328)(h8:8<=B)(J:B<=w.1.size):Calls prog 95 #[.pointer (some ⟨b,0,none⟩),.string s] w λe w'=>e=.returned (.tuple #[.int .i64 s.size,.nilIface])/\Gv B b (l++s.1.1) w'/\Below B w w'/\∀k cs t fz,w.1[k]?=some (.cells cs t fz)->t≠5->k≠b->w'.1[k]?=some (.cells cs t fz):=by
 have hcell:∀l:a_,(Lib.byteCells l).length=l.length:=λl=>by simp[Lib.byteCells]
 have V:∀w1,Lib.BuilderAt 188 5 B b (.pointer (some ⟨b,0,none⟩)) (Lib.byteCells l) w1->Below B w w1->(∀k,k≠b->w1.1[k]?=w.1[k]?)->∃v v' w2,w1.cell? ⟨b,1,none⟩=some v/\(Builtin.append_ #[106,9] 106 #[v,.string s]).run prog w1=.ok v' w2/\(∃g n c,v'=.slice (some g) n c)/\(∃u,w2.cell? ⟨b,1,none⟩=some u)/\w2.frozen? ⟨b,1,none⟩=false/\Gv B b (l++s.1.1) (w2.setCell ⟨b,1,none⟩ v')/\Below B w (w2.setCell ⟨b,1,none⟩ v')/\∀(k:Nat) (cs:Array Xa) (t:TypeId) (fz:Nat×Nat),w.1[k]?=some (.cells cs t fz)->t≠5->k≠b->(w2.setCell ⟨b,1,none⟩ v').1[k]?=some (.cells cs t fz):=by
  rintro w1⟨I,v,y,E,Z⟩ m ab;obtain⟨i0,X,ad,ai,ak⟩:=UJ Hx;obtain⟨v',w2,F,D,z,_⟩:=Lib.run_append_own_string (P:=prog) w1 B 106 9 106 5 i0 underlying106 underlying9 X ad ai ak v _ _ E s (by rw[hcell];unfold maxLen;omega) (by rw[hcell];omega) (ah J m.size);have r:=(z.block b (cj y) (λe=>Z e.symm)).trans y;have U:Lib.byteCells l++Lib.strCells s=Lib.byteCells (l++s.1.1):=by simp[Lib.byteCells,Lib.strCells]
  have Y:(Lib.byteCells l).length+s.size=(Lib.byteCells (l++s.1.1)).length:=by rw[hcell,hcell,aj];rfl
  rw[U,Y]at D;refine⟨v,v',w2,by simp[World.cell?,y],F,?_,⟨v,by simp[World.cell?,r]⟩,by simp[World.frozen?,r],?_,?_,?_⟩
  ·obtain⟨g,G,h1,_⟩:=D.form (by rw[hcell,aj];have:s.1.1.length=s.size:=R2;omega);exact⟨_,_,_,h1⟩
  ·exact .inr (Lib.BuilderAt.put I r D RZ)
  ·refine(m.trans ((Uz B w1).grown z (ah J m.size) (λk j=>?_))).setCell (p:=⟨b,1,none⟩) I _;rcases E.2 with⟨rfl,_⟩|⟨g,G,R,rfl,K,_⟩
   ·cases j
   cases j;exact K
  intro k cs t fz j ht M;refine(UK w2 ⟨b,1,none⟩ v' k M).trans ?_;have C:=(ab k M).trans j;refine(z.block k (cj C) (λe=>?_)).trans C;rcases E.2 with⟨rfl,_⟩|⟨g,G,R,rfl,K,L,_⟩
  ·cases e
  cases e;rw[C]at L;cases L;exact ht rfl
 have N:=bZ (wG B b l w h);have O:=bZ V;go_enter func95,ntmps95;go_wp2_with fail;refine N.Z.mono ?_;rintro e w1⟨rfl,h1,S,aa⟩;obtain⟨v,v',w2,c1,F,⟨g,n,c,rfl⟩,⟨u,hu⟩,hz,T⟩:=O.Z w1 h1 S aa;have Q:=bZ T;go_wp2_with(at_builtin;refine cY _ rfl _ _ _ _ rfl _ _ _ _ rfl rfl F ?_);go_ret2;exact⟨rfl,Q.Z⟩
end
section
open bY
open Tryz
variable{l:a_}{x:ba}
attribute [local go_sem] yx yz yA
def lF(h:x.1.1=l):str l=.string x:=by
 subst h;exact dF x
def dD(a b:ba):(a++b).1.1=a.1.1++b.1.1:=R2
def yW(l):(⟨l.toArray⟩:ba).1.1=l:=R2
def size_mk(l:a_):(⟨l.toArray⟩:ba).size=l.length:=by show l.toArray.size=_;simp
def tw(h:x.1.1=l):Ending.returned (.string x)=.returned (str l):=by rw[lF h]
def wH(w L th q n)(h:fc w L th q)(g:G w)(S:n.size<=200):Calls prog 60 #[ptr q,.string n] w λe w'=>e=.returned (str (dU n.1.1 th))/\Xb w w':=by
 obtain⟨v,r,k,hb,_,R,J,_⟩:=h;have P:w.cell? ⟨q,0,none⟩=some v:=by simp[World.cell?,hb]
 have c1:w.cell? ⟨q,1,none⟩=some r:=by simp[World.cell?,hb]
 have c2:w.cell? ⟨q,2,none⟩=some (.string ⟨th.came.toArray⟩):=by simp[World.cell?,hb,str]
 unfold ptr;clear hb;rcases J with⟨h1,rfl,u,_⟩|⟨t,a,h1,rfl,rfl,_⟩
 ·have z:dU n.1.1 th=[112,117,116,32]++n.1.1++32 :: wr 3 th.value:=by unfold dU;rw[h1]
  rw[z];clear z;have E:=Hh u;rcases u.fP with⟨j,b,rfl,hj⟩|⟨d,b,rfl,hb⟩|⟨M,B,N,O,T,b,rfl,F,K,h2,I⟩
  ·rw[b,rK]at E ⊢;have hz:=size_mk (Lib.itoa j);obtain⟨x,hx⟩:∃x:ba,(⟨(Lib.itoa j).toArray⟩:ba)=x:=⟨_,rfl⟩;have m:x.1.1=Lib.itoa j:=Ss;rw[hx]at hz;have C:=bZ hx;have p:=bZ (iA j w g hj.1 hj.2);clear hx u b h1;go_enter func60,ntmps60;go_wp2_with fail;refine p.Z.mono ?_;rw[C.Z];rintro e w2⟨rfl,y⟩;go_wp2_with fail;go_ret;exact⟨tw (by simp[dD,m]),y⟩
  ·rw[b,pA]at E ⊢;have hz:=size_mk (39 :: (d.1.1++[39]));obtain⟨x,hx⟩:∃x:ba,(⟨(39 :: (d.1.1++[39])).toArray⟩:ba)=x:=⟨_,rfl⟩;have m:x.1.1=39 :: (d.1.1++[39]):=Ss;rw[hx]at hz;have C:=bZ hx;have p:=bZ (lx d w RM);clear hx u b h1;go_enter func60,ntmps60;go_wp2_with fail;refine p.Z.mono ?_;rw[C.Z];rintro e w2⟨rfl,y⟩;go_wp2_with fail;go_ret;exact⟨tw (by simp[dD,m]),y⟩
  obtain rfl:M=2:=RM;rw[b]at E ⊢;have D:=kQ 2 RM B N O w g F ⟨K,I⟩ h2;have hz:=size_mk (wr 3 (vl B));obtain⟨x,hx⟩:∃x:ba,(⟨(wr 3 (vl B)).toArray⟩:ba)=x:=⟨_,rfl⟩;have m:x.1.1=wr 3 (vl B):=Ss;rw[hx]at hz;rw[show(⟨(wr (2+1) (vl B)).toArray⟩:ba)=x from hx]at D;obtain⟨U,Q,rfl⟩:=F.len;have p:=bZ D;clear D u I F hx b h1;go_enter func60,ntmps60;go_wp2_with fail;refine p.Z.mono ?_;rintro e w2⟨rfl,y⟩;go_wp2_with fail;go_ret;exact⟨tw (by simp[dD,m]),y⟩
 have z:dU n.1.1 th=[115,101,116,32]++n.1.1++32 :: th.came:=by unfold dU;rw[h1]
 rw[z];clear z;have hz:=size_mk th.came;obtain⟨x,hx⟩:∃x:ba,(⟨th.came.toArray⟩:ba)=x:=⟨_,rfl⟩;have m:x.1.1=th.came:=Ss;rw[hx]at hz c2;clear hx h1;go_enter func60,ntmps60;go_wp2_with fail;go_ret;exact⟨tw (by simp[dD,m]),Uz _ _⟩
end
section
open bY
open Tryz
namespace Ref
variable{l:a_}{x:ba}
def hx(n i:Nat):a_:=(List.range i).map λj=>jY (n / 16^(i-1-j)%16)
def L_(n i):hx n (i+1)=jY (n / 16^i%16) :: hx n i:=by
 unfold hx;rw[List.range_succ_eq_map,Qg,P8]
 congr 1
 refine Qu (λj hj=>?_);show jY (n / 16^(i+1-1-(j+1))%16)=_;rw[show i+1-1-(j+1)=i-1-j by omega]
def NP(d)(h:d<16):(⟨#[48,49,50,51,52,53,54,55,56,57,97,98,99,100,101,102]⟩:ba).extract d (d+1)=⟨#[jY d]⟩:=by
 have:∀d:Fin 16,(⟨#[48,49,50,51,52,53,54,55,56,57,97,98,99,100,101,102]⟩:ba).extract d.val (d.val+1)=⟨#[jY d.val]⟩:=RZ;exact this ⟨d,h⟩
def Ma(a l):(⟨#[a]⟩++⟨l.toArray⟩:ba)=⟨(a :: l).toArray⟩:=by
 apply ByteArray.ext;simp
def JB(s w)(hs:s.size<=1000000000000000000):Calls prog 195 #[.string s] w λe w'=>e=.returned (str (wv (jN s.1.1)))/\w'=w:=by
 go_enter func195,ntmps195;go_wp2_with fail
 go_loop [3,4] (λn i=>∃k:Nat,k<=s.size/\i=.int .i64 k/\n=.int .u32 (jN (s.1.1.take k):Int)) (λ_ i=>s.size-(intOf i).toNat)
 case atStart=>exact⟨0,au _,rfl,rfl⟩
 case round =>
  obtain⟨k,u,rfl,rfl⟩:=hrel;by_cases p:k<s.size
  ·go_wp2_with fail;refine⟨⟨k+1,by omega,by go_num,by rw[xe s k p]⟩,?_⟩;simp[intOf];omega
  have e:s.1.1.take k=s.1.1:=Qb R5;rw[e];have B:=uv s.1.1;generalize j:jN s.1.1=n at B;have r:=bZ j;clear j;have y:¬(k:Int)<(s.size:Int):=RM;clear e;go_wp2_with fail
  go_loop [3,5,6] (λh o i=>∃k:Nat,k<=8/\i=.int .i64 k/\h=.int .u32 ((n / 16^k:Nat):Int)/\o=.string ⟨(hx n k).toArray⟩) (λ_ _ i=>8-(intOf i).toNat)
  case atStart=>exact⟨0,au _,rfl,by simp,rfl⟩
  case round =>
   obtain⟨k,u,rfl,rfl,rfl⟩:=hrel;by_cases p:k<8
   ·have F:(hx n k).length<=8:=by unfold hx;simp;omega
    have y:(k:Int)<8:=RM;obtain⟨m,b⟩:∃m,n / 16^k=m:=⟨_,rfl⟩;have E:m<=n:=by rw[<-b];exact Nat.div_le_self _ _
    have C:hx n (k+1)=jY (m%16) :: hx n k:=by rw[L_,b]
    have z:n / 16^(k+1)=m / 16:=by rw[RA,<-Nat.div_div_eq_div_mul,b]
    have D:=NP (m%16) (Ra _ RZ);rw[b];go_wp2_with fail;refine⟨⟨k+1,by omega,by go_num,by rw[z];rfl,by rw[C,Ma]⟩,?_⟩;simp[intOf];omega
   obtain rfl:k=8:=RM;go_wp2_with fail;go_ret;rw[r.Z];exact⟨rfl,rfl⟩
def fG(h:str l=.string x):x.1.1=l:=by
 unfold str at h;cases h;rfl
def xT(s w)(hs:s.size<=1000000000000000000):Calls prog 148 #[.string s] w λe w'=>e=.returned (str (bY.line s.1.1))/\w'=w:=by
 obtain⟨x,hx⟩:∃x:ba,str (wv (jN s.1.1))=.string x:=⟨_,rfl⟩;have n:x.size=8:=by rw[UB,fG hx];simp[wv]
 have b:=bZ (JB s w hs);rw[hx]at b;have j:Hid (str (bY.line s.1.1)=.string (s++⟨#[32]⟩++x++⟨#[10]⟩)):=bZ (by
  apply lF;rw[dD,dD,dD,fG hx];unfold bY.line;simp)
 clear hx;have h1:(s++⟨#[32]⟩:ba).size=s.size+1:=by exact P3
 have h2:(s++⟨#[32]⟩++x:ba).size=s.size+9:=by rw[P3,h1,n]
 have p:(⟨#[10]⟩:ba).size=1:=rfl;have r:(⟨#[32]⟩:ba).size=1:=rfl;go_enter func148,ntmps148;go_wp2_with fail;refine b.Z.mono ?_;rintro e w1⟨rfl,m⟩;obtain rfl:=m.symm;dsimp only;go_wp2_with fail;go_ret;exact⟨by rw[j.Z];rfl,rfl⟩
end Ref
end
