/- Out of L12. -/
import Derived.Test.YtpekpdimdelncaaGreatDoorP22
set_option linter.unusedVariables false
set_option linter.unusedSimpArgs false
set_option maxRecDepth 100000
set_option maxHeartbeats 1000000
set_option linter.defProp false
namespace Go.Proofs.YtpekpdimdelncaaGreatDoor
open Go.RowKit Go.Shelf
section
open bY
open Tryz
variable{b j hb db:Nat}{k kY:a_}{cs:Array Xa}{fz:Nat×Nat}{l:List (a_×Xa)}{v:Xa}{xs:List Xa}{L:Nat->Prop}{s s':LS}{cm:List (a_×cu)}{done:List (a_×Wo)}
structure Tm(w w':QV)(b:Nat):Prop where
 g:w.grownBy w' (some b)
 was:∃es c,w.1[b]?=some (.map es c)
def Tm.cells{w w':QV}(h:Tm w w' b){k:Nat}{t:TypeId}(m:w.1[k]?=some (.cells cs t fz)):w'.1[k]?=some (.cells cs t fz):=by
 obtain⟨es,c,hb⟩:=h.was;refine(h.g.block k (cj m) (λe=>?_)).trans m;cases e;rw[m]at hb;cases hb
def Tm.stay{w w':QV}(h:Tm w w' b):eH w w':=cK.stay (λk cs t fz e _=>h.cells e)
def Tm.map{w w':QV}{k:Nat}(h:Tm w w' b)(m:fJ w k l)(n:k≠b):w'.1[k]?=w.1[k]? :=h.g.block k m.lt (λe=>n Sv)
def yZ{w w':QV}{n size:Nat}{e:TypeId}(h:w.ownsRow 8 e size v n xs)(m:Tm w w' b):w'.ownsRow 8 e size v n xs :=cD h (λg _ cs fz hc=>m.cells hc)
def Iv{w w':QV}(h:∀k,L k->8<=k/\((∃es c,w.1[k]?=some (.map es c))\/∃cs t fz,w.1[k]?=some (.cells cs t fz)/\LT t))(m:Tm w w' b)(hb:∃es c,w'.1[b]?=some (.map es c)):∀k,L k->8<=k/\((∃es c,w'.1[k]?=some (.map es c))\/∃cs t fz,w'.1[k]?=some (.cells cs t fz)/\LT t):=by
 intro k p;obtain⟨n,h1⟩:=h k p;refine⟨n,?_⟩;by_cases e:k=b
 ·subst e;exact .inl hb
 rcases h1 with⟨es,c,h1⟩|⟨cs,t,fz,h1,h2⟩
 ·exact .inl ⟨es,c,(m.g.block k (Qe.1 h1).1 (λe'=>e (by cases e';rfl))).trans h1⟩
 exact .inr ⟨cs,t,fz,m.cells h1,h2⟩
def pU{α β:Type}(f:α->β):∀{l:List α},l.Nodup->(∀x∈l,∀y∈l,f x=f y->x=y)->(l.map f).Nodup
 |[],_,_=>by simp
 |a :: l,m,hf=>by
  simp only[Qg,QP]at m ⊢;refine⟨λn=>?_,pU f m.2 (λx hx y hy=>hf x (aT _ hx) y (aT _ hy))⟩;obtain⟨b,hb,e⟩:=aH.1 n;exact m.1 (hf b (aT _ hb) a Qa e▸hb)
def tz{α β:Type}(F:α->β)(l:List (a_×α))(k:a_)(a):(bY.put l k a).map (λx=>(x.1,F x.2))=bY.put (l.map λx=>(x.1,F x.2)) k (F a):=by
 have hl:=jz (λx:a_×α=>(x.1,F x.2)) (λ_ x=>F x) (λ_=>rfl) l k;unfold bY.put;rw[hl];cases hx:bY.cr l k with
 |none=>simp
 |some b =>
  simp only[QJ,Rq,aN,P8];refine Qu (λx _=>?_);simp only[QQ];split<;>rfl
def DY{α β:Type}(F:α->β)(l:List (a_×α))(k:a_):(bY.del l k).map (λx=>(x.1,F x.2))=bY.del (l.map λx=>(x.1,F x.2)) k:=by
 unfold bY.del;rw[List.filter_map];rfl
def Ft{α β:Type}(f:a_×α->β){l:List (a_×α)}{a:α}(n:(l.map (·.1)).Nodup)(hf:(l.map f).Nodup)(m:∀x∈l,f x≠f (k,a)):((bY.put l k a).map f).Nodup:=by
 have hl:=qL _ n;unfold bY.put;split
 ·rw[P8];refine pU _ hl (λx hx y hy e=>?_);simp only[QQ]at e;by_cases h1:x.1=k
  ·by_cases h2:y.1=k
   ·exact mD (λz:a_×α=>z.1) n hx hy (h1.trans h2.symm)
   rw[ag SY,ae (by simp[h2])]at e;exact(m y hy e.symm).elim
  by_cases h2:y.1=k
  ·rw[ae SY,ag (by simp[h2])]at e;exact(m x hx e).elim
  rw[ae SY,ae (by simp[h2])]at e;exact mD f hf hx hy e
 rw[aV,Q3];refine⟨hf,by simp,?_⟩;intro x hx y hy e;obtain⟨z,hz,rfl⟩:=aH.1 hx;simp at hy;exact m z hz (e.trans hy)
def LP.tm{w w1:QV}{j:Nat}{s s':LS}{L:Nat->Prop}{hb db:Nat}{m p vn n:Xa}(h:LP w j s L hb db m p vn n){b:Nat}(e:Tm w w1 b)(y:∃es c,w1.1[b]?=some (.map es c))(C:L b)(B:ik w1 L hb s'.cm)(z:ic w1 L db s'.done)
  (e1:s'.b_=s.b_) (e2:s'.cE=s.cE) (r:s'.du=s.du) (u:s'.jr=s.jr):LP w1 j s' L hb db m p vn n :={
  eb:=e.cells h.eb
  here:=h.here
  ne:=h.ne
  cm:=B
  done:=z
  b_:=by rw[e1];exact yZ h.b_ e
  cE:=by rw[e2];exact yZ h.cE e
  du:=by rw[r];exact yZ h.du e
  jr:=by rw[u];exact yZ h.jr e
  dK:=h.dK
  apart:=h.apart
  oq:=by rw[e2];exact h.oq
  ct:=Iv h.ct e y }
def LP.PF{w w1:QV}{m p vn n:Xa}(h:LP w j s L hb db m p vn n)(u:Tm w w1 b)(r:L b)(h':LP w1 j s' L hb db m p vn n):ez w j L s' w1 :=⟨L,⟨hb,db,m,p,vn,n,h'⟩,λk e=>.inl e,λk e=>e,ed.grown u.g r⟩
def LP.PG{w w1:QV}{n r vn p:Xa}(h:LP w j s L hb db n r vn p)(m:Tm w w1 b)(u:L b)(y:hb≠b)(h':LP w1 j s' L hb db n r vn p):cH w j L s' w1:=by
 refine⟨L,⟨hb,db,n,r,vn,p,h'⟩,λk e=>.inl e,λk e=>e,h.Hw h' (ed.grown m.g u) (λk e cs t fz hc B=>m.cells hc) ?_⟩;obtain⟨C,D,z,_⟩:=h.cm;exact m.map z y
def ik.tm{w w':QV}(h:ik w L hb cm)(e:Tm w w' b)(n:hb≠b):ik w' L hb cm:=by
 have m:w'.1[hb]?=w.1[hb]? := by obtain⟨_,_,m,_⟩:=h;exact e.map m n
 exact h.st m (λk _ cs fz hc=>e.cells hc) (λk _ cs t fz hc p=>e.cells hc) e.stay
def ic.tm{w w':QV}(h:ic w L db done)(m:Tm w w' b)(n:db≠b):ic w' L db done:=by
 have e:w'.1[db]?=w.1[db]? := by obtain⟨_,_,e,_⟩:=h;exact m.map e n
 exact h.st e m.stay
def ik.here{w:QV}(h:ik w L hb cm):L hb/\∃es c,w.1[hb]?=some (.map es c):=by
 obtain⟨_,_,e,_,_,_,hl⟩:=h;exact⟨hl,e.isMap⟩
def ic.here{w:QV}(h:ic w L db done):L db/\∃es c,w.1[db]?=some (.map es c):=by
 obtain⟨_,_,e,_,hl⟩:=h;exact⟨hl,e.isMap⟩
def LP.Nl{w:QV}{O Q vn P:Xa}(h:LP w j s L hb db O Q vn P){th:cu}{p:Nat}(N:fc w L th p)(K:∀x q,fc w L x q->(∃k,bY.cr s.cm k=some x/\(Instr.lookup 104 (.map (some hb)) (str k) false).run prog w=.ok (ptr q) w)->q≠p)(J:kY.length<=8)(hlen:s.cm.length<=100):∃w1,(Instr.mapUpdate 104 (.map (some hb)) (str kY) (ptr p)).run prog w=.ok () w1/\ez w j L { s with cm:=bY.put s.cm kY th } w1/\cK w w1/\(∀(k:Nat) (cs) (t) (fz),w.1[k]?=some (.cells cs t fz)->w1.1[k]?=some (.cells cs t fz)):=by
 obtain⟨n,h1,h2,F,y,B,r⟩:=h.cm;have u:(n.map (·.1)).Nodup:=by have:=h2.nodup;rw[P8]at this;exact this
 have R:n.length<=100:=Tt;obtain⟨w1,M,C,I,S⟩:=h2.put underlying104 (k:=kY) R6 (by rw[aG];unfold maxLen;omega) _;have m:Tm w w1 hb:=⟨I,h2.isMap⟩;have G:∀x∈n,x.2.2≠p:=λx hx=>by
  refine K x.2.1 x.2.2 (y x hx) ⟨x.1,?_,?_⟩
  ·rw[h1,oS,uQ u (a:=x.2) (by exact hx)];rfl
  have:=h2.DK underlying104 (k:=x.1) (by have:=B x hx;unfold maxLen;omega) (z:=.pointer none) RO;rw[this,uP,uQ u (a:=x.2) (by exact hx)];rfl
 refine⟨w1,M,h.PF m r (h.tm m C.isMap r ⟨bY.put n kY (th,p),?_,?_,?_,?_,?_,r⟩ (h.done.tm m (λe=>h.ne e.symm)) rfl rfl rfl rfl),λk cs t fz hc _=>m.cells hc,λk cs t fz hc=>m.cells hc⟩
 ·show bY.put s.cm kY th=_;rw[h1];exact(tz (λx:cu×Nat=>x.1) n kY (th,p)).symm
 ·have:=tz (λx:cu×Nat=>ptr x.2) n kY (th,p);rw[this];exact C
 ·exact Ft (λx:a_×(cu×Nat)=>x.2.2) u F G
 ·intro x hx;have E:∀th q,fc w L th q->fc w1 L th q:=λth q D=>by
   obtain⟨_,cs,hc⟩:=D.block;exact D.st ((m.cells hc).trans hc.symm) (λk _ cs t fz hc _=>m.cells hc) m.stay
  rcases ky hx with hx|rfl
  ·exact E _ _ (y x hx)
  exact E _ _ N
 intro x hx;rcases ky hx with hx|rfl
 ·exact B x hx
 exact J
def LP.Np{w:QV}{F I vn G:Xa}(h:LP w j s L hb db F I vn G)(ty)(D:kY.length<=maxLen):∃w1,(Builtin.delete_ #[104,9] ty #[.map (some hb),str kY]).run prog w=.ok (.tuple #[]) w1/\ez w j L { s with cm:=bY.del s.cm kY } w1:=by
 obtain⟨n,h1,h2,z,u,B,p⟩:=h.cm;obtain⟨w1,E,y,C,J⟩:=h2.del underlying104 (k:=kY) (ty:=ty) D;have m:Tm w w1 hb:=⟨C,h2.isMap⟩;have r:∀x,x∈bY.del n kY->x∈n:=λx hx=>(Q5.1 hx).1;refine⟨w1,E,h.PF m p (h.tm m y.isMap p ⟨bY.del n kY,?_,?_,?_,?_,λx hx=>B x (r x hx),p⟩ (h.done.tm m (λe=>h.ne e.symm)) rfl rfl rfl rfl)⟩
 ·show bY.del s.cm kY=_;rw[h1];exact(DY (λx:cu×Nat=>x.1) n kY).symm
 ·have:=DY (λx:cu×Nat=>ptr x.2) n kY;rw[this];exact y
 ·exact((Ry).map _).nodup z
 intro x hx;obtain⟨_,cs,hc⟩:=(u x (r x hx)).block;exact(u x (r x hx)).st ((m.cells hc).trans hc.symm) (λk _ cs t fz hc _=>m.cells hc) m.stay
def LP.Nq{w:QV}{C E vn D:Xa}(h:LP w j s L hb db C E vn D){r:Wo}(hv:g_ w r v)(z:kY.length<=maxLen)(hlen:s.done.length<maxLen):∃w1,(Instr.mapUpdate 105 (.map (some db)) (str kY) v).run prog w=.ok () w1/\cH w j L { s with done:=bY.put s.done kY r } w1/\(∀(k:Nat) (cs) (t) (fz),w.1[k]?=some (.cells cs t fz)->w1.1[k]?=some (.cells cs t fz)):=by
 obtain⟨m,h1,h2,u,n⟩:=h.done;have F:m.length=s.done.length:=Tt;obtain⟨w1,B,p,y,G⟩:=h2.put underlying105 (k:=kY) z (by rw[aG];omega) v;have e:Tm w w1 db:=⟨y,h2.isMap⟩;refine⟨w1,B,h.PG e n h.ne (h.tm e p.isMap n (h.cm.tm e h.ne) ⟨bY.put m kY (r,v),?_,?_,?_,n⟩ rfl rfl rfl rfl),λk cs t fz hc=>e.cells hc⟩
 ·show bY.put s.done kY r=_;rw[h1];exact(tz (λx:Wo×Xa=>x.1) m kY (r,v)).symm
 ·have:=tz (λx:Wo×Xa=>x.2) m kY (r,v);rw[this];exact p
 intro x hx;rcases ky hx with hx|rfl
 ·exact(u x hx).st e.stay
 exact hv.st e.stay
def LP.KY{w:QV}{u z vn y:Xa}(h:LP w j s L hb db u z vn y)(ty):∃w1,(Builtin.clear_ #[105] ty #[.map (some db)]).run prog w=.ok (.tuple #[]) w1/\cH w j L { s with done:=[] } w1/\(∀(k:Nat) (cs) (t) (fz),w.1[k]?=some (.cells cs t fz)->w1.1[k]?=some (.cells cs t fz)):=by
 obtain⟨B,h1,h2,C,m⟩:=h.done;obtain⟨w1,r,n,p,D⟩:=h2.clear underlying105 (ty:=ty);have e:Tm w w1 db:=⟨p,h2.isMap⟩;exact⟨w1,r,h.PG e m h.ne (h.tm e n.isMap m (h.cm.tm e h.ne) ⟨[],rfl,n,λx hx=>by simp at hx,m⟩ rfl rfl rfl rfl),λk cs t fz hc=>e.cells hc⟩
theorem ic.cr{w:QV}(h:ic w L db done)(u:kY.length<=maxLen):(bY.cr done kY=none/\(Instr.lookup 105 (.map (some db)) (str kY) true).run prog w=.ok (.tuple #[.agg #[.int .i64 0,.nilIface],.bool false]) w) \/∃r v,bY.cr done kY=some r/\g_ w r v/\(Instr.lookup 105 (.map (some db)) (str kY) true).run prog w=.ok (.tuple #[v,.bool true]) w:=by
 obtain⟨m,h1,h2,p,B⟩:=h;have n:bY.cr done kY=(bY.cr m kY).map (λx=>x.1):=by
  rw[h1];exact jz (λx:a_×(Wo×Xa)=>(x.1,x.2.1)) (λ_ x=>x.1) (λ_=>rfl) m kY
 have y:=jz (λx:a_×(Wo×Xa)=>(x.1,x.2.2)) (λ_ x=>x.2) (λ_=>rfl) m kY;have e:=h2.cr underlying105 (k:=kY) u (z:=.agg #[.int .i64 0,.nilIface]) RO;rw[y]at e;cases hx:bY.cr m kY with
 |none =>
  rw[hx]at n e;exact .inl ⟨n,e⟩
 |some x =>
  rw[hx]at n e;exact .inr ⟨x.1,x.2,n,p _ (lD hx),e⟩
end
section
open bY
open Tryz
variable{ns:List (a_×Wo)}{sl:Xa}{n:a_×Wo}
def Iw:(prog.info? 133).map (λi=>(i.zero,i.size,i.bytes))=some (some (.agg #[.string ⟨#[]⟩,.int .i64 0,.nilIface]),3,40):=RO
def ee.len{w:QV}(h:ee w ns sl):∃o c,sl=.slice o ns.length c:=by
 obtain⟨o,c,h,_⟩:=h.cell;exact⟨o,c,h⟩
def ee.snoc{w w':QV}{sl':Xa}{x y:Xa}(h:ee w ns sl)(p:eH w w')(u:∀qs:List (Xa×Xa×Xa),w.ownsRow 8 133 3 sl ns.length (qs.flatMap iD)->w'.ownsRow 8 133 3 sl' (ns.length+1) (qs.flatMap iD++[str n.1,x,y]))(r:n.1.length<=200)(z:g_ w n.2 (.agg #[x,y])):ee w' (ns++[n]) sl':=by
 obtain⟨qs,h1,h2,j⟩:=h;refine⟨qs++[(str n.1,x,y)],?_,by simp[h2],λi m q b e=>?_⟩
 ·have:=u qs h1;rw[aj,Qf];simpa[iD]using this
 rcases Qh i ns.length with hi|hi
 ·rw[aU hi]at b;rw[aU RM]at e;exact⟨(j i m q b e).1,(j i m q b e).2.1,(j i m q b e).2.2.st p⟩
 rw[aY hi]at b;rw[aY RM]at e;have l:i-ns.length=0:=by
  have:=(az.1 b).1;simp at this;omega
 rw[l]at b;rw[h2,l]at e;simp at b e;subst b e;exact⟨rfl,r,z.st p⟩
structure Rw(w w':QV)(sl sl':Xa):Prop where
 os:w'.os=w.os
 tape:w'.tape=w.tape
 output:w'.output=w.output
 size:w.1.size<=w'.1.size
 block:∀k,k<w.1.size->sl.ownBlock≠some k->w'.1[k]?=w.1[k]?
 old:∀k,sl.ownBlock=some k->∃cs fz,w'.1[k]?=some (.cells cs 133 fz)
 loc:∀k,sl'.ownBlock=some k->sl.ownBlock=some k\/w.1.size<=k
 stay:eH w w'
def Rw.below{w w':QV}(h:Xb w w')(hs:∀k,sl.ownBlock=some k->∃cs fz,w.1[k]?=some (.cells cs 133 fz)):Rw w w' sl sl :=⟨h.os,h.tape,h.output,h.size,λk b _=>h.block k b,λk b=>by obtain⟨cs,fz,h1⟩:=hs k b;exact⟨cs,fz,(h.block k (cj h1)).trans h1⟩,λk b=>.inl b,eH.below h⟩
def ee.ct{w:QV}(h:ee w ns sl):∀k,sl.ownBlock=some k->∃cs fz,w.1[k]?=some (.cells cs 133 fz):=by
 obtain⟨qs,h1,_⟩:=h;exact λk b=>cz h1 b
def za(w ns sl l)(r:Wo)(x)(g:G w)(h:ee w ns sl)(hn:ns.length<=500)(C:l.size<=200)(hx:g_ w r x):Calls prog 163 #[sl,.string l,x] w λe w'=>∃sl',e=.returned sl'/\ee w' (dW ns l.1.1 r) sl'/\Rw w w' sl sl':=by
 obtain⟨c,y,rfl,hy⟩:=hx.form;obtain⟨o,E,rfl⟩:=h.len;have a3:∀(fn:Fn) (first B:Array Xa) (w:QV),(Instr.makeFunc fn first B).run prog w=.ok (.func fn first B) w:=λ_ _ _ _=>rfl;have L:Xb w ((w.alloc (.cells #[.string l] 9)).alloc (.cells #[.int .i64 c,y] 113)):=((Uz _ _).alloc (af _) _).alloc R2 _;have S:ee ((w.alloc (.cells #[.string l] 9)).alloc (.cells #[.int .i64 c,y] 113)) ns (.slice o ns.length E):=h.st (λk C cs fz hb=>(L.block k (cj hb)).trans hb) (eH.below L);have Q:((w.alloc (.cells #[.string l] 9)).alloc (.cells #[.int .i64 c,y] 113)).cell? ⟨w.1.size,0,none⟩=some (.string l):=Sj;have U:((w.alloc (.cells #[.string l] 9)).alloc (.cells #[.int .i64 c,y] 113)).cell? ⟨w.1.size+1,0,none⟩=some (.int .i64 c):=Sj;have V:((w.alloc (.cells #[.string l] 9)).alloc (.cells #[.int .i64 c,y] 113)).cell? ⟨w.1.size+1,1,none⟩=some y:=Sj;have P:=bZ (λ(w3:QV) (R:Below ((w.alloc (.cells #[.string l] 9)).alloc (.cells #[.int .i64 c,y] 113)).1.size ((w.alloc (.cells #[.string l] 9)).alloc (.cells #[.int .i64 c,y] 113)) w3)=>show w3.cell? ⟨w.1.size,0,none⟩=some (.string l)/\w3.cell? ⟨w.1.size+1,0,none⟩=some (.int .i64 c)/\w3.cell? ⟨w.1.size+1,1,none⟩=some y from⟨(R.cell (p:=⟨w.1.size,0,none⟩) (by show w.1.size<_;simp;omega)).trans Q,(R.cell (p:=⟨w.1.size+1,0,none⟩) (by show w.1.size+1<_;simp)).trans U,(R.cell (p:=⟨w.1.size+1,1,none⟩) (by show w.1.size+1<_;simp)).trans V⟩);have F:=bZ (rX _ ns _ l w.1.size S RM Q);clear Q U V;cases hl:(bY.cr ns l.1.1).isSome with
 |true =>
  have N:dW ns l.1.1 r=ns:=by unfold dW;rw[ag hl]
  rw[N];have K:=bZ (λ(w3:QV) (m:Xb w w3)=>show ee w3 ns (.slice o ns.length E)/\Rw w w3 (.slice o ns.length E) (.slice o ns.length E) from⟨h.st (λk C cs fz hb=>(m.block k (cj hb)).trans hb) (eH.below m),Rw.below m h.ct⟩);rw[hl]at F;clear h hx N hl S;rcases hy with rfl|⟨t,a,rfl⟩
  all_goals
   go_enter func163,ntmps163;go_wp2_with fail;refine F.Z.mono ?_;rintro e w3⟨rfl,m⟩;have hf:=K.Z w3 (L.trans (m.mono R5));clear F K P;go_wp2_with fail;go_ret;exact⟨_,rfl,hf⟩
 |false =>
  have N:dW ns l.1.1 r=ns++[(l.1.1,r)]:=by unfold dW;rw[ae (by simp[hl])]
  rw[N];have K:=bZ (λ(w3:QV) (m:Xb w w3)=>show ∃g' B D,(Builtin.append_ #[129,129] 129 #[.slice o ns.length E,.slice (some ⟨w3.1.size,0,none⟩) 1 1]).run prog (w3.alloc (.cells #[.string l,.int .i64 c,y] 133))=.ok (.slice (some ⟨g',0,none⟩) (ns.length+1) B) D/\ee D (ns++[(l.1.1,r)]) (.slice (some ⟨g',0,none⟩) (ns.length+1) B)/\Rw w D (.slice o ns.length E) (.slice (some ⟨g',0,none⟩) (ns.length+1) B)from by
   have z:Xb w (w3.alloc (.cells #[.string l,.int .i64 c,y] 133)):=m.alloc m.size _;have ak:=h.st (λk C cs fz hb=>(z.block k (cj hb)).trans hb) (eH.below z);have am:=hx.st (eH.below z);obtain⟨qs,O,q2,q3⟩:=ak;have ap:=heap_alloc_new w3 (.cells #[.string l,.int .i64 c,y] 133);obtain⟨g',B,D,T,ho,J,M,hold⟩:=iE 129 129 133 _ 3 40 underlying129 Iw rfl RZ _ ns.length (qs.flatMap iD) O ⟨w3.1.size,0,none⟩ 1 [str l.1.1,.int .i64 c,y] rfl (λj u hj=>by
    rw[addr_add,aI];simp only[World.cell?,ap]
    match j,hj with
    |0,hj=>simp at hj;rw[<-hj,dF];rfl
    |1,hj=>simp at hj;rw[<-hj];rfl
    |2,hj=>simp at hj;rw[<-hj];rfl) (λu hu=>by
    rcases hy with rfl|⟨t,a,rfl⟩<;>(simp at hu;rcases hu with rfl|rfl|rfl<;>rfl)) RM R6 (ah g.size z.size)
   have av:Tn 133 (w3.alloc (.cells #[.string l,.int .i64 c,y] 133)) D (Value.ownBlock (.slice o ns.length E)):=⟨J,λb hb=>cz O hb⟩;have ab:eH _ D:=av.stay (.inr (.inr (.inr (.inr (.inr (.inr rfl))))));refine⟨g',B,D,T,ee.snoc (n:=(l.1.1,r)) ⟨qs,O,q2,q3⟩ ab (λad aa=>?_) (by rw[<-size_data];exact C) am,?_⟩
   ·have:ad.flatMap iD=qs.flatMap iD:=by
     have a1:=O.2;have I:=aa.2;rcases a1 with⟨a1,b1⟩|⟨g1,ax,aC,a1,_,c1,_,_,_,d1⟩
     ·have e1:qs.flatMap iD=[]:=QN (by rw[O.1,b1]);have e2:ad.flatMap iD=[]:=QN (by rw[aa.1,b1]);rw[e1,e2]
     rcases I with⟨I,b2⟩|⟨g2,ay,a0,I,_,c2,_,_,_,d2⟩
     ·rw[I]at a1;cases a1
     rw[a1]at I;cases I;rw[c1]at c2;cases c2;rw[<-d1,<-d2]
    rw[this];exact ho
   ·exact{
     os:=J.os.trans z.os
     tape:=J.tape.trans z.tape
     output:=J.output.trans z.output
     size:=ah z.size J.size
     block:=λk C ao=>(J.block k (aA C z.size) (λe=>ao e.symm)).trans (z.block k C)
     old:=hold
     loc:=λk C=>by
      cases C;rcases M with M|M
      ·exact .inl M
      right;rw[M];exact z.size
     stay:=(eH.below z).trans ab })
  rw[hl]at F;have ai:=bZ L;clear h hx N hl S L;rcases hy with rfl|⟨t,a,rfl⟩
  all_goals
   go_enter func163,ntmps163;go_wp2_with fail;refine F.Z.mono ?_;rintro e w3⟨rfl,m⟩;have X:Xb w w3:=ai.Z.trans (m.mono R5);obtain⟨k0,k1,k2⟩:=P.Z w3 m;obtain⟨g',B,D,T,Y,Z⟩:=K.Z w3 X;have HN:=bZ Y;have HR:=bZ Z;clear F K P Y Z m X;go_wp2_with(at_builtin;refine cY _ rfl _ _ _ _ rfl _ _ _ _ rfl rfl T ?_);go_ret;exact⟨_,rfl,HN.Z,HR.Z⟩
end
section
open bY
def LM:Nat:=50000000
def fN(s:LS):Nat:=(cW s.jr).length+LM*Rs s
structure Rc where
 lb:Nat
 rb:Nat
 b3:Nat
 b7:Nat
 b8:Nat
 l:Nat
 w0:QV
 L0:Nat->Prop
 s0:LS
 lp:Loop
structure CF(c:Rc):Prop where
 loop:c.w0.1[c.l]?=some (.loop c.lp)
 ready:c.lp.state=.ready
 Ow:c.lp.pending=none
 c3:c.w0.1[c.b3]?=some (.cells #[ptr c.lb] 29 (0,0))
 c7:c.w0.1[c.b7]?=some (.cells #[ptr c.rb] 242 (0,0))
 Z:¬c.L0 c.l/\¬c.L0 c.b3/\¬c.L0 c.b7/\¬c.L0 c.b8/\¬c.L0 c.rb
 ne:c.b3≠c.b8/\c.b7≠c.b8/\c.l≠c.b8/\c.l≠c.rb/\c.b3≠c.rb/\c.b7≠c.rb/\c.b8≠c.rb
 lt:c.b8<c.w0.1.size/\c.rb<c.w0.1.size
 ge:8<=c.b8/\8<=c.rb/\8<=c.l
 pD:jI c.w0
 low:∀k,c.L0 k->8<=k
abbrev Sg:Type:=(LS×List (a_×Wo))×Nat
def Ix(b:Nat)(L:Nat->Prop)(w w':QV):Prop :=K2 L w w'/\∀hb,L hb->w.cell? ⟨b,0,none⟩=some (.map (some hb))->w'.cell? ⟨b,0,none⟩=some (.map (some hb))/\w'.1[hb]?=w.1[hb]?
def Ix.refl(b L w):Ix b L w w:=⟨λ_ _ _ _ _ h _=>h,λ_ _ h=>⟨h,rfl⟩⟩
def Ix.same{e:Nat}{L j:Nat->Prop}{w W l:QV}(h:Ix e L w W)(hs:∀k,j k->l.1[k]?=W.1[k]?)(m:∀k,L k->j k)(hl:j e):Ix e L w l :=⟨λk b cs t fz hc n=>(hs k (m k b)).trans (h.1 k b cs t fz hc n),λhb b hc=>⟨(UF (hs e hl)).trans (h.2 hb b hc).1,(hs hb (m hb b)).trans (h.2 hb b hc).2⟩⟩
def Ix.Hw{j:Nat}{L e:Nat->Prop}{w W l:QV}(h:Ix j L w W)(hf:uE j e W l)(m:∀k,L k->e k)(u:∀k,e k->k<W.1.size):Ix j L w l :=⟨λk b cs t fz hc n=>hf.k2 k (m k b) cs t fz (h.1 k b cs t fz hc n) n,λhb b hc=>by
  obtain⟨h1,h2⟩:=h.2 hb b hc;obtain⟨p,r⟩:=hf.Cr hb (u hb (m hb b)) h1;exact⟨p,r.trans h2⟩⟩
def fD.here{w:QV}{b:Nat}{s:LS}{L:Nat->Prop}(h:fD w b s L):L b:=by
 obtain⟨hb,db,e,l,vn,j,h⟩:=h;exact h.here
def JL(c:Rc)(F:Nat->Prop)(σ:Sg)(W:QV):Prop :=∃(L':Nat->Prop) (sl:Xa),F=(λk=>(k<c.w0.1.size/\k≠c.rb)\/L' k\/sl.ownBlock=some k) /\fD W c.lb σ.1.1 L'/\(∀k,L' k->c.L0 k\/c.w0.1.size<=k)/\(∀k,c.L0 k->L' k)/\c.w0.1.size<=W.1.size /\(∀k,k<c.w0.1.size->¬c.L0 k->k≠c.b8->k≠c.rb->W.1[k]?=c.w0.1[k]?) /\W.1[c.b8]?=some (.cells #[sl] 129 (0,0))/\ee W σ.1.2 sl/\(∀g,sl.ownBlock=some g->c.w0.1.size<=g/\¬L' g) /\jg c.s0 σ.1.1 σ.2/\σ.1.2.length<=σ.2/\fN σ.1.1<=fN c.s0/\Ix c.lb c.L0 c.w0 W
def fD.ct{w:QV}{e:Nat}{s:LS}{L:Nat->Prop}(h:fD w e s L):∀k,L k->8<=k/\k<w.1.size/\((∃es c,w.1[k]?=some (.map es c))\/∃cs t fz,w.1[k]?=some (.cells cs t fz)/\LT t):=by
 obtain⟨hb,db,j,m,vn,l,h⟩:=h;exact λk b=>⟨(h.ct k b).1,h.lt b,(h.ct k b).2⟩
def fD.not{w:QV}{j:Nat}{s:LS}{L:Nat->Prop}(h:fD w j s L){k:Nat}{cs:Array Xa}{t:TypeId}{fz:Nat×Nat}(b:w.1[k]?=some (.cells cs t fz))(e:¬LT t):¬L k:=λhl=>by
 rcases(h.ct k hl).2.2 with⟨es,c,h1⟩|⟨cs',t',l,h1,h2⟩
 ·rw[b]at h1;cases h1
 rw[b]at h1;cases h1;exact e h2
def fD.Iy{w:QV}{j:Nat}{s:LS}{L:Nat->Prop}(h:fD w j s L){k:Nat}{o:Obj}(e:w.1[k]?=some o)(h1:∀es c,o≠.map es c)(h2:∀cs t fz,o≠.cells cs t fz):¬L k:=λhl=>by
 rcases(h.ct k hl).2.2 with⟨es,c,b⟩|⟨cs',t',l,b,_⟩
 ·rw[e]at b;cases b;exact h1 _ _ rfl
 rw[e]at b;cases b;exact h2 _ _ _ rfl
def nt:¬LT 291:=by rintro(h|h|h|h|h|h|h)<;>cases h
def nu:¬LT 129:=by rintro(h|h|h|h|h|h|h)<;>cases h
def CG:¬LT 29:=by rintro(h|h|h|h|h|h|h)<;>cases h
def sK:¬LT 242:=by rintro(h|h|h|h|h|h|h)<;>cases h
def qW:¬LT 113:=by rintro(h|h|h|h|h|h|h)<;>cases h
def iG{w w':QV}{b:Nat}(h:w.grownBy w' (some b))(hb:∀cs t fz,w.1[b]?=some (.cells cs t fz)->¬Kx t):eH w w' :=cK.stay (λk cs t fz j l=>(h.block k (cj j) (λe=>by cases e;exact hb cs t fz j l)).trans j)
def pE(W:QV)(l o):W.grownBy (W.putObj l o) (some l):=⟨rfl,rfl,rfl,by simp,λk _ b=>World.putObj_heap_other (λe=>b SA)⟩
def JL.Ad{c:Rc}(ok:CF c):∀F σ w w',JL c F σ w->w.1.size<=w'.1.size->(∀k,F k->w'.1[k]?=w.1[k]?)->eH w w'->JL c F σ w':=by
 rintro F σ w w'⟨L',sl,rfl,h1,h2,e,p,r,u,y,z,B,C,m,n⟩ G hF l;refine⟨L',sl,rfl,h1.st (λk b=>hF k (.inr (.inl b))) l,h2,e,ah p G,λk b E hb j=>(hF k (.inl ⟨b,j⟩)).trans (r k b E hb j),(hF c.b8 (.inl ⟨ok.lt.1,ok.ne.2.2.2.2.2.2⟩)).trans u,?_,z,B,C,m,n.same (λk b=>hF k (.inr (.inl b))) e h1.here⟩;exact y.st (λg D cs fz hb=>(hF g (.inr (.inr D))).trans hb) l
def JL.Gt{c:Rc}(ok:CF c){j y tc ti wc wi:Xa}{f:Nat}:∀F σ w k,JL c F σ w->dO w c.rb j y tc ti f wc wi->F k->k<w.1.size/\k≠c.rb:=by
 rintro F σ w k⟨L',sl,rfl,h1,h2,r,u,z,B,l,m,C⟩ p b;rcases b with⟨b,n⟩|b|b
 ·exact⟨by omega,n⟩
 ·refine⟨(h1.ct k b).2.1,λe=>?_⟩;rw[e]at b;exact h1.not p nt b
 obtain⟨cs,fz,hb⟩:=l.ct k b;have D:=(m k b).1;have:=ok.lt.2;exact⟨cj hb,by omega⟩
def JL.round{c:Rc}(ok:CF c){F:Nat->Prop}{σ:Sg}{W:QV}(hJ:JL c F σ W){I y tc ti wc wi:Xa}{f:Nat}(X:dO W c.rb I y tc ti f wc wi)(g:G W){busy:Loop}:∃(L':Nat->Prop) (sl:Xa),fD (W.putObj c.l (.loop busy)) c.lb σ.1.1 L'/\G (W.putObj c.l (.loop busy))/\jI (W.putObj c.l (.loop busy)) /\W.1[c.l]?=some (.loop c.lp)/\ee W σ.1.2 sl /\∀(r:Wo) (P) (w2) (x i),cH (W.putObj c.l (.loop busy)) c.lb L' P w2->g_ w2 r (.agg #[x,i])->jg σ.1.1 P 1->fN P<=fN σ.1.1 ->(∀o,dO (w2.alloc o) c.rb I y tc ti f wc wi)/\g_ (w2.alloc (.cells #[x,i] 113)) r (.agg #[x,i])/\w2.1[c.b7]?=some (.cells #[ptr c.rb] 242 (0,0)) /\∀l,(w2.alloc (.cells #[x,i] 113)).grownBy l (some c.rb)->dO l c.rb I y x i f wc wi ->G l/\ee l σ.1.2 sl/\g_ l r (.agg #[x,i])/\l.1[c.b8]?=some (.cells #[sl] 129 (0,0))/\l.1[w2.1.size]?=some (.cells #[x,i] 113 (0,0)) /\∀(O:a_) (j) (sl'),ee j (dW σ.1.2 O r) sl'->Rw l j sl sl' ->j.1[c.b8]?=some (.cells #[sl] 129 (0,0))/\(j.setCell ⟨c.b8,0,none⟩ sl').1[c.l]?=some (.loop busy) /\∃F',g_ ((j.setCell ⟨c.b8,0,none⟩ sl').putObj c.l (.loop c.lp)) r (.agg #[x,i])/\dO ((j.setCell ⟨c.b8,0,none⟩ sl').putObj c.l (.loop c.lp)) c.rb I y x i f wc wi /\JL c F' ((P,dW σ.1.2 O r),σ.2+1) ((j.setCell ⟨c.b8,0,none⟩ sl').putObj c.l (.loop c.lp))/\(∀k,F' k->F k\/W.1.size<=k)/\Fm 8 W ((j.setCell ⟨c.b8,0,none⟩ sl').putObj c.l (.loop c.lp)):=by
 obtain⟨L',sl,rfl,h1,h2,R,h3,S,h5,T,U,h8,h9,bg,bh⟩:=hJ;obtain⟨o1,o2,o3,o4,o5⟩:=ok.Z;obtain⟨n1,n2,n3,n4,n5,n6,n7⟩:=ok.ne;obtain⟨e1,e2,e3⟩:=ok.ge;have N:=(S c.l (Qe.1 ok.loop).1 o1 n3 n4).trans ok.loop;have a7:=(Qe.1 N).1;have ak:=pE W c.l (.loop busy);have a4:∀(k:Nat) (cs:Array Xa) (t:TypeId) (fz:Nat×Nat),W.1[k]?=some _->(W.putObj c.l _).1[k]?=some (.cells cs t fz):=λk cs t fz b=>(ak.block k (cj b) (λe=>by cases e;rw[N]at b;cases b)).trans b;have a9:=cK.stay (λk cs t fz b _=>a4 k cs t fz b);have ad:=h1.Iy N (λ_ _ e=>by cases e) (λ_ _ _ e=>by cases e);have V:=h1.st (λk b=>ak.block k (h1.ct k b).2.1 (λe=>by cases e;exact ad b)) a9;have bz:jI W:=by
  have hd:=ok.pD;unfold jI at hd ⊢;rw[<-hd];refine UF (S 7 ?_ (λh=>?_) ?_ ?_)
  ·have:=ok.lt.1;omega
  ·have:=ok.low _ h;omega
  ·omega
  omega
 have ax:Below 8 W (W.putObj c.l (.loop busy)):=⟨rfl,rfl,rfl,by simp,λk b=>World.putObj_heap_other RM⟩;have g1:=g.below ax (af _);refine⟨L',sl,V,g1,bz.below ax (af _),N,T,λr P w2 x i hP ai hN bu=>?_⟩;obtain⟨Q,p1,p2,p3,n⟩:=hP;have bJ:W.1.size<=w2.1.size:=by have:=n.size;simpa using this
 have bq:=h1.not X nt;have bp:=h1.not h5 nu;have a0:=(S c.b7 (cj ok.c7) o3 n2 n6).trans ok.c7;have bo:=h1.not a0 sK;have Z:∀(k:Nat) (cs:Array Xa) (t:TypeId) (fz:Nat×Nat),W.1[k]?=some _->¬L' k->w2.1[k]?=some _:=λk cs t fz b z=>(n.block k (by simpa using cj b) z).trans (a4 k cs t fz b);have E:=Z _ _ _ _ X bq;have a5:=(n.block c.l (by simpa using a7) ad).trans (World.putObj_heap_same a7);have ab:Below _ w2 (w2.alloc (.cells #[x,i] 113)):=(Uz _ _).alloc (af _) _;have bH:=a9.trans (xn V n.toed).stay;refine⟨λo=>(UE w2 o c.rb (cj E)).trans E,ai.keeps (cK.below ab),Z _ _ _ _ a0 bo,λl u bv=>?_⟩;have bk:Below 8 w2 (w2.alloc (.cells #[x,i] 113)):=ab.mono Sz;have aC:dO (w2.alloc (.cells #[x,i] 113)) c.rb I y tc ti f wc wi:=(UE w2 _ c.rb (cj E)).trans E;have bE:=iG u (λcs t fz hb=>by
  rw[dO]at aC;rw[aC]at hb;cases hb;rintro(h|h|h)<;>cases h)
 have av:=(eH.below ab).trans bE;have J:∀k o,w2.1[k]?=some o->k≠c.rb->l.1[k]?=some o:=λk o b D=>by
  have M:=(Qe.1 b).1;exact(u.block k R5 (λe=>D Sv)).trans ((UE w2 _ k M).trans b)
 have g2:=DN V n.toed g1;have g4:G l:=(g2.below bk (af _)).below (B:=8) ((Uz 8 _).grown u (by have:=g2.size;simp;omega) (λk b=>by cases b;exact e2)) (af _);have a2:=Z _ _ _ _ h5 bp;have a3:=J _ _ a2 n7;have bC:∀gk,sl.ownBlock=some gk->∀(cs:Array Xa) (fz:Nat×Nat),W.1[gk]?=some (.cells cs 133 fz)->l.1[gk]?=some (.cells cs 133 fz):=λgk m cs fz hb=>by
  have D:gk≠c.rb:=by have:=(U gk m).1;have:=ok.lt.2;omega
  exact J _ _ (Z _ _ _ _ hb (U gk m).2) D
 have br:=T.st bC (bH.trans av);have bx:l.1[w2.1.size]?=some (.cells #[x,i] 113 (0,0)):=by
  have D:w2.1.size≠c.rb:=by have:=cj E;omega
  exact(u.block w2.1.size R2 (λe=>D (aB e))).trans (heap_alloc_new w2 _)
 refine⟨g4,br,ai.st av,a3,bx,λO j sl' bt p=>?_⟩;have ap:∀gk,sl.ownBlock=some gk->c.w0.1.size<=gk/\gk<W.1.size:=λgk m=>by
  obtain⟨cs,fz,hb⟩:=T.ct gk m;exact⟨(U gk m).1,cj hb⟩
 have bK:w2.1.size+1<=l.1.size:=by have:=u.size;simpa using this
 have K:∀k o,l.1[k]?=some o->sl.ownBlock≠some k->j.1[k]?=some o:=λk o b D=>(p.block k (Qe.1 b).1 D).trans b;have L:∀k,k<c.w0.1.size->sl.ownBlock≠some k:=λk b e=>by have:=(ap k e).1;omega
 have Y:=K _ _ a3 (L _ ok.lt.1);have a6:=K _ _ (J _ _ a5 n4) (L _ (Qe.1 ok.loop).1);have bw:=K _ _ bv (L _ ok.lt.2);have ao:=(UK j ⟨c.b8,0,none⟩ sl' c.l n3).trans a6;refine⟨Y,ao,?_⟩;have bA:=da (UD j (some c.b8)) 0 sl';have bB:=pE (j.setCell ⟨c.b8,0,none⟩ sl') c.l (.loop c.lp);have bF:=iG bA (λcs t fz hb=>by
  rw[Y]at hb;cases hb;rintro(h|h|h)<;>cases h)
 have bG:=iG bB (λcs t fz hb=>by rw[ao]at hb;cases hb);have bd:=bF.trans bG;have aa:∀k o,j.1[k]?=some o->k≠c.b8->k≠c.l->((j.setCell ⟨c.b8,0,none⟩ sl').putObj c.l (.loop c.lp)).1[k]?=some o:=λk o b z hl=>(World.putObj_heap_other hl).trans ((UK j ⟨c.b8,0,none⟩ sl' k z).trans b);have bc:=(av.trans p.stay).trans bd;have bn:=p1.not E nt;have bl:=p1.not a2 nu;have bm:=p1.Iy a5 (λ_ _ e=>by cases e) (λ_ _ _ e=>by cases e);have ay:∀gk,sl.ownBlock=some gk->¬Q gk:=λgk m hl=>by
  rcases p2 gk hl with h|h
  ·exact(U gk m).2 h
  have:=(ap gk m).2;simp at h;omega
 have a8:∀k,Q k->((j.setCell ⟨c.b8,0,none⟩ sl').putObj c.l (.loop c.lp)).1[k]?=w2.1[k]? := λk b=>by
  obtain⟨_,M,_⟩:=p1.ct k b;obtain⟨o,C⟩:∃o,w2.1[k]?=some o:=⟨_,QS M⟩;rw[C];exact aa k o (K k o (J k o C (λe=>bn (e▸b))) (λe=>ay k e b)) (λe=>bl (e▸b)) (λe=>bm (e▸b))
 have bf:W.1.size<=((j.setCell ⟨c.b8,0,none⟩ sl').putObj c.l (.loop c.lp)).1.size:=by
  have:=p.size;simp[World.setCell];omega
 -- what of the old blocks stays
 have hold:∀k o,W.1[k]?=some o->¬L' k->k≠c.b8->k≠c.rb->sl.ownBlock≠some k->((j.setCell ⟨c.b8,0,none⟩ sl').putObj c.l (.loop c.lp)).1[k]?=some o:=λk o b z hb hr hs=>by
  by_cases am:k=c.l
  ·subst am;rw[N]at b;cases b;exact World.putObj_heap_same (Qe.1 ao).1
  have M:=(Qe.1 b).1;have bj:=(n.block k S8 z).trans ((World.putObj_heap_other am).trans b);exact aa k o (K k o (J k o bj hr) hs) hb am
 have bD:Ix c.lb c.L0 c.w0 ((j.setCell ⟨c.b8,0,none⟩ sl').putObj c.l (.loop c.lp)) :=((bh.same (λk b=>ak.block k (h1.ct k b).2.1 (λe=>by cases e;exact ad b)) R h1.here).Hw n R (λk b=>(V.ct k b).2.1)).same a8 (λk b=>p3 k (R k b)) p1.here;refine⟨λk=>(k<c.w0.1.size/\k≠c.rb)\/Q k\/sl'.ownBlock=some k,ai.st bc,aa _ _ bw (λe=>n7 e.symm) (λe=>n4 e.symm),⟨Q,sl',rfl,p1.st a8 bc,λk b=>?_,λk b=>p3 k (R k b),ah h3 bf,λk b z hb hr=>?_,?_,?_,λgk m=>?_,?_,?_,ah bu bg,bD⟩,λk b=>?_,?_⟩
 ·rcases p2 k b with h|h
  ·exact h2 k h
  simp at h;exact .inr RM
 ·rw[<-S k b z hb hr];obtain⟨o,C⟩:∃o,W.1[k]?=some o:=⟨_,QS RM⟩;rw[C];refine hold k o C (λhl=>?_) hb hr (L k b);rcases h2 k hl with h|h
  ·exact z h
  omega
 ·exact(World.putObj_heap_other (λe=>n3 e.symm)).trans (kA Y 0 sl')
 ·exact bt.st (λgk m cs fz hb=>aa _ _ hb (λe=>by rw[e,Y]at hb;cases hb) (λe=>by rw[e,a6]at hb;cases hb)) bd
 ·rcases p.loc gk m with h|h
  ·exact⟨(ap gk h).1,ay gk h⟩
  refine⟨by omega,λhl=>?_⟩;have:=(p1.ct gk hl).2.1;omega
 ·exact h8.trans hN
 ·have:=nr σ.1.2 O r;show(dW σ.1.2 O r).length<=σ.2+1;omega
 ·rcases b with b|b|b
  ·exact .inl (.inl b)
  ·rcases p2 k b with h|h
   ·exact .inl (.inr (.inl h))
   simp at h;exact .inr RM
  rcases p.loc k b with h|h
  ·exact .inl (.inr (.inr h))
  exact .inr RM
 refine⟨⟨?_,?_,?_,bf,λk b=>?_⟩,λk cs t fz b ht=>?_⟩
 ·show j.os=W.os;rw[p.os,u.os];exact n.os
 ·show j.tape=W.tape;rw[p.tape,u.tape];exact n.tape
 ·show j.output=W.output;rw[p.output,u.output];exact n.output
 ·obtain⟨o,C⟩:∃o,W.1[k]?=some o:=⟨_,QS Sz⟩;rw[C];exact hold k o C (λhl=>by have:=(h1.ct k hl).1;omega) RM RM (L k (by have:=ok.lt.1;omega))
 refine hold k _ b (h1.not b (λh=>h.rQ ht)) (λe=>?_) (λe=>?_) (λe=>?_)
 ·rw[e,h5]at b;cases b;rcases ht with(h|h|h)|h|h<;>cases h
 ·rw[dO]at X;rw[e,X]at b;cases b;rcases ht with(h|h|h)|h|h<;>cases h
 obtain⟨cs',bI,hb⟩:=T.ct k e;rw[b]at hb;cases hb;rcases ht with(h|h|h)|h|h<;>cases h
end
