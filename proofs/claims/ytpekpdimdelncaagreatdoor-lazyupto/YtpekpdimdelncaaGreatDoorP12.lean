/- Out of U8. -/
import Derived.Test.YtpekpdimdelncaaGreatDoorP11
import Derived.Deep.RegionHeld3
import Derived.BigQuiet
set_option linter.unusedSimpArgs false
set_option linter.unusedVariables false
set_option maxRecDepth 100000
set_option maxHeartbeats 4000000
set_option linter.defProp false
namespace Go.Proofs.YtpekpdimdelncaaGreatDoor
open Go.RowKit Go.Shelf
section
open Tryz
variable{v:Xb}{m:List Xb}
def nH(w:Xa)(base:Nat)(v:Xb)(m:List Xb):Prop :=(v=.slice none 0 0/\m=[]) \/∃(g b:Nat) (e:Array Xb),v=.slice (some ⟨g,0,none⟩) m.length b/\base<=g/\w.1[g]?=some (.cells e 111 (0,0))/\m.length<=b/\b<=maxLen/\e.size=b/\e.toList=m++List.replicate (b-m.length) .nilIface
def nH.row{w:Xa}{base:Nat}(h:nH w base v m):gm w v m:=by
 rcases h with h|⟨g,b,e,h1,h2,j,l,p,r,n⟩
 ·exact .inl h
 refine .inr ⟨g,b,e,(0,0),h1,l,j,by omega,λi hi=>?_⟩;rw[<-Sc,n,aP hi]
def nH.own{w:Xa}{base:Nat}(h:nH w base v m):w.ownsRow base 111 1 v m.length m:=by
 rcases h with⟨rfl,rfl⟩|⟨g,b,e,h1,h2,j,l,n,r,p⟩
 ·exact⟨rfl,.inl ⟨rfl,rfl⟩⟩
 exact⟨by simp,.inr ⟨g,b,e,h1,h2,j,l,n,by omega,by rw[p,Rh,Sd]⟩⟩
def nH.same{w w':Xa}{base:Nat}(h:nH w base v m)(n:cT w w'):nH w' base v m:=by
 rcases h with h|⟨g,b,e,h1,h2,j,l⟩
 ·exact .inl h
 exact .inr ⟨g,b,e,h1,h2,n _ _ _ _ j (.inl rfl),l⟩
def not_nil{w:Xa}{n:Nat}{v:bY.V}:¬cZ w n v .nilIface:=λh=>by
 obtain⟨t,a,h⟩:=h.one;cases h
def cZ.mT{w w':Xa}{g:Nat}{m:List Xb}{z j:Array Xb}{k:Nat}(T:w.grownBy w' (some g))(h1:w.1[g]?=some (.cells z 111 (0,0)))(h2:z.toList=m++List.replicate k .nilIface)
  (R:w'.1[g]?=some (.cells j 111 (0,0))) (h4:z.size<=j.size) (S:∀i,i<m.length->j[i]?=m[i]?):∀{n:Nat}{v:bY.V}{x:Xb},cZ w n v x->cZ w' n v x:=by
 intro n
 induction n with
 |zero=>intro v x h;exact h
 |succ n Y =>
  intro v x h;rcases h with h|⟨l,s,D,N,O,B,V,Q,J⟩
  ·exact .inl h
  refine .inr ⟨l,s,D,N,O,?_,V,Q,λi u y hu p=>Y (J i u y hu p)⟩;rcases B with B|⟨b,E,M,P,K,L,r,Z,C⟩
  ·exact .inl B
  by_cases F:b=g
  ·subst F;rw[h1]at r;cases r;have aa:D.length<=m.length:=by
    rcases Ro _ _ with I|U
    ·exfalso;obtain⟨y,p⟩:∃y,D[m.length]?=some y:=⟨_,aq I⟩;obtain⟨u,hu⟩:∃u,l[m.length]?=some u:=⟨_,aq R5⟩;have G:=C _ I;rw[<-Sc,h2,aX (af _),p,Nat.sub_self]at G;have X:y=.nilIface:=by
      have:=aJ G;exact(List.mem_replicate.1 this).2
     subst X;exact not_nil (J _ _ _ hu p)
    exact U
   refine .inr ⟨b,E,j,(0,0),K,L,R,by omega,λi hi=>?_⟩;rw[S i R5,<-C i hi,<-Sc,h2,aP R5]
  exact .inr ⟨b,E,M,P,K,L,(T.block b (cj r) (λe=>F TD)).trans r,Z,C⟩
theorem AY{w:Xa}(t ty)(L:prog.underlying t=some (.slice 111))(base v m)(h:nH w base v m)(p c y)(hy:w.cell? (p.add 0)=some y)(h1:y.oneCell'=true)(hn:m.length<=1000)(aa:base<=w.1.size):∃E F,(Builtin.append_ #[t,t] ty #[v,.slice (some p) 1 c]).run prog w=.ok E F/\nH F base E (m++[y])/\w.grownBy F v.ownBlock/\(E.ownBlock=v.ownBlock\/E.ownBlock=some w.1.size)/\(∀n u x,cZ w n u x->cZ F n u x):=by
 obtain⟨M,G,U,r,V⟩:=VW t_;have K:∀j u,[y][j]?=some u->w.cell? (p.add j)=some u:=λj u I=>by
  grind
 have am:∀u∈[y],u.oneCell'=true:=λu hu=>by rw[Q_]at hu;subst hu;exact h1
 have av:∀k,(Builtin.zeroCells (Value.nilIface).cells k).toList=List.replicate k .nilIface:=λk=>by
  apply Se;intro j;by_cases I:j<k
  ·simp[Builtin.zeroCells,Value.cells,I,Nat.mod_one]
  simp[Builtin.zeroCells,Value.cells,I]
 have Y:∀z,nH (w.drew.alloc (.cells (m.toArray++[y].toArray++Builtin.zeroCells (Value.nilIface).cells (grownCap w (m.length+1) z 111-(m.length+1))) 111)) base (.slice (some ⟨w.1.size,0,none⟩) (m.length+1) (grownCap w (m.length+1) z 111)) (m++[y]):=λz=>by
  have P:=grownCap_ge w (m.length+1) z 111;have R:=V5 w (m.length+1) z 111 Th;generalize grownCap w _ z 111=cp at P R;refine .inr ⟨w.1.size,cp,_,by simp,aa,heap_alloc_new w.drew _,by simpa using P,R,?_,?_⟩
  ·simp[size_zeroCells,Value.cells];omega
  grind
 have X:∀o row,w.grownBy (w.drew.alloc o) row:=λo row=>⟨rfl,rfl,rfl,by simp,λk J _=>heap_alloc_old w.drew _ J⟩;have Z:∀o n u x,cZ w n u x->cZ _ n u x:=λo n u x hx=>hx.keeps (cT.below (((VM _ w).drew).alloc (af _) o));rcases h with⟨rfl,rfl⟩|⟨g,b,B,rfl,N,D,ak,O,ab,C⟩
 ·have l:=run_append_nil (P:=prog) w t ty 111 M .nilIface L G U p 1 c [y] TT K R5 R5 (by rw[V];omega);have S:=Y 0;simp only[Ra,aG,Rz]at S ⊢;refine⟨_,_,l,?_,X _ _,.inr rfl,Z _⟩;simpa using S
 by_cases ao:m.length+1<=b
 ·have l:=V0 (P:=prog) w t ty 111 M L G g _ b B D p 1 c [y] TT K am ao (by rw[r];simp;omega);rw[r,Rh]at l;have ap:B.toList.take m.length=m:=by rw[C,Sd]
  have ai:B.toList.drop (m.length+[y].length)=List.replicate (b-(m.length+1)) .nilIface:=by
   rw[C,List.drop_append];simp[aT];omega
  rw[ap,ai]at l;have T:=setRow_heap w g B (m++[y]++List.replicate (b-(m.length+1)) Value.nilIface).toArray 111 (0,0) D;have Q:w.grownBy (w.setRow g (m++[y]++List.replicate (b-(m.length+1)) Value.nilIface).toArray) _:=⟨rfl,rfl,rfl,by simp,λk _ J=>setRow_other w g k _ (λe=>J TJ)⟩;refine⟨_,_,l,.inr ⟨g,b,_,by simp,N,T,by simp;omega,O,by simp;omega,by simp⟩,Q,.inl rfl,λn u x hx=>cZ.mT Q D C T Tc (λi hi=>?_) hx⟩;rw[List.getElem?_toArray,RU,aP hi]
 have holds:∀j u,m[j]?=some u->w.cell? _=some u:=(nH.own (.inr ⟨g,b,B,rfl,N,D,ak,O,ab,C⟩)).cells (g:=g) rfl;have l:=run_append_grow (P:=prog) w t ty 111 M .nilIface L G U ⟨g,0,none⟩ _ b m (by rw[r,Rh]) holds p 1 c [y] TT K R5 R5 (growslice_fits R5 (by rw[V];omega));exact⟨_,_,l,Y b,X _ _,.inr rfl,Z _⟩
end
section
open bY
open Tryz
variable{l:Array Oper}{a v:Xb}{Q:Exit->Act->Xa->Prop}{ys:List Xb}{E:Env}{F F':Nat->Prop}{acc:List V}{e:Ending}
def my{w:Xa}{rest:List Oper}{o:Oper}{a:Act}(D:o.guard=none)(s x t)(L:prog.underlying t=some (.slice 111))(I:o.op=.call {callee:=.builtin .append,args:=#[s,x],argTypes:=#[t,t]})(base v ys)(K:a.eval s=v)(h:nH w base v ys)(m c y)(hx:a.eval x=.slice (some m) 1 c)(M:w.cell? (m.add 0)=some y)(h1:y.oneCell'=true)(G:ys.length<=1000)(C:base<=w.1.size)(B:∀b j,nH j base b (ys++[y])->w.grownBy j v.ownBlock->(b.ownBlock=v.ownBlock\/b.ownBlock=some w.1.size)->(∀n u x,cZ w n u x->cZ j n u x)->wpList prog l Q rest (a.put o.dst b) j):wpList prog l Q (o::rest) a w:=by
 obtain⟨b,j,J,h2,p,r,z⟩:=AY t o.type L base v ys h m c y M h1 G C;exact Lib.wpList_append_run w D s x t t I v _ K hx b j J (B b j h2 p r z)
structure Lp(E:Env)(F:Nat->Prop)(w:Xa)(a:Xb)(ys:List Xb)(acc:List V)(F':Nat->Prop)(st':Nat×E.σ)(wr:Xa):Prop where
 mT:nH wr w.1.size a ys
 qy:jg wr 3 acc ys
 Z:∀g,a.ownBlock=some g->¬F' g
 st:St E F' st' wr
 tf:∀k,F' k->F k\/w.1.size<=k
 fm:Fm E.base w wr
def nH.lt{w:Xa}{base g:Nat}(h:nH w base v ys)(b:v.ownBlock=some g):g<w.1.size/\base<=g:=by
 rcases h with⟨rfl,_⟩|⟨p,m,n,rfl,h2,j,_⟩
 ·cases b
 cases b;exact⟨cj j,h2⟩
def Lp.start{w:Xa}{st:Nat×E.σ}(h:St E F st w):Lp E F w (.slice none 0 0) [] [] F st w :=⟨.inl ⟨rfl,rfl⟩,⟨rfl,λi u y hu _=>(by simp at hu)⟩,λg b=>(by cases b),h,λk j=>.inl j,Fm.refl _ _⟩
def Lp.worked{j:Nat->Prop}{w wr w3:Xa}{y r:Nat×E.σ}(h:Lp E F w a ys acc F' y wr)(u:St E j r w3)(hF:∀k,j k->F' k\/wr.1.size<=k)(m:Fm E.base wr w3):Lp E F w a ys acc j r w3 :=⟨h.mT.same m.keeps,h.qy.keeps m.keeps,λg p n=>by
  rcases hF g n with b|b
  ·exact h.Z g p b
  ·have:=(h.mT.lt p).1;omega,u,λk n=>by
  rcases hF k n with b|b
  ·exact h.tf k b
  ·exact .inr (ah h.fm.size b),h.fm.trans m⟩
def Lp.below(ok:gD E){w wr w3:Xa}{j:Nat×E.σ}(h:Lp E F w a ys acc F' j wr)(b:Xc wr w3):Lp E F w a ys acc F' j w3 :=h.worked (h.st.below ok b) (λ_ m=>.inl m) (Fm.below b (ah ok.gE (aF h.st.lt)))
theorem Lp.append{E:Env}(ok:gD E){F F':Nat->Prop}{w wr C:Xa}{a B:Xb}{ys:List Xb}{acc:List V}{J:Nat×E.σ}{v:V}{y:Xb}(L:E.rb<w.1.size)(h:Lp E F w a ys acc F' J wr)(R:cZ wr 3 v y)
  (h2:nH C w.1.size B (ys++[y])) (j:wr.grownBy C a.ownBlock) (p:B.ownBlock=a.ownBlock\/B.ownBlock=some wr.1.size) (I:∀n u x,cZ wr n u x->cZ C n u x):Lp E F w B (ys++[y]) (acc++[v]) F' J C:=by
 have P:=ah (ah ok.AX ok.gE) (aF L);refine⟨h2,jg.append ⟨h.qy.1,λi u x hu hx=>I _ _ _ (h.qy.2 i u x hu hx)⟩ ⟨rfl,λi u x hu hx=>?_⟩,λg r=>?_,?_,h.tf,?_⟩
 ·grind
 ·rcases p with p|p
  ·exact h.Z g (p▸r)
  rw[p]at r;cases r;exact λb=>SR _ (ok.Hp _ _ _ _ h.st.inv b).1
 ·cases m:a.ownBlock with
  |none =>
   rw[m]at j;exact h.st.below ok ⟨j.os,j.tape,j.output,j.size,λk b=>j.block k b (λe=>by cases e)⟩
  |some g =>
   rw[m]at j;have r:=h.mT.lt m;refine h.st.grown ok j R5 (h.Z g m) R5 ⟨I,λk D t G b z=>(j.block k (cj b) (λe=>?_)).trans b⟩;cases e;rcases h.mT with⟨rfl,_⟩|⟨O,M,N,rfl,_,K,_⟩
   ·cases m
   cases m;rw[K]at b;cases b;rcases z with h|h<;>cases h
 refine⟨h.fm.eD.trans ((VM E.base wr).grown j (ah ok.gE (aF h.st.lt)) (λk b=>?_)),λk D t G b z=>?_⟩
 ·have:=(h.mT.lt b).2;have:=ok.gE;omega
 refine(j.block k (cj (h.fm.si k D t G b z)) (λe=>?_)).trans (h.fm.si k D t G b z);have:=(h.mT.lt e.symm).2
 grind
def PW.I5(ok:gD E){w wr w2:Xa}{b:Nat×E.σ}(h:Lp E F w a ys acc F' b wr)(u:PL wr (en acc) e w2):(∀v,en acc=.ok v->∃o n c,e=.returned (.slice o n c)/\PW (Ψ E F w (.ok v,b)) (.returned (.iface 248 (.slice o n c))) w2)/\(∀c,en acc=.error c->e=gY c/\PW (Ψ E F w (.error c,b)) (gY c) w2):=by
 obtain⟨m,r,p⟩:=u;have h2:=h.below ok m;refine⟨λv y=>?_,λc j=>?_⟩
 ·obtain⟨o,n,c,rfl,hval⟩:=r v y;exact⟨o,n,c,rfl,.ok v,⟨rfl,F',h2.st,h2.tf,h2.fm⟩,.inl ⟨v,_,rfl,rfl,hval⟩⟩
 have:=vd j;exact⟨p c j,.error c,⟨rfl,F',h2.st,h2.tf,h2.fm⟩,.inr ⟨c,rfl,rfl,this.1,this.2⟩⟩
def pq(E)(ok:gD E)(n)(ih:hU E n)(t it x T F st w)(hlen:t.parts.length<=200)(h0:∀j,j<t.parts.length->iy n it.isSome (t.cM j)=true)(hx:dN w (n+1) t x)(hi:hC w it T)(h:St E F st w):Calls prog 250 #[.pointer (some ⟨E.rb,0,none⟩),x,T] w (PW (Ψ E F w (nF (λu s=>ev E.N n u it s) t.parts [] st))):=by
 obtain⟨b,i,o,m,c,rfl,nd⟩:=hx.node;have hm:=nd.len;obtain⟨c0,_,_,_,c4⟩:=nd.cells w (cT.refl w);have P:=h.lt;have ND:=bZ nd;have IH:=bZ ih;have Z:=bZ hi;have LP:=bZ (Lp.start h);generalize y:nF (λu s=>ev E.N n u it s) _ [] st=J;have X:=bZ y;generalize aC:E.rb=rb at P;have N:=bZ aC;go_enter func250,ntmps250;go_wp2
 go_loopw [7,15] (λa L wr=>∃(k:Nat) (acc:List V) (ys:List Xb) (F':Nat->Prop) (z:Nat×E.σ),k<=m/\L=.int .i64 k/\acc.length<=k/\Hid (Lp E F w a ys acc F' z wr)/\Hid (nF (λu s=>ev E.N n u it s) (t.parts.drop k) acc z=J)) (λ_ L _=>m-(intOf L).toNat)
 case atStart=>exact⟨0,[],[],F,st,ar _,rfl,af _,LP,X⟩
 case round =>
  obtain⟨k,acc,ys,F',z,hk,rfl,a7,LP,M⟩:=hrel;have a9:=LP.Z.qy.1;by_cases a8:k<m
  ·obtain⟨bk,qk,rfl,dk,a4⟩:=ND.Z.cM k R5;have ek:=dk _ LP.Z.fm.keeps;have K:=IH.Z _ it _ _ F' z _ (h0 k R5) (a4.keeps LP.Z.fm.keeps) (Z.Z.keeps LP.Z.fm.keeps) LP.Z.st;have D:=M.Z;have ax:t.parts[k]?=some (t.cM k):=by
    rw[bY.T.cM,aq R5];rfl
   rw[drop_cons ax]at D;have B:jh (ev E.N n (t.cM k) it z) (λv s=>nF (λu s=>ev E.N n u it s) _ _ s)=J:=D;rw[N.Z]at K;generalize ev E.N n _ it z=q at K B;obtain⟨r,a6⟩:=q;have O:=bZ K;cases r with
   |error e1 =>
    have am:=B.symm;subst am;go_wp2_with fail;refine O.Z.mono ?_;rintro e w3 R;have y:=PW.after LP.Z.tf LP.Z.fm R;obtain⟨r3,⟨G,_⟩,⟨v3,y3,p,_⟩|⟨c3,p,rfl,_⟩⟩:=R
    ·rw[G]at p;cases p
    rw[G]at p;cases p;exact⟨rfl,y⟩
   |ok v1 =>
    have aa:=B;go_wp2_with fail;refine O.Z.mono ?_;rintro e w3⟨r3,⟨G,U,a0,ak,av⟩,⟨v3,y3,p,rfl,S⟩|⟨c3,p,rfl,_⟩⟩
    ·rw[G]at p;cases p;have ad:=bZ (LP.Z.worked a0 ak av);obtain⟨t3,C,rfl⟩:=S.one;have HV:=bZ S;have I:=bZ (ad.Z.below ok ((VM _ w3).alloc (af _) (Obj.cells #[.iface t3 C] 111)));have ab:=bZ (HV.Z.keeps (cT.below ((VM _ w3).alloc (af _) (Obj.cells #[.iface t3 C] 111))));have ao:(w3.alloc (Obj.cells #[.iface t3 C] 111)).cell? ((⟨w3.1.size,0,none⟩:Addr).add 0)=some (.iface t3 C):=cell_one_new _ _ _ 0 _ rfl;have a2:=I.Z.fm.size;go_wp2_with(at_builtin;refine my rfl _ _ 247 underlying247 rfl w.1.size _ ys rfl I.Z.mT ⟨w3.1.size,0,none⟩ _ (.iface t3 C) rfl ao rfl R5 a2 ?_;intro v' w5 h2 p h4 h5);have ai:=I.Z.append ok (by rw[N.Z];exact P) ab.Z h2 p h4 h5;exact⟨⟨k+1,acc++[v1],_,U,a6,by omega,by go_num,by simp;omega,ai,aa⟩,by simp[intOf];omega⟩
    rw[G]at p;cases p
  have D:=M.Z;rw[aT R5]at D;have B:J=(en acc,z):=D.symm;have ap:=nE acc _ ys _ LP.Z.mT.row LP.Z.qy R5;have HL:=bZ (ap.mono λe w2 ay=>PW.I5 ok LP.Z ay);obtain⟨oa,ca,rfl⟩:=LP.Z.mT.row.len;generalize en acc=a5 at HL B;subst B;go_wp2_with fail;refine HL.Z.mono ?_;rintro e w2⟨h1,h2⟩;cases a5 with
  |error c =>
   obtain⟨rfl,y⟩:=h2 c rfl;exact⟨rfl,y⟩
  |ok v =>
   obtain⟨o2,n2,c2,rfl,y⟩:=h1 v rfl;have Y:=bZ y;go_wp2;go_ret;exact Y.Z
end
section
open bY
open Tryz
def I6(E)(ok:gD E)(n)(ih:hU E n)(t it x xi F st w)(hlen:t.parts.length=2)(h0:iy n it.isSome (t.cM 0)=true)(h1:iy n true (t.cM 1)=true)(hx:dN w (n+1) t x)(hi:hC w it xi)(h:St E F st w):Calls prog 248 #[.pointer (some ⟨E.rb,0,none⟩),x,xi] w (PW (Ψ E F w (jh (ev E.N n (t.cM 0) it st) λv s=>match eS v with|.ok l=>nF (λu s=>ev E.N n (t.cM 1) (some u) s) l [] s|.error e=>(.error e,s)))):=by
 obtain⟨b,i,o,m,c,rfl,nd⟩:=hx.node;obtain⟨b0,q0,rfl,d0,bg⟩:=nd.cM 0 R5;have U:=ih (t.cM 0) it _ xi F st w h0 bg hi h;have hm:=nd.len;obtain⟨_,_,_,_,c4⟩:=nd.cells w (cT.refl w);have e0:=d0 w (cT.refl w);have bM:(0:Int)<(m:Int):=R5;have ND:=bZ nd;have I:=bZ U;have IH:=bZ ih;clear U nd d0 bg hx ih hi h;generalize ev E.N n (t.cM 0) it st=q at I ⊢;obtain⟨r,L⟩:=q;generalize bd:E.rb=rb at I;have bn:=bZ bd;clear bd;cases r with
 |error S =>
  show Calls _ _ _ _ (PW (Ψ E F w (.error S,L)));go_enter func248,ntmps248;go_wp2_with fail;refine I.Z.mono ?_;rintro e w1⟨r,⟨D,P⟩,⟨v,y,j,rfl,Q⟩|⟨c1,j,rfl,hc⟩⟩
  ·rw[D]at j;cases j
  rw[D]at j;cases j;exact⟨rfl,.error S,⟨rfl,P⟩,.inr ⟨S,rfl,rfl,hc⟩⟩
 |ok v1 =>
  show Calls _ _ _ _ (PW (Ψ E F w (match eS v1 with|.ok l=>nF (λu s=>ev E.N n (t.cM 1) (some u) s) l [] L|.error e=>(.error e,L))));cases X:eS v1 with
  |error c9 =>
   show Calls _ _ _ _ (PW (Ψ E F w (.error c9,L)));have bv:c9=9:=by
    rcases v1 with⟨k|b|l⟩<;>cases X<;>rfl
   subst bv;have M:=bZ X;clear X;go_enter func248,ntmps248;go_wp2_with fail;refine I.Z.mono ?_;rintro e w1⟨r,⟨D,F1,P,hF,N⟩,⟨v,y,j,rfl,Q⟩|⟨c1,j,rfl,hc⟩⟩
   ·rw[D]at j;cases j;have bD:∃t a,y=.iface t a/\(t=215\/t=219):=by
     rcases Q.fY with⟨i,rfl,rfl,_⟩|⟨b,rfl,rfl,_⟩|⟨m2,l2,s2,bk,bC,rfl,rfl,_⟩
     ·exact⟨_,_,rfl,.inr rfl⟩
     ·exact⟨_,_,rfl,.inl rfl⟩
     have:=M.Z;cases this
    obtain⟨t1,a1,rfl,bG⟩:=bD;clear Q I;go_wp2_with fail;refine(lr _ _ _ bG).mono ?_;rintro e Y⟨rfl,rfl⟩;exact⟨rfl,PW.qc ok P hF N (PV.err (VM _ _)) (λc' bt=>by cases bt;omega)⟩
   rw[D]at j;cases j
  |ok l =>
   show Calls _ _ _ _ (PW (Ψ E F w (nF (λu s=>ev E.N n (t.cM 1) (some u) s) l [] L)));have M:=bZ X;clear X;generalize B:nF (λu s=>ev E.N n (t.cM 1) (some u) s) l [] L=T;have a0:=bZ B;clear B;go_enter func248,ntmps248;go_wp2_with fail;refine I.Z.mono ?_;rintro e w1⟨r,⟨D,F1,P,hF,N⟩,⟨v,y,j,rfl,Q⟩|⟨c1,j,rfl,hc⟩⟩
   ·rw[D]at j;cases j;have bx:∃s G,y=.iface 248 s/\gm w1 s G/\jg w1 2 l G/\l.length<=12:=by
     rcases Q.fY with⟨i,rfl,rfl,_⟩|⟨b,rfl,rfl,_⟩|⟨m2,l2,s2,bk,bC,rfl,rfl,j,bw,a6,bH⟩
     ·have:=M.Z;cases this
     ·have:=M.Z;cases this
     have:=M.Z;cases this;obtain rfl:m2=2:=R5;exact⟨s2,bk,rfl,j,⟨bw,bH⟩,a6⟩
    obtain⟨s1,G,rfl,ao,av,a6⟩:=bx;obtain⟨os,cs,rfl⟩:=ao.len;have bL:=av.1;obtain⟨bj,qj,bq,dj,bh⟩:=ND.Z.cM 1 R5;cases bq;have ai:=bZ (λ(w':Xa) (hk:cT w w')=>(ND.Z.cells w' hk).2.2.2.2);have DJ:=bZ dj;have ab:=bZ bh;have aa:=bZ ao;have ad:=bZ av;have bA:=P.lt;have a2:=bZ (Lp.start P);have bN:(1:Int)<(m:Int):=R5;clear Q I ao av dj bh ND M;go_wp2_with(go_at_call 278;refine(pO _ _ _ _).mono ?_;rintro e Y ⟨rfl,rfl⟩)
    go_loopw [7,21] (λa ax wr=>∃(k:Nat) (p:List V) (Z:List Xb) (F':Nat->Prop) (K:Nat×E.σ),k<=G.length/\ax=.int .i64 k/\p.length<=k/\Hid (Lp E F1 Y a Z p F' K wr)/\Hid (nF (λu s=>ev E.N n (t.cM 1) (some u) s) (l.drop k) p K=T)) (λ_ ax _=>G.length-(intOf ax).toNat)
    case atStart=>exact⟨0,[],[],F1,L,ar _,rfl,af _,a2,a0⟩
    case round =>
     clear a2 a0;obtain⟨k,p,Z,F',K,hk,rfl,bJ,LP,HR⟩:=hrel;have bO:p.length=Z.length:=LP.Z.qy.1;have am:=(N.trans LP.Z.fm).keeps;by_cases bB:k<G.length
     ·obtain⟨u,hu⟩:∃u,l[k]?=some u:=⟨_,aq R5⟩;obtain⟨y,hy⟩:∃y,G[k]?=some y:=⟨_,aq bB⟩;obtain⟨bz,rfl,hc⟩:=(aa.Z.keeps LP.Z.fm.keeps).cell hy;have hval:=((ad.Z.2 k u y hu hy).keeps LP.Z.fm.keeps).up;obtain⟨ty,ay,rfl⟩:=hval.one;have ek:=ai.Z _ am;have ej:=DJ.Z _ am;have hw:=IH.Z (t.cM 1) (some u) _ _ F' K _ h1 (ab.Z.keeps am) (.inr ⟨u,rfl,hval⟩) LP.Z.st;have J:=HR.Z;rw[drop_cons hu]at J;have C:jh (ev E.N n (t.cM 1) (some u) K) (λv s=>nF (λu s=>ev E.N n (t.cM 1) (some u) s) (l.drop (k+1)) (p++[v]) s)=T:=J;rw[bn.Z]at hw;generalize ev E.N n (t.cM 1) (some u) K=q at hw C;obtain⟨r,aC⟩:=q;have HW:=bZ hw;have HU:=bZ hval;have bK:(k:Int)<(G.length:Int):=R5;clear hw J HR hval;cases r with
      |error S =>
       have br:T=(.error S,aC):=C.symm;subst br;clear C ai DJ ab IH aa ad;go_wp2_with fail;refine HW.Z.mono ?_;rintro e w3 hp;have B:=PW.after hF N (PW.after LP.Z.tf LP.Z.fm hp);obtain⟨r3,⟨O,_⟩,⟨v3,y3,z,_⟩|⟨c3,z,rfl,_⟩⟩:=hp
       ·rw[O]at z;cases z
       rw[O]at z;cases z;exact⟨rfl,B⟩
      |ok v2 =>
       have bm:Hid (nF (λu s=>ev E.N n (t.cM 1) (some u) s) (l.drop (k+1)) (p++[v2]) aC=T):=C;clear C ai DJ ab IH aa ad;go_wp2_with fail;refine HW.Z.mono ?_;rintro e w3⟨r3,⟨O,F3,bf,a9,bc⟩,⟨v3,y3,z,rfl,ap⟩|⟨c3,z,rfl,_⟩⟩
       ·rw[O]at z;cases z;have a4:=bZ (LP.Z.worked bf a9 bc);obtain⟨t3,R,rfl⟩:=ap.one;have a8:Xc w3 (w3.alloc (Obj.cells #[.iface t3 R] 111)):=(VM _ w3).alloc (af _) _;have ak:=bZ (a4.Z.below ok a8);have bo:=bZ (ap.keeps (cT.below a8));have bu:(w3.alloc (Obj.cells #[.iface t3 R] 111)).cell? ((⟨w3.1.size,0,none⟩:Addr).add 0)=some (.iface t3 R):=cell_one_new _ _ _ 0 _ rfl;have bF:Y.1.size<=(w3.alloc (Obj.cells #[.iface t3 R] 111)).1.size:=ak.Z.fm.size;clear ap bf a9 bc O LP HW a4;go_wp2_with(at_builtin;refine my rfl _ _ 247 underlying247 rfl Y.1.size _ Z rfl ak.Z.mT ⟨w3.1.size,0,none⟩ _ (.iface t3 R) rfl bu rfl R5 bF ?_;intro v' w5 g2 g3 g4 g5);have bp:=ak.Z.append ok bA bo.Z g2 g3 g4 g5;exact⟨⟨k+1,p++[v2],_,F3,aC,by omega,by go_num,by simp;omega,bp,bm⟩,by simp[intOf];omega⟩
       rw[O]at z;cases z
     have J:=HR.Z;rw[aT R5]at J;have C:T=(en p,K):=J.symm;have U:=nE p _ Z _ LP.Z.mT.row LP.Z.qy R5;have HL:=bZ (U.mono λe Y bE=>PW.I5 ok LP.Z bE);obtain⟨oa,ca,rfl⟩:=LP.Z.mT.row.len;clear U J HR ai DJ ab IH aa ad;generalize en p=bI at HL C;subst C;go_wp2_with fail;refine HL.Z.mono ?_;rintro e w4⟨a5,a7⟩;cases bI with
     |error c =>
      obtain⟨rfl,B⟩:=a7 c rfl;exact⟨rfl,PW.after hF N B⟩
     |ok v =>
      obtain⟨o2,n2,c2,rfl,B⟩:=a5 v rfl;have bl:=bZ (PW.after hF N B);clear B a5 a7 HL LP;go_wp2;go_ret;exact bl.Z
   rw[D]at j;cases j
end
def dP{P md b Q S}(i:Nat){e v fuel listed a w}(hi:b[i]?=some e)(hS:S w)(h:wpAnyH P md b Q S fuel (listed.setIfInBounds i true) (a.put e.dst v) w)(r:∀w,S w->(execOp a.eval e).run P w=.ok (.value v) w:=by intro y u;go_simp;try with_reducible rfl)(j:∀c a w,Q (.panic c) (a.put e.dst v) w->Q (.panic c) a w:=by exact λ_ _ _ h=>h)(p:Region.noSelect b=true:=by kernel_rfl)(l:Region.free md b listed i=true:=by kernel_rfl)(n:(Region.ready md b listed).contains i=true:=by kernel_rfl)(m:Region.wanted e (yielded b a.tmps)=true:=by kernel_rfl):wpAnyH P md b Q S (fuel+1) listed a w:=wpAnyH_take hi p l n j (.inl ⟨m,r⟩) hS h
def Fm.own{base g:Nat}{w w2 w':Xa}(h:Fm base w w2)(m:w2.grownBy w' (some g))(r:w.1.size<=g)(p:base<=w.1.size):Fm base w w' :=⟨h.eD.trans ((VM base w2).grown m (ah p h.size) (λk b=>by cases b;omega)),λk j t l b n=>(m.block k (cj (h.si k j t l b n)) (λe=>by cases e;have:=cj b;omega)).trans (h.si k j t l b n)⟩
def I8(E)(ok:gD E)(n)(Y:hU E n)(t it b u y z C F B w)(hlen:t.parts.length=2)(S:bY.iy n it.isSome (t.cM 0)=true)(hx:dN w (n+1) t (.pointer (some ⟨b,0,none⟩)))(hi:hC w it C)(h:St E F B w)(d0:w.1[u]?=some (.cells #[.pointer (some ⟨E.rb,0,none⟩)] 242 (0,0)))(d1:w.1[y]?=some (.cells #[.pointer (some ⟨b,0,none⟩)] 121 (0,0)))(d2:w.1[z]?=some (.cells #[C] 111 (0,0))):Calls Tryz.prog 277 #[.pointer (some ⟨u,0,none⟩),.pointer (some ⟨y,0,none⟩),.pointer (some ⟨z,0,none⟩)] w (PW (Ψ E F w (bY.ev E.N n (t.cM 0) it B))):=by
 obtain⟨b',i,o,m,c,e,nd⟩:=hx.node;cases e;obtain⟨I,q0,rfl,N,V⟩:=nd.cM 0 R5;have J:Xc w w.drew:=(VM _ w).drew;have G:=Fm.below J (ah ok.gE (aF h.lt));have p:=(Y _ it _ C F B w.drew S (V.keeps G.keeps) (hi.keeps G.keeps) (h.below ok J)).mono (λe w3 l=>PW.after (λk U=>.inl U) G l);have hm:=nd.len;have aa:0<m:=R5;have T:=hi.form;have cells:∀w3,Fm E.base w w3->w3.cell? ⟨u,0,none⟩=some (.pointer (some ⟨E.rb,0,none⟩))/\w3.cell? ⟨y,0,none⟩=some (.pointer (some ⟨b,0,none⟩))/\w3.cell? ⟨z,0,none⟩=some C/\w3.cell? ⟨b,4,none⟩=some _/\w3.cell? ⟨I,0,none⟩=some _:=λw3 j=>by
  have f0:=j.si _ _ _ _ d0 (.inr (.inr rfl));have f1:=j.si _ _ _ _ d1 (.inl (.inr (.inr rfl)));have f2:=j.si _ _ _ _ d2 (.inl (.inl rfl));exact⟨by simp[World.cell?,f0],by simp[World.cell?,f1],by simp[World.cell?,f2],(nd.cells w3 j.keeps).2.2.2.2,N w3 j.keeps⟩
 have p:=p.mono (R':=λe w3=>PW _ e w3/\_) (λe w3 l=>⟨l,by
  obtain⟨_,⟨_,_,_,_,j⟩,_⟩:=l;exact cells w3 j⟩)
 obtain⟨d0,d1,d2,Q,R⟩:=cells w (Fm.refl _ _);generalize bY.ev E.N n _ it B=q at p ⊢;generalize E.rb=rb at p d0;have O:=bZ p;rcases T with rfl|⟨tx,ax,rfl⟩
 all_goals
  go_enter Tryz.func277,Tryz.ntmps277;go_wp2_with fail;refine wp_region_held_drew (S:=λr=>r.cell? ⟨u,0,none⟩=some _/\r.cell? ⟨y,0,none⟩=some _/\r.cell? ⟨z,0,none⟩=_/\r.cell? ⟨b,4,none⟩=some _/\r.cell? ⟨I,0,none⟩=some _) S8 ⟨d0,d1,d2,Q,R⟩ (λhHeld=>?_);refine dP 0 rfl Ti ?_;simp only[Act.put,au,Xd,Xe];refine dP 1 rfl Ti ?_;simp only[Act.put,au,Xd,Xe];refine dP 2 rfl Ti ?_;simp only[Act.put,au,Xd,Xe];refine dP 3 rfl Ti ?_;simp only[Act.put,au,Xd,Xe];refine dP 4 rfl Ti ?_;simp only[Act.put,au,Xd,Xe];refine dP 5 rfl Ti ?_;simp only[Act.put,au,Xd,Xe];refine dP 6 rfl Ti ?_;simp only[Act.put,au,Xd,Xe];refine dP 7 rfl Ti ?_;simp only[Act.put,au,Xd,Xe];refine wpAnyH_ready (rs:=[8]) S8 S5 ?_;refine AllReadyH.cons rfl (λK D=>?_) AllReadyH.nil;go_simp;refine O.Z.mono ?_;rintro e w3⟨l,L⟩;have M:=l;obtain⟨r3,_,⟨v3,y3,_,rfl,X⟩|⟨c3,_,rfl,_⟩⟩:=l
  ·obtain⟨t3,Z,rfl⟩:=X.one;have P:=bZ M;refine D.out _ _ L (λ_=>?_);refine wpAnyH_ready (rs:=[9]) S8 S5 ?_;refine AllReadyH.cons rfl (λK D=>?_) AllReadyH.nil;go_simp;refine D.out _ _ L (λ_=>?_);refine wpAnyH_done S8 ?_ _;go_wp2;go_ret;exact P.Z
  exact⟨rfl,M⟩
section
open bY
open Tryz
def lS(w:Xa)(n:Nat)(q:Option (V×a_))(e:Ending)(w':Xa):Prop :=Xc w w'/\((∃v y t a,∃r:ba,q=some (v,r.1.1)/\e=.returned (.tuple #[y,.string r,.bool true])/\y=.iface t a/\cZ w' n v y) \/∃y,∃r:ba,q=none/\e=.returned (.tuple #[y,.string r,.bool false])/\(y=.nilIface\/∃t a,y=.iface t a))
def yj(p):∀(l:a_),l.dropWhile p=l.drop (dJ p l)
 |[]=>rfl
 |c::r=>by
  by_cases h:p c=true
  ·have:=yj p r
   grind [dJ,List.dropWhile_cons]
  grind [dJ,List.dropWhile_cons]
def JR(c):([45,48,49,50,51,52,53,54,55,56,57]:a_).contains c=mP c:=by
 have b:((List.range 256).all λn=>([45,48,49,50,51,52,53,54,55,56,57]:a_).contains (UInt8.ofNat n)==mP (UInt8.ofNat n))=true:=S8;have h:=Rk.1 b c.toNat (SW.2 c.toNat_lt)
 simp_all
def JS(l):Lib.trimLeftS l [45,48,49,50,51,52,53,54,55,56,57]=l.drop (dJ mP l):=by
 unfold Lib.trimLeftS;rw[show(λc=>([45,48,49,50,51,52,53,54,55,56,57]:a_).contains c)=mP from funext JR];exact yj _ l
def zJ(s w):Calls prog 129 #[.string s,.string ⟨#[45,48,49,50,51,52,53,54,55,56,57]⟩] w λe b=>(∃r:ba,e=.returned (.string r)/\r.size=s.size-dJ mP s.1.1)/\Xc w b:=by
 refine b_ (Any.strings_TrimLeft_laid lays161 S8 s ⟨#[45,48,49,50,51,52,53,54,55,56,57]⟩ w S4 (ascii_of_all S4)) λb j=>?_;refine⟨⟨_,rfl,?_⟩,j⟩;have:=JS s.1.1;show(Lib.trimLeftS s.1.1 [45,48,49,50,51,52,53,54,55,56,57]).toArray.size=_
 simp_all
def Bo(a b:UInt8):(a==b)=(b==a):=by
 grind
def iQ(l c):Lib.hasPrefix l [c]=(l.head?==some c):=by
 cases l with
 |nil=>rfl
 |cons d r=>simp[Lib.hasPrefix,List.isPrefixOf,Bo]
def gH(w k):Xc w (w.drewN k):=⟨rfl,rfl,rfl,af _,λ_ _=>rfl⟩
def py(s:ba)(k):(s.extract k s.size).1.1=s.1.1.drop k:=by
 rw[VV,Ri (by rw[aV,VO];exact af _)]
def JT(s:ba)(k):(s.extract 0 k).1.1=s.1.1.take k:=by
 simp_all
def pW(s:ba)(a b)(h:b<=s.size)(e:a<=b):(s.extract a b).size=b-a:=by
 simp_all
theorem Du(s)(n:Nat)(w)(Q:s.size<=281474976710656)(l:s.1.1.head?=some 39):Calls prog 86 #[.string s,.int .i64 n] w (lS w n (tU n s.1.1)):=by
 have B:tU n s.1.1=oY s.1.1:=by unfold tU;rw[ag l]
 have D:Lib.hasPrefix s.1.1 [39]=true:=by rw[iQ,l];rfl
 rw[B];generalize r:lS w n (oY s.1.1)=R;have b:=qK s w R5;cases m:dS s.1.1 with
 |none =>
  rw[m]at b;have b:Calls prog 127 #[.string s] w λe p=>e=.returned (.tuple #[.string ⟨#[]⟩,.bool false])/\p=w:=b;have y:=bZ b;have z:R (.returned (.tuple #[.nilIface,.string ⟨#[]⟩,.bool false])) w:=by
   rw[<-r];refine⟨VM _ _,.inr ⟨_,_,?_,rfl,.inl rfl⟩⟩;unfold oY;rw[m];rfl
  clear b r m l B;go_enter func86,ntmps86;go_wp2_with(first|(go_at_call 126;refine(strings_HasPrefix _ _ _).mono ?_;rintro e p ⟨rfl,rfl⟩;try rw[D])|(go_at_call 127;refine y.Z.mono ?_;rintro e p ⟨rfl,rfl⟩));exact VN (v:=.tuple #[.nilIface,.string ⟨#[]⟩,.bool false]) Ug rfl z
 |some k =>
  rw[m]at b;have M:∃t,s.1.1=39::t/\eN 31 t=some k:=by
   cases hd:s.1.1 with
   |nil=>rw[hd]at l;cases l
   |cons c t =>
    rw[hd]at l m;cases l;exact⟨t,rfl,by simpa[dS]using m⟩
  obtain⟨t,F,E⟩:=M;obtain⟨O,J,K,L⟩:=nA 31 t k E;have N:s.size=t.length+1:=by rw[VO,F];rfl
  obtain⟨j,u⟩:∃j,s.extract 1 (k+1)=j:=⟨_,rfl⟩;have S:j.size=k:=by rw[<-u,pW s 1 (k+1) R5 R5];omega
  have G:j.1.1=(s.1.1.drop 1).take k:=by rw[<-u,VV];rfl
  have b:Calls prog 127 #[.string s] w λe p=>e=.returned (.tuple #[.string j,.bool true])/\p=w:=by rw[<-u];exact b
  have y:=bZ b;have z:∀C,Xc w C->R (.returned (.tuple #[.iface 215 (.string j),.string (s.extract (k+2) s.size),.bool true])) C:=λC I=>by
   rw[<-r];refine⟨I,.inl ⟨vw j.1.1,_,_,_,_,?_,rfl,rfl,cZ.leaf (.inr ⟨j,rfl,rfl,by omega⟩)⟩⟩;unfold oY;rw[m,py,G];rfl
  have P:k+2<=s.size:=R5;clear b r m l B E L K G u F N J;go_enter func86,ntmps86;go_wp2_with(first|(go_at_call 126;refine(strings_HasPrefix _ _ _).mono ?_;rintro e p ⟨rfl,rfl⟩;try rw[D])|(go_at_call 127;refine dL y.Z ?_))
  go_quiet (fail)
  go_wp2;exact VN (v:=.tuple #[.iface 215 (.string j),.string (s.extract (k+2) s.size),.bool true]) Ug rfl (z _ (gH _ _))
theorem Gx(s)(n:Nat)(w)(g:G w)(T:s.size<=281474976710656)(h1:s.1.1.head? ≠ some 39)(h2:s.1.1.head? ≠ some 123):Calls prog 86 #[.string s,.int .i64 n] w (lS w n (tU n s.1.1)):=by
 have M:tU n s.1.1=rdNum s.1.1:=by unfold tU;rw[ae h1,ae h2]
 have Q:Lib.hasPrefix s.1.1 [39]=false:=by rw[iQ];exact az.2 h1
 have S:Lib.hasPrefix s.1.1 [123]=false:=by rw[iQ];exact az.2 h2
 rw[M];generalize p:lS w n (rdNum s.1.1)=R;have K:dJ mP s.1.1<=s.size:=by rw[VO];exact ng _ _
 have hT:=zJ s w;unfold rdNum at p;rw[<-JT]at p;obtain⟨m,L⟩:∃m,dJ mP s.1.1=m:=⟨_,rfl⟩;rw[L]at K hT p;have I:=λ(u:Xa) (j:Xc w u)=>oT (s.extract 0 m) u (g.below j g.size) (by rw[pW s 0 m K R5];omega);have J:∀l,Xc w l->R (.returned (.tuple #[.iface 219 (.int .i64 ((d_ (s.extract 0 m).1.1).getD 0)),.string (s.extract m s.size),.bool (d_ (s.extract 0 m).1.1).isSome])) l:=λl j=>by
  rw[<-p];refine⟨j,?_⟩;cases P:d_ (s.extract 0 m).1.1 with
  |none=>exact .inr ⟨_,_,rfl,rfl,.inr ⟨_,_,rfl⟩⟩
  |some i =>
   have B:=iF _ _ (js P).2;refine .inl ⟨vn i,_,_,_,_,?_,rfl,rfl,cZ.leaf (.inl ⟨i,rfl,rfl,B.1,B.2⟩)⟩;rw[py];rfl
 have F:=bZ hT;have D:=bZ I;have C:=bZ J;clear hT I J p M h1 h2 L;go_enter func86,ntmps86;go_wp2_with(first|(go_at_call 126;refine dL (strings_HasPrefix _ _ _) ?_;try rw[Q];try rw[S]));refine F.Z.mono ?_;rintro e u⟨⟨r,rfl,B⟩,z⟩;have O:s.size-(s.size-m)=m:=R5;have hi:(s.size:Int)-((s.size-m:Nat):Int)=(m:Int):=R5;have E:=bZ (D.Z u z);clear F D;go_wp2_with fail
 try simp only[O,hi]
 refine b_ E.Z λl N=>?_;have j:=z.trans (N.mono z.size);have y:=bZ (λk=>C.Z (l.drewN k) (j.trans ((gH l k).mono j.size)));clear E C;generalize (d_ (s.extract 0 m).1.1).getD 0=x at y ⊢;generalize (d_ (s.extract 0 m).1.1).isSome=b at y ⊢;go_wp2_with fail
 go_quiet (fail)
 go_wp2;exact VN (v:=.tuple #[.iface 219 (.int .i64 x),.string (s.extract m s.size),.bool b]) Ug rfl (y.Z _)
end
section
open bY
open Tryz
variable{v:Xb}{l xs:List Xb}{z:Array Oper}{a:Option Addr}{Q:Exit->Act->Xa->Prop}{p:Nat}{ts:List bY.T}{s:ba}{e:Ending}{x:Nat×Nat}
def kV(w:Xa)(base:Nat)(v:Xb)(l:List Xb):Prop :=(v=.slice none 0 0/\l=[]) \/∃(g b:Nat) (j:Array Xb),v=.slice (some ⟨g,0,none⟩) l.length b/\base<=g/\w.1[g]?=some (.cells j 121 (0,0))/\l.length<=b/\b<=maxLen/\j.size=b/\j.toList=l++List.replicate (b-l.length) (.pointer none)
def kV.own{w:Xa}{base:Nat}(h:kV w base v l):w.ownsRow base 121 1 v l.length l:=by
 rcases h with⟨rfl,rfl⟩|⟨g,b,j,h1,h2,m,n,r,y,u⟩
 ·exact⟨rfl,.inl ⟨rfl,rfl⟩⟩
 exact⟨by simp,.inr ⟨g,b,j,h1,h2,m,n,r,by omega,by rw[u,Rh,Sd]⟩⟩
def kV.same{w w':Xa}{base:Nat}(h:kV w base v l)(r:cT w w'):kV w' base v l:=by
 rcases h with h|⟨g,b,j,h1,h2,m,n⟩
 ·exact .inl h
 exact .inr ⟨g,b,j,h1,h2,r _ _ _ _ m (.inr (.inr rfl)),n⟩
def kV.lt{w:Xa}{base g:Nat}(h:kV w base v l)(b:v.ownBlock=some g):g<w.1.size/\base<=g:=by
 rcases h with⟨rfl,_⟩|⟨r,m,n,rfl,h2,j,_⟩
 ·cases b
 cases b;exact⟨cj j,h2⟩
theorem zL{w:Xa}(t ty)(K:prog.underlying t=some (.slice 121))(base v l)(h:kV w base v l)(n c y)(hy:w.cell? (n.add 0)=some y)(h1:y.oneCell'=true)(hn:l.length<=1000)(Z:base<=w.1.size):∃D M,(Builtin.append_ #[t,t] ty #[v,.slice (some n) 1 c]).run prog w=.ok D M/\kV M base D (l++[y])/\w.grownBy M v.ownBlock/\(D.ownBlock=v.ownBlock\/D.ownBlock=some w.1.size):=by
 obtain⟨L,F,T,r,U⟩:=VW nodeInfo;have J:∀j u,[y][j]?=some u->w.cell? (n.add j)=some u:=λj u G=>by
  grind
 have am:∀u∈[y],u.oneCell'=true:=λu hu=>by rw[Q_]at hu;subst hu;exact h1
 have ax:∀k,(Builtin.zeroCells (Value.pointer none).cells k).toList=List.replicate k (.pointer none):=λk=>by
  apply Se;intro j;by_cases G:j<k
  ·simp[Builtin.zeroCells,Value.cells,G,Nat.mod_one]
  simp[Builtin.zeroCells,Value.cells,G]
 have X:∀B,kV (w.drew.alloc (.cells (l.toArray++[y].toArray++Builtin.zeroCells (Value.pointer none).cells (grownCap w (l.length+1) B 121-(l.length+1))) 121)) base (.slice (some ⟨w.1.size,0,none⟩) (l.length+1) (grownCap w (l.length+1) B 121)) (l++[y]):=λB=>by
  have R:=grownCap_ge w (l.length+1) B 121;have S:=V5 w (l.length+1) B 121 Th;generalize grownCap w _ B 121=Y at R S;refine .inr ⟨w.1.size,Y,_,by simp,Z,heap_alloc_new w.drew _,by simpa using R,S,?_,?_⟩
  ·simp[size_zeroCells,Value.cells];omega
  grind
 have V:∀o row,w.grownBy (w.drew.alloc o) row:=λo row=>⟨rfl,rfl,rfl,by simp,λk I _=>heap_alloc_old w.drew _ I⟩;rcases h with⟨rfl,rfl⟩|⟨g,b,C,rfl,N,E,ak,O,aa,P⟩
 ·have m:=run_append_nil (P:=prog) w t ty 121 L _ K F T n 1 c [y] TT J R5 R5 (by rw[U];omega);have hp:=X 0;simp only[Ra,aG,Rz]at hp ⊢;refine⟨_,_,m,?_,V _ _,.inr rfl⟩
  grind
 by_cases ao:l.length+1<=b
 ·have m:=V0 (P:=prog) w t ty 121 L K F g _ b C E n 1 c [y] TT J am ao (by rw[r];simp;omega);rw[r,Rh]at m;have av:C.toList.take l.length=l:=by grind
  have ab:C.toList.drop (l.length+[y].length)=List.replicate (b-(l.length+1)) (.pointer none):=by
   rw[P,List.drop_append]
   grind [List.drop_eq_nil_of_le]
  rw[av,ab]at m;have ap:=setRow_heap w g C (l++[y]++List.replicate (b-(l.length+1)) (Value.pointer none)).toArray 121 (0,0) E;have ai:w.grownBy (w.setRow g (l++[y]++List.replicate (b-(l.length+1)) (Value.pointer none)).toArray) _:=⟨rfl,rfl,rfl,by simp,λk _ I=>setRow_other w g k _ (λe=>I TJ)⟩;refine⟨_,_,m,.inr ⟨g,b,_,by simp,N,ap,by simp;omega,O,by simp;omega,by simp⟩,ai,.inl rfl⟩
 have holds:∀j u,l[j]?=some u->w.cell? _=some u:=(kV.own (.inr ⟨g,b,C,rfl,N,E,ak,O,aa,P⟩)).cells (g:=g) rfl;have m:=run_append_grow (P:=prog) w t ty 121 L _ K F T ⟨g,0,none⟩ _ b l (by rw[r,Rh]) holds n 1 c [y] TT J R5 R5 (growslice_fits R5 (by rw[U];omega));exact⟨_,_,m,X b,V _ _,.inr rfl⟩
def zM{w:Xa}{rest:List Oper}{o:Oper}{a:Act}(C:o.guard=none)(s x t)(I:prog.underlying t=some (.slice 121))(E:o.op=.call {callee:=.builtin .append,args:=#[s,x],argTypes:=#[t,t]})(base v l)(G:a.eval s=v)(h:kV w base v l)(m c y)(hx:a.eval x=.slice (some m) 1 c)(J:w.cell? (m.add 0)=some y)(h1:y.oneCell'=true)(D:l.length<=1000)(B:base<=w.1.size)(u:∀b j,kV j base b (l++[y])->w.grownBy j v.ownBlock->(b.ownBlock=v.ownBlock\/b.ownBlock=some w.1.size)->wpList prog z Q rest (a.put o.dst b) j):wpList prog z Q (o::rest) a w:=by
 obtain⟨b,j,F,h2,n,r⟩:=zL t o.type I base v l h m c y J h1 D B;exact Lib.wpList_append_run w C s x t t E v _ G hx b j F (u b j h2 n r)
def Gz(w:Xa)(B q)(b:B<=w.1.size):kV (w.alloc (.cells #[.pointer (some q)] 121)) B (.slice (some ⟨w.1.size,0,none⟩) 1 1) [.pointer (some q)] :=.inr ⟨w.1.size,1,#[.pointer (some q)],rfl,b,heap_alloc_new w _,af _,by unfold maxLen;omega,rfl,rfl⟩
def TL(p:Nat)(row:Option Nat)(w:Xa)(ts:List bY.T)(xs:List Xb):Prop :=ts.length=xs.length/\∀(j:Nat) u x,ts[j]?=some u->xs[j]?=some x->∃q,x=.pointer (some q)/\TF p row w u q
def TL.move{row row':Option Nat}{w w':Xa}(h:TL p row w ts xs)(b:KO p row w w')(m:∀k,row'=some k->row=some k\/w.1.size<=k):TL p row' w' ts xs :=⟨h.1,λj u x hu hx=>by obtain⟨q,h1,h2⟩:=h.2 j u x hu hx;exact⟨q,h1,h2.move b m⟩⟩
def TL.one{row:Option Nat}{w:Xa}{t:bY.T}{q:Addr}(h:TF p row w t q):TL p row w [t] [.pointer (some q)] :=⟨rfl,λj u x hu hx=>by
  match j with
  |0=>cases hu;cases hx;exact⟨q,rfl,h⟩
  |j+1=>simp at hu⟩
def TL.append{row:Option Nat}{w:Xa}{us:List bY.T}(h:TL p row w ts xs)(b:TL p row w us l):TL p row w (ts++us) (xs++l):=by
 refine⟨by simp[h.1,b.1],λj u x hu hx=>?_⟩;by_cases m:j<ts.length
 ·rw[aP m]at hu;rw[aP (by have:=h.1;omega)]at hx;exact h.2 j u x hu hx
 rw[aX R5]at hu;rw[aX (by have:=h.1;omega),<-h.1]at hx;exact b.2 _ u x hu hx
theorem TL.slice{w:Xa}(h:TL p v.ownBlock w ts xs)(B:kV w p v xs):qh p none w ts v:=by
 rcases B with⟨rfl,rfl⟩|⟨g,C,D,rfl,h2,b,m,E,F,n⟩
 ·have:=h.1
  grind [List.length_eq_zero_iff.1,qh.nil]
 refine qh.mk (fz:=(0,0)) b h2 (λe=>by cases e) h.1 m R5 (λi hi=>?_) (λj u x hu hx=>?_)
 ·rw[<-Sc,n,aP hi]
 obtain⟨q,r,y⟩:=h.2 j u x hu hx;exact⟨q,r,y.drop⟩
def dF(s:ba)(b m u:Nat)(w:Xa)(r:bY.RT)(e:Ending)(w':Xa):Prop :=w.grownBy w' (some b)/\(∀j ts,r=.ok (j,ts)->(∃a n c,e=.returned (.slice a n c)/\qh w.1.size none w' ts (.slice a n c))/\iI w' s b j m u)/\(∀x,r=.error x->e=refusal x.1 x.2)
def dF.ok{b m r j:Nat}{w w':Xa}(h:dF s b m r w (.ok (j,ts)) e w'):w.grownBy w' (some b)/\(∃a n c,e=.returned (.slice a n c)/\qh w.1.size none w' ts (.slice a n c))/\iI w' s b j m r :=⟨h.1,h.2.1 j ts rfl⟩
def dF.err{b j m:Nat}{w w':Xa}(h:dF s b j m w (.error x) e w'):w.grownBy w' (some b)/\e=refusal x.1 x.2 :=⟨h.1,h.2.2 x rfl⟩
def dF.kP{b m r j:Nat}{w w':Xa}{n c:Nat}(h:w.grownBy w' (some b))(y:iI w' s b j m r)(B:qh w.1.size none w' ts (.slice a n c)):dF s b m r w (.ok (j,ts)) (.returned (.slice a n c)) w' :=⟨h,λk C u=>(by cases u;exact⟨⟨a,n,c,rfl,B⟩,y⟩),λx hx=>TW⟩
def dF.fy{b j r:Nat}{w w':Xa}(h:w.grownBy w' (some b)):dF s b j r w (.error x) (refusal x.1 x.2) w' :=⟨h,λk ts m=>(by cases m),λy n=>(by cases n;rfl)⟩
def qh.lay{w:Xa}(n)(m:xs.length=n)(h:TL p none w ts xs)(j:p<=w.1.size):qh p none (w.alloc (.cells xs.toArray 121)) ts (.slice (some ⟨w.1.size,0,none⟩) n n):=by
 subst m;have b:=h.move (row':=none) (KO.keeps (jB w (.cells xs.toArray 121))) (λk e=>by cases e);exact qh.mk (fz:=(0,0)) (heap_alloc_new w _) j (λe=>by cases e) h.1 (af _) S5 (λi hi=>by simp) b.2
def DE(s y n r u i)(hs:s.size<=200)(I:8<=y)(hi:i<=s.size)(hd:r<=20)(ai:u<=r)(a6:8*(s.size-i)+4<=n)(H:∀m,m<=n->tN s y m 0 89)(w)(g:G w)(h:iI w s y i r u):Calls prog 295 #[.pointer (some ⟨y,0,none⟩)] w (dF s y r u w (if tx s.1.1 i=[125]then .ok (fX s.1.1 i,[])else dh (PT s.1.1 n 0 r u i []) λj ts=>PT s.1.1 n 6 r u j ts)):=by
 by_cases E:tx s.1.1 i=[125]
 ·rw[ag E];have a4:(tx s.1.1 i==[125])=true:=by rw[E];rfl
  go_enter func295,ntmps295;go_wp2_with(go_at_call 313;refine(kF s y i r u _ _ h).mono ?_;rintro e M ⟨rfl,rfl⟩);refine b_ (mM s y i r u _ g h R5 hi) λY ⟨h1,f1⟩=>?_;unfold oO;go_wp2;go_ret;exact dF.kP f1 h1 (qh.nil _ _ _)
 rw[ae E];have a4:(tx s.1.1 i==[125])=false:=by rw[az];exact E
 have h1:=H n (af _) r u i hi hd ai a6;have P:=kS s.1.1 n 0 r u i;rcases hx:PT _ n 0 r u i []with x|⟨j,ts⟩
 ·rw[hx]at h1;show Calls _ _ _ _ _;have S:=bZ h1;go_enter func295,ntmps295;go_wp2_with(go_at_call 313;refine(kF s y i r u _ _ h).mono ?_;rintro e M ⟨rfl,rfl⟩);refine(S.Z _ g h).mono ?_;rintro e Y F;obtain⟨f1,rfl⟩:=dt.err F;exact⟨rfl,dF.fy f1⟩
 rw[hx]at h1;have K:=P j (pX hx) Tt;have a7:j<=s.size:=by simpa using K.2
 have bp:i+1<=j:=by simpa using K.1
 have S:=bZ h1;have HH:=bZ H;have a5:8*(s.size-j)+1<=n:=R5;show Calls _ _ _ _ (dF s y r u w (PT s.1.1 n 6 r u j ts));generalize ad:PT _ n 6 r u j ts=aa;have HF:=bZ ad;have bq:=h.lt;clear hx H h1 P K ad;go_enter func295,ntmps295;go_wp2_with(go_at_call 313;refine(kF s y i r u _ _ h).mono ?_;rintro e M ⟨rfl,rfl⟩);refine(S.Z _ g h).mono ?_;rintro e Y F;obtain⟨f1,⟨q1,t1,rfl,rfl,bg⟩,h1⟩:=dt.ok F;have a0:=bZ bg;go_wp2_with fail;have hB:=f1.size
 go_loopw [3] (λv wr=>∃(xs:List Xb) (ts:List bY.T) (k m:Nat),Hid (kV wr w.1.size v xs)/\Hid (TL w.1.size v.ownBlock wr ts xs)/\iI wr s y k r u/\w.grownBy wr (some y)/\k<=s.size/\8*(s.size-k)+1<=m/\m<=n/\xs.length<=k/\Hid (PT s.1.1 m 6 r u k ts=aa)) (λ_ wr=>s.size-LJ wr y)
 case atStart=>exact⟨_,_,j,n,bZ (Gz Y w.1.size q1 hB),bZ (TL.one (a0.Z.move (KO.keeps (jB _ _)) (λk e=>by cases e;exact .inr (af _)))),h1.alloc _,Fr.alloc f1 _,a7,a5,af _,by simp;omega,HF⟩
 case round =>
  obtain⟨xs,J,k,m,PV,TV,C,B,O,hm,br,bo,HM⟩:=hrel;obtain⟨m,rfl⟩:∃m',m=m'+1:=⟨m-1,by omega⟩;have ay:=bZ (tT C);have hM:=HM.Z;have hT:PT s.1.1 (m+1) 6 r u k J=if tx s.1.1 k=[44]then dh (PT s.1.1 m 0 r u (fX s.1.1 k) []) λj D=>PT s.1.1 m 6 r u j (J++D)else eX s.1.1 [125] k J:=rfl;rw[hT]at hM;by_cases L:tx s.1.1 k=[44]
  ·rw[ag L]at hM;have bc:(tx s.1.1 k==[44])=true:=by rw[L];rfl
   have bt:=gu (nt (l:=s.1.1) (i:=k) (by rw[L];simp));have am:fX s.1.1 k<=s.size:=by have:=fu s.1.1 k Ud;simpa using this
   have h2:=HH.Z m R5 r u (fX s.1.1 k) am hd ai Tk;have P:=kS s.1.1 m 0 r u (fX s.1.1 k);rcases hx:PT s.1.1 m 0 r u (fX s.1.1 k) []with x|⟨k2,D⟩
   ·rw[hx]at h2 hM;have a2:=hM.symm;subst a2;have T:=bZ h2;go_wp2_with(go_at_call 313;refine(kF s y k r u _ _ C).mono ?_;rintro e M ⟨rfl,rfl⟩);refine b_ (mM s y k r u _ (g.fr B I) C R5 O) λZ ⟨V,f2⟩=>?_;unfold oO;go_wp2_with fail;refine(T.Z _ ((g.fr B I).fr f2 I) V).mono ?_;rintro e w3 F;obtain⟨f3,rfl⟩:=dt.err F;exact⟨rfl,dF.fy (Fr.trans (Fr.trans B f2) f3)⟩
   have K:=P k2 (pX hx) (by simpa using am);have a8:k2<=s.size:=by simpa using K.2
   rw[hx]at h2 hM;have T:=bZ h2;have a3:=hM;have aC:=bZ a3;go_wp2_with(go_at_call 313;refine(kF s y k r u _ _ C).mono ?_;rintro e M ⟨rfl,rfl⟩);refine b_ (mM s y k r u _ (g.fr B I) C R5 O) λZ ⟨V,f2⟩=>?_;unfold oO;go_wp2_with fail;refine(T.Z _ ((g.fr B I).fr f2 I) V).mono ?_;rintro e w3 F;obtain⟨f3,⟨q3,t3,rfl,rfl,bh⟩,N⟩:=dt.ok F;have f23:=Fr.trans f2 f3;have bu:=ah B.size f23.size;have ax:=(C.kp f23).trans (jB w3 (.cells #[.pointer (some q3)] 121));have ao:=bZ (PV.Z.same ax);have bj:=bZ ((TV.Z.move (row':=u3.ownBlock) (KO.keeps ax) (λk e=>.inl e)).append (TL.one ((((bh.row (row:=u3.ownBlock) (λk e=>by have:=(PV.Z.lt e).1;have:=f2.size;omega)).mono (lo':=w.1.size) (by have:=B.size;have:=f2.size;omega))).keeps (jB _ _))));go_wp2_with(at_builtin;go_must (refine zM rfl _ _ 261 underlying261 rfl w.1.size _ _ rfl ao.Z ⟨w3.1.size,0,none⟩ 1 (.pointer (some q3)) rfl (cell_one_new _ _ _ 0 _ rfl) rfl R5 Tc ?_);intro v' w4 bd U bf);have ak:∀b,u3.ownBlock=some b->w.1.size<=b:=λb e=>(ao.Z.lt e).2;have ab:iI w4 s y k2 r u:=(N.alloc _).grown U (λe=>by have:=ak y e.symm;omega);have bk:=bj.Z.move (λk _ a9 cs t fz E _=>(U.block k (cj E) (λe=>a9 e.symm)).trans E) (λk e=>by
    rcases bf with h|h
    ·exact .inl (h▸e)
    ·rw[h]at e;cases e;exact .inr (af _))
   refine⟨⟨_,_,k2,m,bZ bd,bZ bk,ab,Fr.grown (Fr.alloc (Fr.trans B f23) _) U ak,a8,by omega,by omega,by simp;omega,aC⟩,?_⟩;rw[tT ab,ay.Z];omega
  rw[ae L]at hM;have bc:(tx s.1.1 k==[44])=false:=by rw[az];exact L
  have HX:=bZ hM;go_wp2_with(go_at_call 313;refine(kF s y k r u _ _ C).mono ?_;rintro e M ⟨rfl,rfl⟩);refine(nu s y k r u ⟨#[125]⟩ _ (g.fr B I) C R5 O).mono ?_;rintro e Z⟨f2,h2,N⟩;have ap:=lz s.1.1 [125] k J;have av:∀k2 D,eX s.1.1 [125] k J=.ok (k2,D)->D=J:=λk2 D h=>by
   unfold eX at h;split at h<;>cases h;rfl
  rw[HX.Z]at ap av;have hX:=ap.symm;rw[hX]at h2 N;rcases aa with x|⟨X,D⟩
  ·have he:=N x rfl;subst he;exact⟨rfl,dF.fy (Fr.trans B f2)⟩
  obtain⟨rfl,h4⟩:=h2 X rfl;have bl:=av X D rfl;subst bl;have R:=TL.slice ((TV.Z.move (row':=u3.ownBlock) (KO.keeps (C.kp f2)) (λk e=>.inl e))) (PV.Z.same (C.kp f2));have hu:∃a nn c,u3=.slice a nn c:=by
   rcases PV.Z with⟨hu,_⟩|⟨gg,bm,bn,hu,_⟩
   ·exact⟨_,_,_,hu⟩
   exact⟨_,_,_,hu⟩
  have HS:=bZ R;go_wp2;go_ret;obtain⟨a,nn,c,hu⟩:=hu;have R:=HS.Z;show dF s y r u w (.ok (X,_)) (.returned u3) Z;rw[hu]at R ⊢;exact dF.kP (Fr.trans B f2) h4 R
end
section
open bY
open Tryz
variable{l:a_}{s:ba}
def fA(l:a_)(n b e k i:Nat):bY.RT :=gM l k i (λj=>PT l n 0 b e j []) (λj=>PT l n 3 b e j []) (λj=>PT l n 0 b (e+1) j []) (λj m=>PT l n 6 b e j m)
def oM{n r e p i j:Nat}{b ts:List bY.T}(m:l=s.1.1)(h:PT l n r e p i b=.ok (j,ts))(hi:i<=s.size):i<=j/\j<=s.size:=Qi m (pX h) hi
theorem ym(l t i):(bY.cD l t i=.error (3,i)/\eX l t i []=.error (3,i))\/∃j,bY.cD l t i=.ok j/\eX l t i []=.ok (j,[]):=by
 grind [bY.cD,eX]
theorem zN(s p n b m i)(hi:i<=s.size)(hd:b<=20)(E:m<=b)(F:8*(s.size-i)+4<=n)(z:tN s p n 3 212)(w)(g:G w)(h:iI w s p i b m):Calls prog 263 #[.pointer (some ⟨p,0,none⟩),.int .i64 5] w (dF s p b m w (fA s.1.1 n b m 5 i)):=by
 have B:fA s.1.1 n b m 5 i=PT s.1.1 n 3 b m i []:=rfl;have h1:=z b m i hi hd E Tk;rw[B];generalize PT s.1.1 n 3 b m i []=r at h1;have y:=bZ h1;clear h1 B z;go_enter func263,ntmps263;go_wp2_with fail;refine(y.Z _ g h).mono ?_;rintro e K u;rcases r with x|⟨j,J⟩
 ·obtain⟨f1,rfl⟩:=dt.err u;exact⟨rfl,dF.fy f1⟩
 obtain⟨f1,⟨I,t1,rfl,rfl,C⟩,h1⟩:=dt.ok u;have D:=bZ C;clear u y C;go_wp2;go_ret;exact dF.kP (Fr.alloc f1 _) (h1.alloc _) (qh.lay 1 rfl (TL.one D.Z) f1.size)
theorem zO(s u n b p i)(M:s.size<=200)(K:8<=u)(hi:i<=s.size)(hd:b<=20)(I:p<=b)(F:8*(s.size-i)+4<=n)(H:∀m,m<=n->tN s u m 0 89)(w)(g:G w)(h:iI w s u i b p):Calls prog 263 #[.pointer (some ⟨u,0,none⟩),.int .i64 6] w (dF s u b p w (fA s.1.1 n b p 6 i)):=by
 have C:fA s.1.1 n b p 6 i=dh (PT s.1.1 n 0 b p i []) (eX s.1.1 [41]):=rfl;have h1:=H n (af _) b p i hi hd I F;have hu:=mX s u i b p ⟨#[41]⟩ w g h R5 K _ h1 (λj L J=>(oM rfl J hi).2);have z:Calls prog 294 #[.pointer (some ⟨u,0,none⟩),.string ⟨#[41]⟩] w (dt s u b p w.1.size w (dh (PT s.1.1 n 0 b p i []) (eX s.1.1 [41]))):=hu;rw[C];generalize dh (PT s.1.1 n 0 b p i []) (eX s.1.1 [41])=r at z;have B:=bZ z;clear h1 C H hu z;go_enter func263,ntmps263;go_wp2_with fail;refine B.Z.mono ?_;rintro e O y;rcases r with x|⟨j,L⟩
 ·obtain⟨f1,rfl⟩:=dt.err y;exact⟨rfl,dF.fy f1⟩
 obtain⟨f1,⟨N,t1,rfl,rfl,D⟩,h1⟩:=dt.ok y;have E:=bZ D;clear y B D;go_wp2;go_ret;exact dF.kP (Fr.alloc f1 _) (h1.alloc _) (qh.lay 1 rfl (TL.one E.Z) f1.size)
theorem DF(s u n b p i)(M:s.size<=200)(K:8<=u)(hi:i<=s.size)(hd:b<=20)(I:p<=b)(F:8*(s.size-i)+4<=n)(H:∀m,m<=n->tN s u m 0 89)(w)(g:G w)(h:iI w s u i b p):Calls prog 263 #[.pointer (some ⟨u,0,none⟩),.int .i64 7] w (dF s u b p w (fA s.1.1 n b p 7 i)):=by
 have C:fA s.1.1 n b p 7 i=dh (PT s.1.1 n 0 b p i []) (eX s.1.1 [93]):=rfl;have h1:=H n (af _) b p i hi hd I F;have hu:=mX s u i b p ⟨#[93]⟩ w g h R5 K _ h1 (λj L J=>(oM rfl J hi).2);have z:Calls prog 294 #[.pointer (some ⟨u,0,none⟩),.string ⟨#[93]⟩] w (dt s u b p w.1.size w (dh (PT s.1.1 n 0 b p i []) (eX s.1.1 [93]))):=hu;rw[C];generalize dh (PT s.1.1 n 0 b p i []) (eX s.1.1 [93])=r at z;have B:=bZ z;clear h1 C H hu z;go_enter func263,ntmps263;go_wp2_with fail;refine B.Z.mono ?_;rintro e O y;rcases r with x|⟨j,L⟩
 ·obtain⟨f1,rfl⟩:=dt.err y;exact⟨rfl,dF.fy f1⟩
 obtain⟨f1,⟨N,t1,rfl,rfl,D⟩,h1⟩:=dt.ok y;have E:=bZ D;clear y B D;go_wp2;go_ret;exact dF.kP (Fr.alloc f1 _) (h1.alloc _) (qh.lay 1 rfl (TL.one E.Z) f1.size)
theorem Bt(s u n b p i)(K:s.size<=200)(J:8<=u)(hi:i<=s.size)(hd:b<=20)(I:p<=b)(F:8*(s.size-i)+4<=n)(H:∀m,m<=n->tN s u m 0 89)(w)(g:G w)(h:iI w s u i b p):Calls prog 263 #[.pointer (some ⟨u,0,none⟩),.int .i64 8] w (dF s u b p w (fA s.1.1 n b p 8 i)):=by
 have C:fA s.1.1 n b p 8 i=if tx s.1.1 i=[125]then .ok (fX s.1.1 i,[])else dh (PT s.1.1 n 0 b p i []) λj y=>PT s.1.1 n 6 b p j y:=rfl;have hu:=DE s u n b p i K J hi hd I F H w g h;rw[C];generalize (if tx s.1.1 i=[125]then .ok (fX s.1.1 i,[])else dh (PT s.1.1 n 0 b p i []) λj y=>PT s.1.1 n 6 b p j y:bY.RT)=r at hu;have B:=bZ hu;clear C H hu;go_enter func263,ntmps263;go_wp2_with fail;refine B.Z.mono ?_;rintro e M z;rcases r with x|⟨j,y⟩
 ·obtain⟨f1,rfl⟩:=dF.err z;exact⟨rfl,dF.fy f1⟩
 obtain⟨f1,⟨a,L,c,rfl,D⟩,h1⟩:=dF.ok z;have E:=bZ D;clear z B D;go_wp2;go_ret;exact dF.kP f1 h1 E.Z
theorem DG(s)(u n b p i k:Nat)(F:k=10\/k=11\/k=12)(Y:s.size<=200)(O:8<=u)(hi:i<=s.size)(hd:b<=20)(S:p<=b)(M:8*(s.size-i)+4<=n)(H:∀m,m<=n->tN s u m 0 89)(w)(g:G w)(h:iI w s u i b p):Calls prog 263 #[.pointer (some ⟨u,0,none⟩),.int .i64 k] w (dF s u b p w (fA s.1.1 n b p k i)):=by
 have J:fA s.1.1 n b p k i=dh (eX s.1.1 [40] i []) λj _=>dh (PT s.1.1 n 0 b p j []) (eX s.1.1 [41]):=by
  rcases F with rfl|rfl|rfl<;>rfl
 have y:=nu s u i b p ⟨#[40]⟩ w g h R5 hi;rw[J];rcases ym s.1.1 [40] i with⟨hx,D⟩|⟨j,hx,D⟩
 all_goals rw[D]
 ·generalize ((3,i):Nat×Nat)=x at hx;show Calls _ _ _ _ (dF s u b p w (.error x));have z:bY.cD s.1.1 (⟨#[40]⟩:ba).1.1 i=.error x:=hx;have B:=bZ y;have C:=bZ z;clear J H y hx z D M;rcases F with rfl|rfl|rfl
  all_goals
   go_enter func263,ntmps263;go_wp2_with fail;refine B.Z.mono ?_;rintro e X⟨f1,_,R⟩;have y:=R x C.Z;subst y;exact⟨rfl,dF.fy f1⟩
 have E:=fP hx S5 Tt;have U:=E.1;have N:j<=s.size:=by simpa using E.2
 have h1:=H n (af _) b p j N hd S Tk;have z:bY.cD s.1.1 (⟨#[40]⟩:ba).1.1 i=.ok j:=hx;have hu:=λw g h=>mX s u j b p ⟨#[41]⟩ w g h R5 O _ h1 (λZ aa T=>(oM rfl T N).2);have K:∀w,G w->iI w s u j b p->Calls prog 294 #[.pointer (some ⟨u,0,none⟩),.string ⟨#[41]⟩] w (dt s u b p w.1.size w (dh (PT s.1.1 n 0 b p j []) (eX s.1.1 [41]))):=hu;show Calls _ _ _ _ (dF s u b p w (dh (PT s.1.1 n 0 b p j []) (eX s.1.1 [41])));generalize dh (PT s.1.1 n 0 b p j []) (eX s.1.1 [41])=r at K;have B:=bZ y;have C:=bZ z;have L:=bZ K;clear J H y hx z D M h1 hu K E U;rcases F with rfl|rfl|rfl
 all_goals
  go_enter func263,ntmps263;go_wp2_with fail;refine B.Z.mono ?_;rintro e X⟨f1,h2,_⟩;obtain⟨rfl,V⟩:=h2 j C.Z;clear h2 B C;go_wp2_with fail;refine(L.Z _ (g.fr f1 O) V).mono ?_;rintro e w2 I;rcases r with x|⟨j,ts⟩
  ·obtain⟨f2,rfl⟩:=dt.err I;exact⟨rfl,dF.fy (Fr.trans f1 f2)⟩
  obtain⟨f2,⟨q1,t1,rfl,rfl,P⟩,h1⟩:=dt.ok I;have Q:=bZ P;clear I L P;go_wp2;go_ret;exact dF.kP (Fr.alloc (Fr.trans f1 f2) _) (h1.alloc _) (qh.lay 1 rfl (TL.one (Q.Z.mono f1.size)) (Fr.trans f1 f2).size)
end
