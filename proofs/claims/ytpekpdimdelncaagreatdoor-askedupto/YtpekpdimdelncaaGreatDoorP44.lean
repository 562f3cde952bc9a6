/- Out of Ib. -/
import Derived.Test.YtpekpdimdelncaaGreatDoorP43
import Derived.Deep.SlicePairs
import Derived.OpenShut
set_option linter.unusedVariables false
set_option linter.unusedSimpArgs false
set_option maxRecDepth 100000
set_option maxHeartbeats 4000000
set_option linter.defProp false
namespace Go.Proofs.YtpekpdimdelncaaGreatDoor
open Go.ChangeShapes Go.WideShapes Go.RowKit Go.Deep
section
open Tryz
namespace mK
open Go.RowKit Go.Shelf Ref
def MD{w:QV}{rb:Nat}(h:w.1[rb]?=some (.cells #[.slice none 0 0,.string ⟨#[]⟩,.slice none 0 0,.slice none 0 0,.slice none 0 0,.slice none 0 0] 101 (0,0)))(D:8<=rb):jJ rb bY.LS.new w (λk=>k=rb):=by
 have j:∀{e:TypeId} {m:Nat},w.ownsRow 8 e m (.slice none 0 0) 0 []:=λ{e m}=>⟨by simp,.inl ⟨rfl,rfl⟩⟩;refine⟨[],[],[],_,_,_,_,_,⟨h,rfl,j,rfl,(λi p e E u=>by cases E),j,⟨λk n=>rfl,af _,(λk w n=>by cases n)⟩,j,j,j,λg b=>?_,(λg b=>by cases b),(λe u=>by cases u),List.nodup_nil,λk n=>?_⟩⟩
 ·rcases b with b|b|b|b|b<;>cases b
 subst n;exact⟨D,_,_,_,h,.inl rfl⟩
section
variable {w0 w w':QV} {y:Nat} {ps:List kW} {N:Nat} {o:Nat->Nat} {z C B r vR':Xa} {hs:List (Xa×Nat×Nat)} {H l:Nat->Prop} {lb rb:Nat}
def WP.more(h:WP w0 w y ps N o z C B hs H)(ak:ps.length<1000000)(hf:ed (λk=>k=y\/z.ownBlock=some k\/C.ownBlock=some k) w w')(ad:w'.1[y]?=some (.cells #[r,vR',.int .i64 (N:Int),B,.slice none 0 0,.slice none 0 0] 93 (0,0)))
  (V:w'.ownsRow 8 29 1 r (ps.length+1) (ps.map (λp=>ptr p.lb)++[ptr lb])) (Y:∀g,r.ownBlock=some g->z.ownBlock=some g\/w.1.size<=g)
  (Z:w'.ownsRow 8 102 1 vR' (ps.length+1) (ps.map (λp=>ptr p.rb)++[ptr rb])) (ab:∀g,vR'.ownBlock=some g->C.ownBlock=some g\/w.1.size<=g)
  (X:fD w' lb bY.LS.new l) (I:∀k,l k->w.1.size<=k/\r.ownBlock≠some k/\vR'.ownBlock≠some k) (aa:jJ rb bY.LS.new w' (λk=>k=rb)) (K:w.1.size<=rb/\¬l rb/\r.ownBlock≠some rb/\vR'.ownBlock≠some rb) :
  ∃o',WP w0 w' y (ps++[⟨lb,bY.LS.new,rb,bY.LS.new⟩]) N o' r vR' B hs H:=by
 have hF:Fo (λk=>k=y\/z.ownBlock=some k\/C.ownBlock=some k) w:=by
  refine⟨λk j=>?_,λk j cs t fz hc=>?_⟩
  ·rcases j with rfl|j|j
   ·exact h.w8
   ·exact(UH h.mh k j).1
   exact(UH h.nO k j).1
  rcases j with rfl|j|j
  ·rw[h.hd.eb]at hc;cases hc;exact⟨(λhi=>by rcases hi with hi|hi|hi<;>cases hi),(λn=>by rcases n with n|n<;>cases n)⟩
  ·obtain⟨cs',U,hb⟩:=cz h.mh j;rw[hb]at hc;cases hc;exact⟨(λhi=>by rcases hi with hi|hi|hi<;>cases hi),(λn=>by rcases n with n|n<;>cases n)⟩
  obtain⟨cs',U,hb⟩:=cz h.nO j;rw[hb]at hc;cases hc;exact⟨(λhi=>by rcases hi with hi|hi|hi<;>cases hi),(λn=>by rcases n with n|n<;>cases n)⟩
 have E:∀k,k<w.1.size->1<=o k->w'.1[k]?=w.1[k]? := λk j n=>hf.block k j (λhx=>by
  rcases hx with rfl|hx|hx
  ·have:=h.tW;omega
  ·have:=h.tL k hx;omega
  ·have:=h.tR k hx;omega)
 have P:=hF.below hf h.g.size
 classical
 have D:∀k,k<w.1.size->(if l k then 2*ps.length+2 else if k=rb then 2*ps.length+3 else if w.1.size<=k then 0 else o k)=o k:=λk j=>by
  rw[ae (λh1=>by have:=(I k h1).1;omega),ae RM,ae RM]
 have T:∀k,(w.1.size<=k\/o k=0)->¬l k->k≠rb->(if l k then 2*ps.length+2 else if k=rb then 2*ps.length+3 else if w.1.size<=k then 0 else o k)=0:=λk j h1 h2=>by
  rw[ae h1,ae h2];by_cases F:w.1.size<=k
  ·rw[ag F]
  rw[ae F];rcases j with j|j
  ·exact(F j).elim
  exact j
 have ai:kc w' y r vR' B N hs H:=by
  have O:∀k,H k->w'.1[k]?=w.1[k]? := λk j=>E k (h.hd.ct k j).2.1 (by rw[h.tH k j];omega);refine⟨ad,cD h.hd.row (λg u cs fz hb=>(O g (h.hd.wP g u)).trans hb),λp m=>⟨cD (h.hd.each p m).1 (λg u cs fz hb=>(O g (h.hd.ta p m g u)).trans hb),(h.hd.each p m).2⟩,h.hd.wP,h.hd.ta,λk j=>?_⟩;obtain⟨a,b,c,cs,t,fz,d,e⟩:=h.hd.ct k j;exact⟨a,aA b hf.size,c,cs,t,fz,(O k j).trans d,e⟩
 refine⟨λk=>if l k then 2*ps.length+2 else if k=rb then 2*ps.length+3 else if w.1.size<=k then 0 else o k,⟨ai,h.hlen,by rw[aj,aV];exact V,by rw[aj,aV];exact Z,(D _ (cj h.hd.eb)).trans h.tW,λg u=>?_,λg u=>?_,λk j=>(D k (h.hd.ct k j).2.1).trans (h.tH k j),λi p m=>?_,λi p m=>?_,h.g.below P (af _),h.pD.below P (af _),h.w8,h.eh.trans ⟨hf.os,hf.tape,hf.output,hf.size,λk j=>E k (aA j h.eh.size) (by rw[h.old k j];decide)⟩,λk j=>(D k (aA j h.eh.size)).trans (h.old k j),by rw[aj];show ps.length+1<=_;omega⟩⟩
 ·refine T g ?_ (λh1=>(I g h1).2.1 u) (λe=>K.2.2.1 (e▸u));rcases Y g u with h1|h1
  ·exact .inr (h.tL g h1)
  exact .inl h1
 ·refine T g ?_ (λh1=>(I g h1).2.2 u) (λe=>K.2.2.2 (e▸u));rcases ab g u with h1|h1
  ·exact .inr (h.tR g h1)
  exact .inl h1
 ·by_cases M:i<ps.length
  ·rw[aU M]at m;obtain⟨L,G,Q⟩:=h.prog i p m;exact⟨L,G.st (λk j=>E k (G.ct k j).2.1 (by rw[Q k j];omega)) (hF.keeps hf).stay,λk j=>(D k (G.ct k j).2.1).trans (Q k j)⟩
  rw[aY RM]at m;have e0:i-ps.length=0:=by
   have:=(az.1 m).1;simp at this;omega
  rw[e0]at m;cases m;obtain rfl:i=ps.length:=RM;exact⟨l,X,λk j=>ag j⟩
 by_cases M:i<ps.length
 ·rw[aU M]at m;obtain⟨R,J,S⟩:=h.doc i p m;exact⟨R,jJ.st J (λk j=>E k (J.ct.lt j) (by rw[S k j];omega)) (hF.kn hf),λk j=>(D k (J.ct.lt j)).trans (S k j)⟩
 rw[aY RM]at m;have e0:i-ps.length=0:=by
  have:=(az.1 m).1;simp at this;omega
 rw[e0]at m;cases m;obtain rfl:i=ps.length:=RM;refine⟨_,aa,λk j=>?_⟩;subst j;show(if l k then 2*ps.length+2 else if k=k then 2*ps.length+3 else _)=_;rw[ae K.2.1,ag rfl]
end
def BB{w:QV}{t e:TypeId}(M:prog.underlying t=some (.slice e))(J:(prog.info? e).map (λi=>(i.zero,i.size,i.bytes))=some (some (.pointer none),1,8)){v:Xa}{n:Nat}{xs:List Xa}(L:w.ownsRow 8 e 1 v n xs)(p:Nat)(G:n<=10000000)(I:8<=w.1.size):∃g E w',(Builtin.append_ #[t,t] t #[v,.slice (some ⟨w.1.size,0,none⟩) 1 1]).run prog (w.alloc (.cells #[.pointer (some ⟨p,0,none⟩)] e))=.ok (.slice (some ⟨g,0,none⟩) (n+1) E) w'/\w'.ownsRow 8 e 1 (.slice (some ⟨g,0,none⟩) (n+1) E) (n+1) (xs++[ptr p])/\ed (λk=>v.ownBlock=some k) w w'/\(v.ownBlock=some g\/w.1.size<g):=by
 have b:Xb w (w.alloc (.cells #[.pointer (some ⟨p,0,none⟩)] e)):=(Uz _ w).alloc (af _) _;have K:=heap_alloc_new w (.cells #[.pointer (some ⟨p,0,none⟩)] e);obtain⟨g,E,w',h1,h2,m,D,O⟩:=iE t t e _ 1 8 M J rfl RZ v n xs (cD L (λk F cs fz hb=>(b.block k (cj hb)).trans hb)) ⟨w.1.size,0,none⟩ 1 [ptr p] rfl (λj u hj=>by
  rw[addr_add,aI];simp only[World.cell?,K]
  match j,hj with
  |0,hj=>simp at hj;rw[<-hj];rfl) (λu hu=>by
  simp at hu;rw[hu];rfl) RM R6 (ah I b.size)
 refine⟨g,E,w',h1,h2,⟨m.os.trans b.os,m.tape.trans b.tape,m.output.trans b.output,ah b.size m.size,λk F G=>(m.block k (aA F b.size) (λe=>G e.symm)).trans (b.block k F)⟩,?_⟩;rcases D with D|D
 ·exact .inl D
 right;rw[D];simp
def OZ:(prog.info? 29).map (λi=>(i.zero,i.size,i.bytes))=some (some (.pointer none),1,8):=RO
def O0:(prog.info? 102).map (λi=>(i.zero,i.size,i.bytes))=some (some (.pointer none),1,8):=RO
def Et(w:QV)(b j:Nat)(v:Xa):ed (λk=>k=b) w (w.setCell ⟨b,j,none⟩ v):=⟨rfl,rfl,rfl,by simp,λk m e=>UI w ⟨b,j,none⟩ k v e⟩
def jH{F F':Nat->Prop}{w w':QV}(h:ed F w w')(hF:∀k,F k->F' k):ed F' w w':=⟨h.os,h.tape,h.output,h.size,λk b e=>h.block k b (λhf=>e (hF k hf))⟩
end mK
end
section
open Tryz
namespace mK
open Go.RowKit Go.Shelf Ref
variable{ps:List kW}{o:Nat->Nat}{hs:List (Xa×Nat×Nat)}{H:Nat->Prop}
def WP.fo{w0 w:QV}{m:Nat}{N:Nat}{j l p:Xa}(h:WP w0 w m ps N o j l p hs H):Fo (λk=>k=m\/j.ownBlock=some k\/l.ownBlock=some k) w:=by
 refine⟨λk e=>?_,λk e cs t fz hc=>?_⟩
 ·rcases e with rfl|e|e
  ·exact h.w8
  ·exact(UH h.mh k e).1
  exact(UH h.nO k e).1
 rcases e with rfl|e|e
 ·rw[h.hd.eb]at hc;cases hc;exact⟨(λhi=>by rcases hi with hi|hi|hi<;>cases hi),(λb=>by rcases b with b|b<;>cases b)⟩
 ·obtain⟨cs',n,hb⟩:=cz h.mh e;rw[hb]at hc;cases hc;exact⟨(λhi=>by rcases hi with hi|hi|hi<;>cases hi),(λb=>by rcases b with b|b<;>cases b)⟩
 obtain⟨cs',n,hb⟩:=cz h.nO e;rw[hb]at hc;cases hc;exact⟨(λhi=>by rcases hi with hi|hi|hi<;>cases hi),(λb=>by rcases b with b|b<;>cases b)⟩
def Ke(w0 w:QV)(m:Nat)(ps:List kW)(N:Nat)(M:Nat->Nat)(h:WS w0 w m ps N M)(hlen:ps.length<1000000):Calls prog 40 #[ptr m] w λe w'=>e=.returned (.bool true)/\∃ps',WS w0 w' m ps' N M/\ps'.length=ps.length+1:=by
 obtain⟨o,y,z,vN,hs,H,n⟩:=h.wp;obtain⟨oL,cL,rfl⟩:=dP n.mh;obtain⟨oR,cR,rfl⟩:=dP n.nO;generalize bu:(Value.slice oL ps.length cL)=y at *;generalize bv:(Value.slice oR ps.length cR)=z at *;have Z:=Ls w;have h8:=n.g.size;have ak:=Lr w h8;obtain⟨E,Y⟩:∃E,((w.alloc (.map #[] 0)).alloc (.map #[] 0)).alloc (.cells #[.map (some w.1.size),.map (some (w.1.size+1)),.slice none 0 0,.slice none 0 0,.slice none 0 0,.slice none 0 0] 108)=E:=⟨_,rfl⟩;have F:Xb w E:=by
  rw[<-Y];have a1:Xb w (w.alloc (.map #[] 0)):=(Uz _ w).alloc (af _) _;have O:=a1.alloc a1.size (.map #[] 0);exact O.alloc O.size _
 rw[Y]at Z ak;have br:=F.size;have S:=(F.block _ (cj n.hd.eb)).trans n.hd.eb;have a6:=cD n.mh (λk b cs fz hb=>(F.block k (cj hb)).trans hb);obtain⟨gA,U,w2,r1,o1,P,l1⟩:=BB (t:=85) underlying85 OZ a6 (w.1.size+1+1) RM (ah h8 br);have a5:y.ownBlock≠some m:=λe=>by
  obtain⟨cs,fz,hb⟩:=cz n.mh e;exact yk hb n.hd.eb RZ rfl
 have am:z.ownBlock≠some m:=λe=>by
  obtain⟨cs,fz,hb⟩:=cz n.nO e;exact yk hb n.hd.eb RZ rfl
 have bx:=cj S;have G:=(P.block m bx a5).trans S;have a3:gA≠m:=λe=>by
  obtain⟨cs,fz,hb⟩:=cz o1 rfl;rw[e,G]at hb;cases hb
 have I:=heap_setCell_same w2 m 0 _ _ (.slice (some ⟨gA,0,none⟩) (ps.length+1) U) G;have Q:=Et w2 m 0 (.slice (some ⟨gA,0,none⟩) (ps.length+1) U);obtain⟨u,bd⟩:∃u,w2.setCell ⟨m,0,none⟩ (.slice (some ⟨gA,0,none⟩) (ps.length+1) U)=u:=⟨_,rfl⟩;rw[bd]at I Q;obtain⟨C,aC⟩:∃C,u.alloc (.cells #[.slice none 0 0,.string ⟨#[]⟩,.slice none 0 0,.slice none 0 0,.slice none 0 0,.slice none 0 0] 101)=C:=⟨_,rfl⟩;have R:Xb u C:=by rw[<-aC];exact(Uz _ _).alloc (af _) _
 have ap:C.1[u.1.size]?=some (.cells #[.slice none 0 0,.string ⟨#[]⟩,.slice none 0 0,.slice none 0 0,.slice none 0 0,.slice none 0 0] 101 (0,0)):=by rw[<-aC];exact heap_alloc_new _ _
 have ao:∀k,z.ownBlock=some k->y.ownBlock≠some k:=λk b bn=>by
  obtain⟨cs,fz,hb⟩:=cz n.nO b;obtain⟨cs',bB,bl⟩:=cz n.mh bn;exact yk hb bl RZ rfl
 have aa:ed (λk=>k=m\/y.ownBlock=some k) w C:=(((jH (ed.below F (L:=λk=>k=m\/y.ownBlock=some k)) (λk b=>b)).trans (jH P (λk b=>.inr b)) (λk b=>.inl b)).trans (jH Q (λk b=>.inl b)) (λk b=>.inl b)).trans (ed.below R) (λk b=>.inl b);have a7:C.ownsRow 8 102 1 z ps.length (ps.map λp=>ptr p.rb):=cD n.nO (λk b cs fz hb=>(aa.block k (cj hb) (λe=>by
  rcases e with e|e
  ·exact am (e▸b)
  ·exact ao k b e)).trans hb)
 have bt:=aa.size;obtain⟨B,V,T,r2,o2,ab,l2⟩:=BB (t:=86) underlying86 O0 a7 u.1.size RM (ah h8 bt);have ad:=(R.block m (cj I)).trans I;have J:=(ab.block m (cj ad) am).trans ad;have ai:=heap_setCell_same T m 1 _ _ (.slice (some ⟨B,0,none⟩) (ps.length+1) V) J;have X:=Et T m 1 (.slice (some ⟨B,0,none⟩) (ps.length+1) V);obtain⟨D,bw⟩:∃D,T.setCell ⟨m,1,none⟩ (.slice (some ⟨B,0,none⟩) (ps.length+1) V)=D:=⟨_,rfl⟩;rw[bw]at ai X;have bk:E.1.size=w.1.size+3:=by rw[<-Y];simp
 have bq:u.1.size=w2.1.size:=by rw[<-bd];simp
 have bD:=P.size;have K:∀k,z.ownBlock=some k->k<w.1.size:=λk b=>lK n.nO b;have av:∀k,y.ownBlock=some k->k<w.1.size:=λk b=>lK n.mh b;have bE:=cj n.hd.eb;have bp:=cj ap;have bC:=lK o1 (k:=gA) rfl;have a4:z.ownBlock≠some gA:=λe=>by
  rcases l1 with l|l
  ·exact ao gA e l
  have:=K gA e;omega
 have f34:ed (λk=>k=m\/z.ownBlock=some k) C D:=(jH ab (λk b=>.inr b)).trans (jH X (λk b=>.inl b)) (λk b=>.inl b);have f13:ed (λk=>k=m\/y.ownBlock=some k) E C:=((jH P (λk b=>.inr b)).trans (jH Q (λk b=>.inl b)) (λk b=>.inl b)).trans (ed.below R) (λk b=>.inl b);have f14:ed (λk=>k=m\/y.ownBlock=some k\/z.ownBlock=some k) E D:=(jH f13 (λk b=>by rcases b with b|b;exact .inl b;exact .inr (.inl b))).trans (jH f34 (λk b=>by rcases b with b|b;exact .inl b;exact .inr (.inr b))) (λk b=>.inl b);have ax:ed (λk=>k=m\/y.ownBlock=some k\/z.ownBlock=some k) w D:=(ed.below F).trans f14 (λk b=>.inl b);have ay:=ak.st (λk b=>f14.block k (by have:=b.2;omega) (λhx=>by
  have:=b.1;rcases hx with hx|hx|hx
  ·omega
  ·have:=av k hx;omega
  ·have:=K k hx;omega)) (((n.below F).fo.keeps f14).stay)
 have a9:D.ownsRow 8 29 1 (.slice (some ⟨gA,0,none⟩) (ps.length+1) U) (ps.length+1) (ps.map (λp=>ptr p.lb)++[ptr (w.1.size+1+1)]):=cD o1 (λk b cs fz hb=>by
  cases b;have a1:=(Q.block gA (cj hb) a3).trans hb;have O:=(R.block gA (cj a1)).trans a1;exact(f34.block gA (cj O) (λhx=>by rcases hx with hx|hx;exact a3 hx;exact a4 hx)).trans O)
 have bm:B≠m:=λe=>by
  obtain⟨cs,fz,hb⟩:=cz o2 rfl;rw[e,J]at hb;cases hb
 have bc:D.ownsRow 8 102 1 (.slice (some ⟨B,0,none⟩) (ps.length+1) V) (ps.length+1) (ps.map (λp=>ptr p.rb)++[ptr u.1.size]):=cD o2 (λk b cs fz hb=>by
  cases b;exact(X.block B (cj hb) bm).trans hb)
 have a8:=(f34.block u.1.size bp (λhx=>by
  rcases hx with hx|hx
  ·omega
  ·have:=K _ hx;omega)).trans ap
 obtain⟨o',bf⟩:=n.more hlen ax ai a9 (λg hg=>by
  cases hg;rcases l1 with l|l
  ·exact .inl l
  ·exact .inr (by show w.1.size<=gA;omega)) bc (λg hg=>by
  cases hg;rcases l2 with l|l
  ·exact .inl l
  ·exact .inr (by show w.1.size<=B;omega)) ay (λk b=>⟨b.1,(λe=>by
  have e:gA=k:=aB e;subst e;rcases l1 with l|l
  ·have:=av _ l;have:=b.1;omega
  ·have:=b.2;omega),(λe=>by
  have e:B=k:=aB e;subst e;rcases l2 with l|l
  ·have:=K _ l;have:=b.1;omega
  ·have:=b.2;omega)⟩) (MD a8 RM) ⟨by omega,(λb=>by have:=b.2;omega),(λe=>by
  have e:gA=u.1.size:=aB e;omega),(λe=>by
  have e:B=u.1.size:=aB e;rcases l2 with l|l
  ·have:=K _ l;omega
  ·omega)⟩
 have a0:∃ps',WS w0 D m ps' N M/\ps'.length=ps.length+1:=by
  refine⟨_,⟨⟨o',_,_,vN,hs,H,bf⟩,λq r=>?_,λj q r=>?_⟩,by rw[aj];rfl⟩
  ·rcases aK.1 r with r|r
   ·exact h.same q r
   simp at r;subst r;rfl
  by_cases bo:j<ps.length
  ·rw[aU bo]at r;exact h.pi j q r
  rw[aY RM]at r;have e0:j-ps.length=0:=by
   have:=(az.1 r).1;simp at this;omega
  rw[e0]at r;cases r;exact PI.new.le (au _)
 have c0:E.cell? ⟨m,0,none⟩=some y:=by simp[World.cell?,S]
 have c1:u.cell? ⟨m,1,none⟩=some z:=by simp[World.cell?,I]
 have d0:w2.cell? ⟨m,0,none⟩=some y:=by simp[World.cell?,G]
 have d1:T.cell? ⟨m,1,none⟩=some z:=by simp[World.cell?,J]
 have z0:∀j,w2.frozen? ⟨m,j,none⟩=false:=λj=>by simp[World.frozen?,G]
 have z1:∀j,T.frozen? ⟨m,j,none⟩=false:=λj=>by simp[World.frozen?,J]
 have m1:=cj S;have m2:=cj G;have m3:=cj I;have m4:=cj J;subst bu bv;unfold ptr at Z ⊢;have HN:=bZ Z;have bh:=bZ r1;have bj:=bZ r2;have bg:=bZ a0;clear Z r1 r2 a0 bf ay ak a9 bc a8 ax f14 f13 f34 aa P ab Q X o1 o2 S G I ad J ai a6 a7 ap F R Y h n bk bq ao K av a4 l1 l2 a5 am;go_enter func40,ntmps40;go_wp2_with(first|(go_at_call 16;refine HN.Z.mono ?_;rintro e w1 ⟨rfl,bz⟩;have bA:=bz.symm;subst bA)|(at_builtin;refine cY _ rfl _ _ _ _ rfl _ _ _ _ rfl rfl bh.Z ?_)|(at_builtin;refine cY _ rfl _ _ _ _ rfl _ _ _ _ rfl rfl bj.Z ?_));go_ret;exact⟨rfl,bg.Z⟩
end mK
end
section
namespace mK
open Go.RowKit Go.Shelf Ref
variable{b N:Nat}{ps:List kW}{M:Nat->Nat}
def WS.mono{w0 w:QV}{e:Nat->Nat}(h:WS w0 w b ps N M)(hM:∀j,j<ps.length->M j<=e j):WS w0 w b ps N e:=⟨h.wp,h.same,λj p l=>(h.pi j p l).le (hM j (az.1 l).1)⟩
def WS.below{w0 w w':QV}(h:WS w0 w b ps N M)(e:Xb w w'):WS w0 w' b ps N M:=by
 obtain⟨o,l,n,m,hs,H,j⟩:=h.wp;exact⟨⟨o,l,n,m,hs,H,j.below e⟩,h.same,h.pi⟩
def WS.keys{w0 w:QV}(h:WS w0 w b ps N M){i:Nat}{p:kW}(y:ps[i]?=some p):∃u B m n z,w.cell? ⟨b,1,none⟩=some (.slice (some ⟨u,0,none⟩) ps.length B)/\b<w.1.size/\u<w.1.size/\(i:Int)<(ps.length:Int)/\w.cell? ⟨u,i,none⟩=some (.pointer (some ⟨p.rb,0,none⟩))/\p.rb<w.1.size/\w.cell? ⟨p.rb,0,none⟩=some (.slice m n z)/\n<=40/\∀j,j<n->∃g x,m=some ⟨g,0,none⟩/\g<w.1.size/\w.cell? ⟨g,j*7,none⟩=some (.string x)/\x.size<=8:=by
 obtain⟨o,vL,vR,vN,hs,H,G⟩:=h.wp;obtain⟨gL,cL,u,B,rfl,rfl,Y,I,Z,J,a7,K,L⟩:=G.OY y;obtain⟨R,⟨d,es,fl,vA,vF,vB,vR',vN',r⟩,_⟩:=G.doc i p y;have F:=h.pi i p y;have C:=h.same p (aL y);obtain⟨O,_⟩:=r.cells;obtain⟨m,z,rfl⟩:=dP r.all;have D:es.length=p.sP.cm.length:=by rw[<-C];exact r.kE
 refine⟨u,B,m,es.length,z,K,L,I,by have:=(az.1 y).1;omega,J,cj r.eb,O,by rw[D];exact F.sound.len,λj hj=>?_⟩;have E:j<p.sR.cm.length:=by rw[C,<-D];exact hj
 obtain⟨e,g,aa,he,Q,hv,S,hc⟩:=r.entry (i:=j) (aq E);have T:(Value.slice m es.length z).ownBlock=some g:=by rw[hv];rfl
 obtain⟨o',rfl⟩:∃o',m=some o':=by
  cases m with
  |none=>cases T
  |some o'=>exact⟨o',rfl⟩
 have X:o'=⟨g,0,none⟩:=by
  injection hv with e1
  injection e1
 have U:=Q.key;refine⟨g,⟨e.key.toArray⟩,by rw[X],S,?_,?_⟩
 ·have:=hc 0 _ rfl;simp only[Qc]at this;exact this
 have P:=F.hl.key e.key (by
  rw[U,<-C];have V:(p.sR.cm.map (·.1)).Nodup:=r.nodup;rw[kS (l:=p.sR.cm) (k:=(p.sR.cm[j]).1) (a:=(p.sR.cm[j]).2) V (aq E)];rfl)
 rw[UB];simpa using P
def Kf(w0 w:QV)(b:Nat)(ps:List kW)(N:Nat)(M:Nat->Nat)(h:WS w0 w b ps N M)(k:Nat)(hk:k<ps.length)(hM:M k<=60000000000000)(hN:N<=9000000):Calls Tryz.prog 44 #[ptr b,.int .i64 (k:Int),.int .i64 5] w λe w'=>e=.returned (.bool true)/\∃ps' N',WS w0 w' b ps' N' (λj=>if j=k then M j+8200000000 else M j)/\ps'.length=ps.length/\N'<=N+40:=by
 have I:=bZ h;clear h;unfold ptr;go_enter Tryz.func44,Tryz.ntmps44;go_wp2_with fail
 go_loopw [7,8] (λQ iv wr=>∃i:Nat,Q=.bool true/\iv=.int .i64 (i:Int)/\i<=40/\Hid (∃ps',WS w0 wr b ps' (N+i) (λj=>if j=k then M j+200000000*i else M j)/\ps'.length=ps.length)) (λ_ iv _=>41-(intOf iv).toNat)
 case atStart=>exact⟨0,rfl,rfl,au _,bZ ⟨ps,I.Z.mono (λj _=>by show M j<=if j=k then M j+200000000*0 else M j;split<;>omega),rfl⟩⟩
 case round =>
  obtain⟨i,rfl,rfl,hi,r⟩:=hrel;obtain⟨ps1,l,D⟩:=r.Z;have y:=aq (show k<ps1.length by omega);generalize P:ps1[k]' RM=p at y;clear P;obtain⟨gR,Z,oA,n,Y,a1,R,S,T,U,V,X,E,u⟩:=l.keys y;have aa:((5:Int)<7):=RM;by_cases O:i<n
  ·have L:(i:Int)<(n:Int):=RM;obtain⟨g,x,rfl,hg,hx,ab⟩:=u i O;have z:=BA w0 wr b ps1 (N+i) _ l k p y 0 0 x ⟨#[]⟩ RM (by show(if k=k then M k+200000000*i else M k)<=_;rw[ag rfl];omega) RM;have B:∀w',(∃ps',WS w0 w' b ps' (N+i+1) (nP (λj=>if j=k then M j+200000000*i else M j) k)/\ps'.length=ps1.length)->∃ps',WS w0 w' b ps' (N+(i+1)) (λj=>if j=k then M j+200000000*(i+1)else M j)/\ps'.length=ps.length:=λw' hx=>by
    obtain⟨ps',h1,h2⟩:=hx;refine⟨ps',h1.mono (λj hj=>?_),h2.trans D⟩;unfold nP;by_cases C:j=k
    ·subst C;simp;omega
    simp[C]
   unfold ptr at z;have G:=bZ z;have m:=bZ B;have K:i+1<=40:=RM;clear z B l u r E;go_wp2_with(go_at_call 41;refine G.Z.mono ?_;rintro e w2 ⟨rfl,F⟩;have J:=bZ (m.Z w2 F);clear F);refine⟨⟨i+1,rfl,by go_num,K,J⟩,?_⟩;simp[intOf];omega
  have L:¬(i:Int)<(n:Int):=RM;have m:Hid (∃ps' N',WS w0 wr b ps' N' (λj=>if j=k then M j+8200000000 else M j)/\ps'.length=ps.length/\N'<=N+40):=bZ ⟨ps1,N+i,l.mono (λj hj=>by show(if j=k then M j+200000000*i else M j)<=if j=k then M j+8200000000 else M j;split<;>omega),D,by omega⟩;clear l u r E;go_wp2_with fail;go_ret;exact⟨rfl,m.Z⟩
end mK
end
section
open Tryz
namespace mK
open Go.RowKit Go.Shelf Ref
def Gq(c:Int)(n:Nat)(w:QV)(l:-9223372036854775808<=c)(h1:c<=9223372036854775807)(p:0<n)(y:n<=1000000000):Calls prog 42 #[.int .i64 c,.int .i64 n] w λe w'=>e=.returned (.int .i64 (D7 c n:Nat))/\w'=w:=by
 have u:((n:Int)==0)=false:=aw.2 RM;unfold D7;by_cases hc:c<0
 ·rw[ag hc];obtain⟨m,j⟩:∃m:Nat,c+1=-(m:Int):=⟨(-(c+1)).toNat,by omega⟩;have e1:-((c+1).tmod (n:Int))=(((-(c+1)).toNat%n:Nat):Int):=by
   rw[j,Int.neg_tmod,Int.neg_neg,Int.neg_neg];rfl
  have z:IntKind.i64.wrap (c+1)=c+1:=Sk;have B:IntKind.i64.wrap (-(c+1))=-(c+1):=Sk;clear j;have b:=bZ e1;clear e1;generalize (((-(c+1)).toNat%n:Nat):Int)=r at b ⊢;go_enter func42,ntmps42;go_wp2_with fail;go_ret;refine⟨?_,rfl⟩;show Ending.returned (Value.int .i64 (-((c+1).tmod (n:Int))))=_;rw[b.Z]
 rw[ae hc];obtain⟨m,rfl⟩:∃m:Nat,c=(m:Int):=⟨c.toNat,by omega⟩;have b:Hid (((m:Int).tmod (n:Int))=((((m:Int)).toNat%n:Nat):Int)):=bZ rfl;generalize ((((m:Int)).toNat%n:Nat):Int)=r at b ⊢;go_enter func42,ntmps42;go_wp2_with fail;go_ret;refine⟨?_,rfl⟩;show Ending.returned (Value.int .i64 ((m:Int).tmod (n:Int)))=_;rw[b.Z]
def ME(c:Int)(n:Nat)(b:0<n):D7 c n<n:=Ra _ b
def N7(w:QV)(g:G w)(hd:jI w):WS w (w.alloc (.cells #[.slice none 0 0,.slice none 0 0,.int .i64 0,.slice none 0 0,.slice none 0 0,.slice none 0 0] 93)) w.1.size [] 0 (λ_=>0):=by
 have r:Xb w (w.alloc (.cells #[.slice none 0 0,.slice none 0 0,.int .i64 0,.slice none 0 0,.slice none 0 0,.slice none 0 0] 93)):=(Uz _ w).alloc (af _) _;have hb:=heap_alloc_new w (.cells #[.slice none 0 0,.slice none 0 0,.int .i64 0,.slice none 0 0,.slice none 0 0,.slice none 0 0] 93);generalize w.alloc (.cells #[.slice none 0 0,.slice none 0 0,.int .i64 0,.slice none 0 0,.slice none 0 0,.slice none 0 0] 93)=W at *;have u:∀{e:TypeId} {m:Nat},W.ownsRow 8 e m (.slice none 0 0) 0 []:=λ{e m}=>⟨by simp,.inl ⟨rfl,rfl⟩⟩;refine⟨⟨λk=>if k<w.1.size then 1000000000000 else 0,_,_,_,[],λ_=>False,⟨⟨hb,u,(λp b=>by cases b),(λg l=>by cases l),(λp b=>by cases b),(λk n=>n.elim)⟩,rfl,u,u,ae (RC _),(λg l=>by cases l),(λg l=>by cases l),(λk n=>n.elim),(λi p b=>by cases b),(λi p b=>by cases b),g.below r g.size,hd.below r g.size,g.size,r,λk n=>ag n,by simp⟩⟩,(λp b=>by cases b),(λj p b=>by cases b)⟩
def Dv(w0 w:QV)(l:Nat)(ps:List kW)(N:Nat)(M:Nat->Nat)(h:WS w0 w l ps N M)(i:Nat)(p:kW)(j:ps[i]?=some p)(K A B:Int)(S T:ba)(n:K<=1):Calls prog 41 #[ptr l,.int .i64 (i:Int),.agg #[.int .i64 K,.int .i64 A,.int .i64 B,.string S,.string T]] w λe w'=>e=.returned (.bool true)/\Xb w w':=by
 obtain⟨O,J,P,L,a1,r,u,y,z,C,D,E,b0,F,G,I⟩:=h.Bv j K A B S T;have b:=l0 w K A B S T;have k2:(K==2)=false:=aw.2 RM;have k3:(K==3)=false:=aw.2 RM;have k4:(K==4)=false:=aw.2 RM;have V:(K==5)=false:=aw.2 RM;have X:(K==6)=false:=aw.2 RM;have Y:(K==7)=false:=aw.2 RM;have Z:(K==8)=false:=aw.2 RM;have k9:(K==9)=false:=aw.2 RM;have Q:(K==10)=false:=aw.2 RM;have R:(K==11)=false:=aw.2 RM;have U:(K==12)=false:=aw.2 RM;have l2:¬K=2:=RM;have l3:¬K=3:=RM;have l4:¬K=4:=RM;have l5:¬K=5:=RM;have l6:¬K=6:=RM;have l7:¬K=7:=RM;have l8:¬K=8:=RM;have l9:¬K=9:=RM;have l10:¬K=10:=RM;have aa:¬K=11:=RM;have ab:¬K=12:=RM;have m:=bZ b;clear h j b n;unfold im at *;unfold ptr;go_enter func41,ntmps41;go_wp2_with fail;go_ret;exact⟨rfl,m.Z⟩
def Kg(w0 w:QV)(b:Nat)(ps:List kW)(N M:Nat)(h:WS w0 w b ps N (λ_=>M))(i:Nat)(hi:i<ps.length)(K A B:Int)(S T:ba)(hS:S.size<=20000000)(hT:T.size<=20000000)(hM:M<=70000000000000)(n:N<=10000000)(y:K<=5):Calls prog 41 #[ptr b,.int .i64 (i:Int),.agg #[.int .i64 K,.int .i64 A,.int .i64 B,.string S,.string T]] w λe w'=>e=.returned (.bool true)/\∃ps' N',WS w0 w' b ps' N' (λ_=>M+200000000)/\ps'.length=ps.length/\N'<=N+1:=by
 have l:=aq hi;generalize ps[i]=p at l;have m:∀{w':QV} {N':Nat},N'<=N+1->(∃ps',WS w0 w' b ps' N' (nP (λ_=>M) i)/\ps'.length=ps.length)->∃ps' N',WS w0 w' b ps' N' (λ_=>M+200000000)/\ps'.length=ps.length/\N'<=N+1:=λ{w' N'} r hx=>by
  obtain⟨ps',h1,h2⟩:=hx;exact⟨ps',N',h1.mono (λj _=>MB _ i j),h2,r⟩
 by_cases k2:K=2
 ·subst k2;exact(J_ w0 w b ps N _ h i p l A B S T hS hT hM).mono (λe w' hx=>⟨hx.1,m (Qp _) hx.2⟩)
 by_cases k3:K=3
 ·subst k3;exact(Ka w0 w b ps N _ h i p l A B S T hS hT hM).mono (λe w' hx=>⟨hx.1,m (Qp _) hx.2⟩)
 by_cases k4:K=4
 ·subst k4;exact(step_drop w0 w b ps N _ h i p l A B S T hS hT hM).mono (λe w' hx=>⟨hx.1,m (Qp _) hx.2⟩)
 by_cases u:K=5
 ·subst u;exact(BA w0 w b ps N _ h i p l A B S T hS hM n).mono (λe w' hx=>⟨hx.1,m (af _) hx.2⟩)
 exact(Dv w0 w b ps N _ h i p l K A B S T RM).mono (λe w' hx=>⟨hx.1,ps,N,(h.below hx.2).mono (λj _=>aJ _ _),rfl,Qp _⟩)
def Kh(w0 w:QV)(b:Nat)(ps:List kW)(N:Nat)(M:Nat->Nat)(h:WS w0 w b ps N M)(l:N<=100000000):Calls prog 43 #[.pointer (some ⟨b,2,none⟩)] w λe w'=>e=.returned (.bool true)/\WS w0 w' b ps N M:=by
 obtain⟨o,m,p,n,hs,H,j⟩:=h.wp;exact(Mz w b m p n N hs H j.hd l (by rw[j.hlen];omega)).mono (λe w' hx=>⟨hx.1,h.below hx.2⟩)
end mK
end
section
open Tryz
namespace mK
open Go.RowKit Go.Shelf Ref
variable{o:Option Addr}{c n k:Nat}
def BC(w:QV)(o:Option Addr)(len:Nat)(K A B:Nat->Int)(S T:Nat->ba):Prop :=∀i,i<len->∃b e,o=some ⟨b,e,none⟩/\b<w.1.size/\w.cell? ⟨b,e+i*5,none⟩=some (.int .i64 (K i))/\w.cell? ⟨b,e+i*5+1,none⟩=some (.int .i64 (A i))/\w.cell? ⟨b,e+i*5+2,none⟩=some (.int .i64 (B i))/\w.cell? ⟨b,e+i*5+3,none⟩=some (.string (S i))/\w.cell? ⟨b,e+i*5+4,none⟩=some (.string (T i)) /\(-9223372036854775808<=B i/\B i<=9223372036854775807)/\(S i).size<=20000000/\(T i).size<=20000000
def BC.below{w w':QV}{len:Nat}{K A B:Nat->Int}{S T:Nat->ba}(h:BC w o len K A B S T)(e:Xb w w'):BC w' o len K A B S T:=λi hi=>by
 obtain⟨b,j,h1,h2,l,m,p,r,u,y⟩:=h i hi;exact⟨b,j,h1,aA h2 e.size,(UF (e.block b h2)).trans l,(UF (e.block b h2)).trans m,(UF (e.block b h2)).trans p,(UF (e.block b h2)).trans r,(UF (e.block b h2)).trans u,y⟩
def SS(w0:QV)(c n:Nat)(w:QV):Prop:=∃ps N,WS w0 w w0.1.size ps N (λ_=>200000000*c)/\ps.length=n/\n<=c/\N<=c
def SS.eh{w0 w:QV}(h:SS w0 c n w):Xb w0 w:=by
 obtain⟨ps,N,h1,_⟩:=h;obtain⟨o,e,l,j,hs,H,b⟩:=h1.wp;exact b.eh
def SS.cell{w0 w:QV}(h:SS w0 c n w):∃e b,w.cell? ⟨w0.1.size,0,none⟩=some (.slice e n b)/\w0.1.size<w.1.size:=by
 obtain⟨ps,N,h1,rfl,_⟩:=h;obtain⟨o,l,p,m,hs,H,j⟩:=h1.wp;obtain⟨e,b,rfl⟩:=dP j.mh;have hb:=j.hd.eb;exact⟨e,b,by simp[World.cell?,hb],cj hb⟩
def pL{w0 w:QV}(h:SS w0 c n w)(hc:c<=300000)(i:Nat)(hi:i<n)(K A B:Int)(S T:ba)(hS:S.size<=20000000)(hT:T.size<=20000000)(m:K<=5):Calls prog 41 #[.pointer (some ⟨w0.1.size,0,none⟩),.int .i64 (i:Int),.agg #[.int .i64 K,.int .i64 A,.int .i64 B,.string S,.string T]] w λe w'=>e=.returned (.bool true)/\SS w0 (c+1) n w':=by
 obtain⟨ps,N,h1,rfl,r,u⟩:=h;refine(Kg w0 w _ ps N _ h1 i hi K A B S T hS hT RM RM m).mono ?_;rintro e w'⟨rfl,ps',N',b,l,p⟩;exact⟨rfl,ps',N',b.mono (λj _=>by show 200000000*c+200000000<=200000000*(c+1);omega),l,by omega,by omega⟩
def Eu{w0 w:QV}(h:SS w0 c n w)(hc:c<=300000):Calls prog 40 #[.pointer (some ⟨w0.1.size,0,none⟩)] w λe w'=>e=.returned (.bool true)/\SS w0 (c+1) (n+1) w':=by
 obtain⟨ps,N,h1,rfl,m,p⟩:=h;refine(Ke w0 w _ ps N _ h1 RM).mono ?_;rintro e w'⟨rfl,ps',b,l⟩;exact⟨rfl,ps',N,b.mono (λj _=>by show 200000000*c<=200000000*(c+1);omega),l,by omega,by omega⟩
def Ki{w0 w:QV}(h:SS w0 c n w)(hc:c<=300000):Calls prog 43 #[.pointer (some ⟨w0.1.size,2,none⟩)] w λe w'=>e=.returned (.bool true)/\SS w0 c n w':=by
 obtain⟨ps,N,h1,h2,b,j⟩:=h;exact(Kh w0 w _ ps N _ h1 RM).mono (λe w' hx=>⟨hx.1,ps,N,hx.2,h2,b,j⟩)
def SE(w0:QV)(c n k:Nat)(w:QV):Prop:=∃ps N,WS w0 w w0.1.size ps N (λj=>if j<k then 200000000*c+8200000000 else 200000000*c)/\ps.length=n/\N<=c+40*k
def SE.cell{w0 w:QV}(h:SE w0 c n k w):∃e b,w.cell? ⟨w0.1.size,0,none⟩=some (.slice e n b)/\w0.1.size<w.1.size:=by
 obtain⟨ps,N,h1,rfl,_⟩:=h;obtain⟨o,l,p,m,hs,H,j⟩:=h1.wp;obtain⟨e,b,rfl⟩:=dP j.mh;have hb:=j.hd.eb;exact⟨e,b,by simp[World.cell?,hb],cj hb⟩
def MF{w0 w:QV}(h:SE w0 c n k w)(hc:c<=200000)(m:k<n)(u:n<=c):Calls prog 44 #[.pointer (some ⟨w0.1.size,0,none⟩),.int .i64 (k:Int),.int .i64 5] w λe w'=>e=.returned (.bool true)/\SE w0 c n (k+1) w':=by
 obtain⟨ps,N,h1,rfl,r⟩:=h;refine(Kf w0 w _ ps N _ h1 k m (by show(if k<k then _ else 200000000*c)<=_;rw[ae (RC _)];omega) RM).mono ?_;rintro e w'⟨rfl,ps',N',b,l,p⟩;refine⟨rfl,ps',N',b.mono (λj _=>?_),l,by omega⟩;show(if j=k then(if j<k then 200000000*c+8200000000 else 200000000*c)+8200000000 else(if j<k then 200000000*c+8200000000 else 200000000*c))<=if j<k+1 then 200000000*c+8200000000 else 200000000*c;by_cases h1:j=k
 ·subst h1;rw[ag rfl,ae (RC _),ag (Nat.lt_succ_self _)];omega
 rw[ae h1];by_cases h2:j<k
 ·rw[ag h2,ag RM];omega
 rw[ae h2];split<;>omega
def N8{w0 w:QV}(h:SE w0 c n k w)(hc:c<=200000)(l:k<=n)(m:n<=c):Calls prog 43 #[.pointer (some ⟨w0.1.size,2,none⟩)] w λe w'=>e=.returned (.bool true)/\Xb w0 w':=by
 obtain⟨ps,N,h1,h2,j⟩:=h;refine(Kh w0 w _ ps N _ h1 RM).mono (λe w' hx=>⟨hx.1,?_⟩);obtain⟨o,p,u,r,hs,H,b⟩:=hx.2.wp;exact b.eh
end mK
end
section
namespace mK
open Go.RowKit Go.Shelf Ref
def SS.below{w0 w w':QV}{c n:Nat}(h:SS w0 c n w)(b:Xb w w'):SS w0 c n w':=by
 obtain⟨ps,N,h1,h2⟩:=h;exact⟨ps,N,h1.below b,h2⟩
def Gr(w:QV)(g:G w)(hd:jI w)(o:Option Addr)(len ay:Nat)(K A B:Nat->Int)(S T:Nat->ba)(h:BC w o len K A B S T)(hlen:len<=190000):Calls Tryz.prog 14 #[.slice o len ay,.int .i64 5] w λe w'=>e=.returned (.bool true)/\Xb w w':=by
 have V:SS w 0 0 (w.alloc (.cells #[.slice none 0 0,.slice none 0 0,.int .i64 0,.slice none 0 0,.slice none 0 0,.slice none 0 0] 93)):=⟨[],0,N7 w g hd,rfl,af _,af _⟩;have I:=bZ V;have HO:=bZ h;clear V h;go_enter Tryz.func14,Tryz.ntmps14
 go_upto_region 3 with(go_at_call 40;refine(Eu I.Z RM).mono ?_;rintro e w1 ⟨rfl,h1⟩;have J:=bZ h1;clear h1)
 go_upto_region 4 with(go_at_call 41;refine(pL J.Z RM 0 RM 2 0 0 _ _ RZ RZ RZ).mono ?_;rintro e w2 ⟨rfl,h2⟩;have b:=bZ h2;clear h2)
 go_upto_region 5 with(go_at_call 41;refine(pL b.Z RM 0 RM 3 0 0 _ _ RZ RZ RZ).mono ?_;rintro e w3 ⟨rfl,y⟩;have L:=bZ y;clear y)
 go_upto_region 6 with(go_at_call 41;refine(pL L.Z RM 0 RM 3 0 0 _ _ RZ RZ RZ).mono ?_;rintro e w4 ⟨rfl,X⟩;have M:=bZ X;clear X)
 go_upto_region 7 with(go_at_call 41;refine(pL M.Z RM 0 RM 2 0 0 _ _ RZ RZ RZ).mono ?_;rintro e w5 ⟨rfl,Y⟩;have O:=bZ Y;clear Y)
 go_upto_region 8 with(go_at_call 41;refine(pL O.Z RM 0 RM 5 0 0 _ _ RZ RZ RZ).mono ?_;rintro e w6 ⟨rfl,Z⟩;have P:=bZ Z;clear Z)
 clear I J b L M O
 go_upto_region 12 with fail
 go_wp2_with fail
 go_loopw [6,7] (λF iv wr=>∃(i n:Nat),F=.bool true/\iv=.int .i64 (i:Int)/\i<=len/\Hid (∃c,SS w c n wr/\c<=i+6/\1<=n)) (λ_ iv _=>len-(intOf iv).toNat)
 case atStart=>exact⟨0,1,rfl,rfl,au _,bZ ⟨6,P.Z,af _,af _⟩⟩
 case round =>
  clear P;obtain⟨i,n,rfl,rfl,hi,m⟩:=hrel;obtain⟨c,hs,hc,ad⟩:=m.Z;have ai:n<=c:=by obtain⟨_,_,_,_,y,_⟩:=hs;exact y
  by_cases a7:i<len
  ·have a4:(i:Int)<(len:Int):=RM;obtain⟨ab,ao,rfl,bh,k0,k1,k2,k3,k4,⟨aC,a0⟩,a2,a3⟩:=HO.Z.below hs.eh i a7;by_cases bg:5<K i
   ·have C:Hid (∃c,SS w c n wr/\c<=i+1+6/\1<=n):=bZ ⟨c,hs,by omega,ad⟩;clear hs m;go_wp2_with fail;refine⟨⟨i+1,n,rfl,by go_num,by omega,C⟩,?_⟩;simp[intOf];omega
   by_cases bf:K i=1
   ·have C:=bZ (Eu hs RM);have r:=bZ (λw' (hx:SS w (c+1) (n+1) w')=>Ki hx RM);have D:c+1<=i+1+6:=RM;clear hs m;go_wp2_with(first|(go_at_call 40;refine C.Z.mono ?_;rintro e w1 ⟨rfl,h1⟩;have z:=bZ (r.Z w1 h1);have a8:w.1.size<w1.1.size:=(by obtain⟨_,_,_,h⟩:=h1.cell;exact h);clear h1)|(go_at_call 43;refine z.Z.mono ?_;rintro e w2 ⟨rfl,h2⟩;have b:=bZ h2;clear h2));refine⟨⟨i+1,n+1,rfl,by go_num,by omega,bZ ⟨c+1,b.Z,D,by omega⟩⟩,?_⟩;simp[intOf];omega
   have ak:=λp=>Gq (B i) n p aC a0 RM RM;have ap:=λp (hB:Xb wr p)=>pL (hs.below hB) RM (D7 (B i) n) (ME _ _ RM) (K i) (A i) (B i) (S i) (T i) a2 a3 RM;obtain⟨oL,cL,d0,d1⟩:=hs.cell;have R:=bZ ak;have U:=bZ ap;have D:c+1<=i+1+6:=RM;have r:=bZ (λw' (hx:SS w (c+1) n w')=>Ki hx RM);clear ak ap hs m
   go_upto_region 18 with fail
   go_cut [6]from 95 to 143 (λv p=>v=.bool true/\Hid (SS w (c+1) n p))
   case first =>
    go_region_with (first|(go_at_call 42;refine(R.Z _).mono ?_;rintro e wp ⟨rfl,a9⟩;have bc:=a9.symm;subst bc)|(go_at_call 41;refine(U.Z _ ((Uz _ wr).drew)).mono ?_;rintro e ws ⟨rfl,am⟩;have u:=bZ am;clear am))
    all_goals
     go_wp2_with fail
     go_meet
     case rel=>exact⟨rfl,u⟩
   case rest =>
    obtain⟨rfl,u⟩:=hcut;generalize wc=W5 at *;have z:=bZ (r.Z _ u.Z);have a8:w.1.size<W5.1.size:=by obtain⟨_,_,_,h⟩:=u.Z.cell;exact h
    clear r U R d0 d1 k0 k1 k2 k3 k4
    apply_assumption
    go_wp2_with(go_at_call 43;refine z.Z.mono ?_;rintro e w2 ⟨rfl,h2⟩;have b:=bZ h2;clear h2)
    go_roundw
    case rel=>exact⟨i+1,n,rfl,by go_num,by omega,bZ ⟨c+1,b.Z,D,ad⟩⟩
    case measure=>simp[intOf];omega
  have a4:¬(i:Int)<(len:Int):=RM;have aa:c<=200000:=RM;have Q:Hid (SE w c n 0 wr):=bZ (by
   obtain⟨ps,N,g1,g2,g3,g4⟩:=hs;exact⟨ps,N,g1.mono (λj _=>by show 200000000*c<=if j<0 then _ else 200000000*c;rw[ae (Nat.not_lt_zero _)];exact af _),g2,by omega⟩)
  clear hs m;go_wp2_with fail
  go_loopw [6,9] (λF E bd=>∃k:Nat,F=.bool true/\E=.int .i64 (k:Int)/\k<=n/\Hid (SE w c n k bd)) (λ_ E _=>n-(intOf E).toNat)
  case atStart=>exact⟨0,rfl,rfl,au _,Q⟩
  case round =>
   clear Q;obtain⟨k,rfl,rfl,hk,l⟩:=hrel;obtain⟨oL,cL,d0,d1⟩:=l.Z.cell;by_cases a6:k<n
   ·have a5:(k:Int)<(n:Int):=RM;have ax:=bZ (MF l.Z aa a6 ai);clear l;go_wp2_with(go_at_call 44;refine ax.Z.mono ?_;rintro e w2 ⟨rfl,h2⟩;have b:=bZ h2;clear h2);refine⟨⟨k+1,rfl,by go_num,by omega,b⟩,?_⟩;simp[intOf];omega
   have a5:¬(k:Int)<(n:Int):=RM;have av:=bZ (N8 l.Z aa hk ai);clear l;go_wp2_with(go_at_call 43;refine av.Z.mono ?_;rintro e w2 ⟨rfl,h2⟩;have b:=bZ h2;clear h2);go_ret;exact⟨rfl,b.Z⟩
end mK
end
section
namespace mK
open Go.RowKit Go.Shelf Ref
def Gs(w:QV)(g:G w)(hd:jI w)(o:Option Addr)(len b:Nat)(K A B:Nat->Int)(S T:Nat->ba)(h:BC w o len K A B S T)(hlen:len<=190000):Calls Tryz.prog 4 #[.slice o len b] w λe w'=>e=.returned (.bool true)/\Xb w w':=by
 have j:=bZ (Gr w g hd o len b K A B S T h hlen);clear h;go_enter Tryz.func4,Tryz.ntmps4;go_wp2_with fail;refine j.Z.mono ?_;rintro e w'⟨rfl,l⟩;go_wp2_with fail;go_ret;exact⟨rfl,l⟩
end mK
end
section
open Tryz
namespace mK
variable{cs:List Xa}
def MG:prog.cellsOf 96=5:=RO
def N9:prog.cellsOf 3=1:=RO
def N_:prog.cellsOf 9=1:=RO
def Kj{H:Type}{enc:TypeId×Xa->H}{w:QV}{N fuel:Nat}{spare:Nat->Bool}{held:Bool}{x:DataW H×List MemPlace}(h:DataW.trod enc prog w N spare held fuel 24 cs=some x):∃(o:Option Addr) (len j:Nat) (K A B:Nat->Int) (S T:Nat->ba) (D:Nat->DataW H) (sp:List (DataW H)),cs=[.slice o len j]/\(∀i,i<len->∃b e,o=some ⟨b,e,none⟩/\w.cell? ⟨b,e+i*5,none⟩=some (.int .i64 (K i))/\w.cell? ⟨b,e+i*5+1,none⟩=some (.int .i64 (A i))/\w.cell? ⟨b,e+i*5+2,none⟩=some (.int .i64 (B i))/\w.cell? ⟨b,e+i*5+3,none⟩=some (.string (S i))/\w.cell? ⟨b,e+i*5+4,none⟩=some (.string (T i))/\(-9223372036854775808<=B i/\B i<=9223372036854775807)) /\(x.1=.slice ((List.range len).map D) sp\/len=0)/\∀i,i<len->D i=.agg [.lit (.int .i64 (K i)),.lit (.int .i64 (A i)),.lit (.int .i64 (B i)),.lit (.string (S i).1.1),.lit (.string (T i).1.1)]:=by
 rcases open_slice underlying24 h with⟨O,_⟩|⟨a,len,j,m,n,D,Pl,rfl,hb,hl,hm,Q,rfl,hx⟩
 ·exact⟨none,0,0,λ_=>0,λ_=>0,λ_=>0,λ_=>⟨#[]⟩,λ_=>⟨#[]⟩,λ_=>.nil,[],O,λi hi=>by omega,Or.inr rfl,λi hi=>by omega⟩
 have aa:len<=m:=by rw[Q];split<;>omega
 have each:∀i,i<len->∃q:Int×Int×Int×ba×ba,w.cell? (a.add (i*5))=some (.int .i64 q.1)/\w.cell? (a.add (i*5+1))=some (.int .i64 q.2.1)/\w.cell? (a.add (i*5+2))=some (.int .i64 q.2.2.1)/\w.cell? (a.add (i*5+3))=some (.string q.2.2.2.1)/\w.cell? (a.add (i*5+4))=some (.string q.2.2.2.2)/\(Lit.int .i64 q.2.2.1).wf=true/\D i=.agg [.lit (.int .i64 q.1),.lit (.int .i64 q.2.1),.lit (.int .i64 q.2.2.1),.lit (.string q.2.2.2.1.1.1),.lit (.string q.2.2.2.2.1.1)]:=by
  intro i hi;obtain⟨cs',h1,h2⟩:=hx i RM;rw[MG]at h1;obtain⟨_,hlen,hcell⟩:=World.cells?_some h1;obtain⟨xs,k,hk,V,_,U,hf⟩:=DataW.trod_struct underlying96 h2
  match xs,U,cs',hlen with
  |[y0,y1,y2,y3,y4],_,[v0,v1,v2,v3,v4],_ =>
   have u:=hf 0 _ rfl;have y:=hf 1 _ rfl;have z:=hf 2 _ rfl;have C:=hf 3 _ rfl;have E:=hf 4 _ rfl;simp[N9,N_]at u y z C E;have e0:=hcell 0 RM;have e1:=hcell 1 RM;have e2:=hcell 2 RM;have p:=hcell 3 RM;have r:=hcell 4 RM;rw[add_add]at e0 e1 e2 p r;obtain⟨X,J,p0,w0⟩:=DataW.trod_int underlying3 u;obtain⟨Y,k1,p1,w1⟩:=DataW.trod_int underlying3 y;obtain⟨Z,k2,p2,w2⟩:=DataW.trod_int underlying3 z;obtain⟨n3,k3,p3,w3⟩:=DataW.trod_string underlying9 C;obtain⟨n4,k4,p4,w4⟩:=DataW.trod_string underlying9 E;simp at J k1 k2 k3 k4;subst J;subst k1;subst k2;subst k3;subst k4;exact⟨(X,Y,Z,n3,n4),by simpa using e0,by simpa using e1,by simpa using e2,by simpa using p,by simpa using r,w2,by have:=congrArg Prod.fst V;simpa[p0,p1,p2,p3,p4]using this⟩
 obtain⟨q,l⟩:=choose_lt each;refine⟨some a,len,j,λi=>(q i).1,λi=>(q i).2.1,λi=>(q i).2.2.1,λi=>(q i).2.2.2.1,λi=>(q i).2.2.2.2,D,_,rfl,λi hi=>?_,Or.inl rfl,λi hi=>(l i hi).2.2.2.2.2.2⟩;obtain⟨h1,h2,F,G,I,M,_⟩:=l i hi;obtain⟨b,e,L⟩:=a;have R:L=none:=by
  obtain⟨P,_⟩:=l 0 RM;simpa[Addr.add]using World.cell?_spot P
 subst R;rw[add_plain]at h1 h2 F G I;exact⟨b,e,rfl,h1,by rw[Qw];exact h2,by rw[Qw];exact F,by rw[Qw];exact G,by rw[Qw];exact I,bounds_i64 M⟩
end mK
end
