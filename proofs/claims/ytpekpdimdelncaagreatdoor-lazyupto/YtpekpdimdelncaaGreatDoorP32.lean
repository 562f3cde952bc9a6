/- Out of Bq. -/
import Derived.Test.YtpekpdimdelncaaGreatDoorP30
set_option linter.unusedVariables false
set_option linter.unusedSimpArgs false
set_option maxRecDepth 100000
set_option maxHeartbeats 2000000
set_option linter.defProp false
namespace Go.Proofs.YtpekpdimdelncaaGreatDoor
open Go.RowKit Go.Shelf
section
open Tryz
namespace Ref
variable{s:bY.LS}{L:Nat->Prop}{key:a_}{t:ba}
def yJ{w w1:Xa}{b:Nat}{th:bY.cC}(B:¬(bY.cv s.ct key=none/\40<=s.ct.length))(y:fb (jm b {s with ct:=bY.put s.ct key th}) w L w1)(C:t.1.1=bY.ed key th)(E:t.size<=100000000)(z:(dc s.jr).length<=1000000000000000000):Calls prog 105 #[ptr b,.string t] w1 λe n=>e=.returned (.tuple #[])/\fb (jm b (s.iD key th).2) w L n:=by
 obtain⟨L1,r,l,u,m⟩:=y;refine b_ (wP w1 b _ L1 t r R5 z) λn ⟨p,k1,k2,k3,k4⟩=>?_;rw[wO B];have D:=m.size;refine⟨rfl,p,?_,λk j=>?_,λk j=>k3 k (u k j),m.trans k4 l⟩
 ·rw[C]at k1;exact k1
 rcases k2 k j with h|h
 ·exact l k h
 exact .inr R5
def KS(w n s L key text)(h:jm n s w L)(J:s.ct.length<=1000)(I:key.size<=20000000)(N:text.size<=20000000)(G:(dc s.jr).length<=1000000000000000000):Calls prog 68 #[ptr n,.string key,.string text] w λe C=>e=.returned (.int .i64 ((s.mH key.1.1 text.1.1).1:Nat))/\fb (jm n (s.mH key.1.1 text.1.1).2) w L C:=by
 have B:=KQ w n s L key text h J I N;have K:(⟨#[112,117,116,32]⟩++key:ba).size=4+key.size:=TY;have M:(⟨#[112,117,116,32]⟩++key++⟨#[32]⟩:ba).size=4+key.size+1:=by rw[Q4,K];rfl
 have R:(⟨#[112,117,116,32]⟩++key++⟨#[32]⟩++text:ba).size=4+key.size+1+text.size:=by rw[Q4,M]
 have S:(⟨#[112,117,116,32]⟩:ba).size=4:=rfl;have T:(⟨#[32]⟩:ba).size=1:=rfl;have z:∀v y,bY.sY text.1.1=some v->¬(bY.cv s.ct key.1.1=none/\40<=s.ct.length)->fb (jm n {s with ct:=bY.put s.ct key.1.1 ⟨v,none,[],none⟩}) w L y->Calls prog 105 #[ptr n,.string (⟨#[112,117,116,32]⟩++key++⟨#[32]⟩++text)] y λe C=>e=.returned (.tuple #[])/\fb (jm n (s.iD key.1.1 ⟨v,none,[],none⟩).2) w L C:=λv y j b E=>by
  refine yJ b E ?_ R5 G;rw[dI,dI,dI,(bY.qS j).2];show[112,117,116,32]++key.1.1++[32]++_=[112,117,116,32]++key.1.1++32::_;simp
 unfold ptr at B z ⊢;have r:=bZ B;have u:=bZ z;clear B z h;have O:¬9223372036854775807<4+key.size:=R5;have P:¬9223372036854775807<4+key.size+1:=R5;have Q:¬9223372036854775807<4+key.size+1+text.size:=R5;go_enter func68,ntmps68;go_wp2_with fail;refine r.Z.mono ?_;rintro e y (⟨b,rfl,l⟩|⟨b,j,rfl,l⟩|⟨b,v,j,⟨p,rfl,l⟩|⟨p,rfl,l⟩⟩)
 ·have m:Hid (s.mH key.1.1 text.1.1=(1,s)):=bZ (by unfold bY.LS.mH;rw[ag b]);clear r u b;go_wp2;go_ret;rw[m.Z];exact⟨rfl,l⟩
 ·have m:Hid (s.mH key.1.1 text.1.1=(6,s)):=bZ (by unfold bY.LS.mH;rw[ae TG,j]);clear r u b j;go_wp2;go_ret;rw[m.Z];exact⟨rfl,l⟩
 ·have m:Hid (s.mH key.1.1 text.1.1=(5,s)):=bZ (by unfold bY.LS.mH;rw[ae TG,j];exact yI p);clear r u b j p;go_wp2;go_ret;rw[m.Z];exact⟨rfl,l⟩
 have m:Hid (s.mH key.1.1 text.1.1=(0,(s.iD key.1.1 ⟨v,none,[],none⟩).2)):=bZ (by unfold bY.LS.mH;rw[ae TG,j];show s.iD _ _=_;rw[wO p]);have D:=bZ (u.Z v y j p l);clear r u b j p l;go_wp2_with(go_at_call 105;refine b_ D.Z λU F=>?_);go_ret;rw[m.Z];exact⟨rfl,F⟩
end Ref
end
section
open bY
open Tryz
namespace Ref
variable{l:a_}{p:Option Addr}
def KT(s w)(e:s.size<=20000000):Calls prog 38 #[.string s] w (Kh s.1.1 w (bY.check s.1.1).1 (bY.check s.1.1).2):=by
 by_cases h:200<s.size
 ·have b:bY.check s.1.1=(2,0):=by
   unfold bY.check;rw[ag TP]
  rw[b];exact GN s w h R5
 exact DU s w R5
def Nj{w w':Xa}{n k:Nat}(key)(y:(bY.check l).1=0)(h:∃(b:List Nd) (m:Nat),n=b.length/\b.length<=2000/\xB w' w.1.size (.slice p n k) b/\nT b m (b.length-1) (gZ l)/\0<b.length)(j:8<=w.1.size):km w' ⟨vn 0,some (gZ l),l,none⟩ ⟨key,l,.slice p n k,false,.slice none 0 0,.error 0⟩:=by
 obtain⟨b,m,rfl,h1,h2,r,u⟩:=h;have z:=(BA (yH y).1).2.2;have B:∃o,p=some o:=by
  rcases h2.row.2 with⟨_,E⟩|⟨g,C,D,e,_⟩
  ·omega
  cases e;exact⟨_,rfl⟩
 obtain⟨o,rfl⟩:=B;exact .inr ⟨_,b,m,o,k,rfl,rfl,rfl,⟨mW h2.row j,λd hd=>⟨(h2.all d hd).1,mW (h2.all d hd).2 j⟩⟩,r,u,h1,z⟩
def Nk(b:Nat)(s:LS)(key text:a_)(w:Xa)(L:Nat->Prop)(e:Ending)(w':Xa):Prop :=(dB key=false/\e=.returned (.tuple #[.int .i64 1,.int .i64 0])/\fb (jm b s) w L w')\/(dB key=true/\(bY.check text).1≠0/\e=.returned (.tuple #[.int .i64 ((bY.check text).1:Int),.int .i64 ((bY.check text).2:Int)])/\fb (jm b s) w L w')\/(dB key=true/\(bY.check text).1=0/\∃c,e=.returned (.tuple #[.int .i64 c,.int .i64 0])/\m_ b s key ⟨vn 0,some (gZ text),text,none⟩ w L (.returned (.int .i64 c)) w')
def KU(w r s L key text)(h:jm r s w L)(V:s.ct.length<=1000)(U:key.size<=20000000)(Y:text.size<=20000000):Calls prog 106 #[ptr r,.string key,.string text] w (Nk r s key.1.1 text.1.1 w L):=by
 have K:=dT key w U;rw[oe]at K;have S:8<=w.1.size:=by
  obtain⟨d,Z,fl,vA,vF,vB,vR,vN,h⟩:=h;exact ah (h.cz _ h.here).1 (aF (h.cz.lt h.here))
 have P:=KT text w Y;have z:=bZ K;have C:=bZ P;have G:=bZ h;clear K P h;cases y:dB key.1.1 with
 |false =>
  rw[y]at z;unfold ptr;go_enter func106,ntmps106;go_wp2_with(go_at_call 108;refine z.Z.mono ?_;rintro e Q ⟨rfl,rfl⟩);go_ret2;exact .inl ⟨y,rfl,fb.refl G.Z⟩
 |true =>
  rw[y]at z;have J:∀p n k j,Xc w j->km j ⟨vn 0,some (gZ text.1.1),text.1.1,none⟩ ⟨key.1.1,text.1.1,.slice p n k,false,.slice none 0 0,.error 0⟩->Calls prog 147 #[ptr r,.agg #[.string key,.string text,.slice p n k,.bool false,.slice none 0 0,.int .i64 0,.string ⟨#[]⟩]] j (m_ r s key.1.1 ⟨vn 0,some (gZ text.1.1),text.1.1,none⟩ w L):=λp n k j m T=>by
   refine(yG j r s L key text p n k _ (G.Z.below m) T rfl V).mono ?_;intro e Q X;rcases X with⟨a,b,c⟩|⟨a,b,c⟩
   ·exact .inl ⟨a,b,fb.pre m c⟩
   exact .inr ⟨a,b,fb.pre m c⟩
  have I:=bZ y;have O:=λ(p:Option Addr) (n k:Nat) (j:Xa) D h=>Nj (w:=w) (w':=j) (p:=p) (n:=n) (k:=k) (l:=text.1.1) key.1.1 D h S;unfold ptr at J ⊢;have F:=bZ J;have B:=bZ O;clear J O;obtain⟨c,E⟩:∃c,(bY.check text.1.1).1=c:=⟨_,rfl⟩;obtain⟨i,M⟩:∃i,(bY.check text.1.1).2=i:=⟨_,rfl⟩;rw[E,M]at C;rw[E]at B;have u:=bZ (And.intro E M);clear E M y;go_enter func106,ntmps106;go_wp2_with(go_at_call 108;refine z.Z.mono ?_;rintro e Q ⟨rfl,rfl⟩);refine C.Z.mono ?_;rintro e j⟨⟨p,n,k,rfl,N⟩,m⟩;by_cases D:c=0
  ·subst D;have R:=bZ (F.Z p n k j m (B.Z p n k j rfl (N rfl)));clear F B C N;go_wp2_with fail;refine R.Z.mono ?_;rintro e w2 (⟨a,rfl,c⟩|⟨a,rfl,c⟩)
   ·go_wp2;go_ret2;exact .inr (.inr ⟨I.Z,u.Z.1,5,rfl,.inl ⟨a,rfl,c⟩⟩)
   go_wp2;go_ret2;exact .inr (.inr ⟨I.Z,u.Z.1,0,rfl,.inr ⟨a,rfl,c⟩⟩)
  have aa:¬((c:Int)=0):=R5;clear F B C N;go_wp2;go_ret2;exact .inr (.inl ⟨I.Z,by rw[u.Z.1];exact D,by rw[u.Z.1,u.Z.2];rfl,fb.pre m (fb.refl (G.Z.below m))⟩)
def KV(w u s L key text)(h:jm u s w L)(O:s.ct.length<=1000)(N:key.size<=20000000)(R:text.size<=20000000)(M:(dc s.jr).length<=1000000000000000000):Calls prog 69 #[ptr u,.string key,.string text] w λe G=>e=.returned (.tuple #[.int .i64 ((s.lj key.1.1 text.1.1).1.1:Nat),.int .i64 ((s.lj key.1.1 text.1.1).1.2:Nat)])/\fb (jm u (s.lj key.1.1 text.1.1).2) w L G:=by
 have F:=KU w u s L key text h O N R;have P:(⟨#[115,101,116,32]⟩++key:ba).size=4+key.size:=TY;have Q:(⟨#[115,101,116,32]⟩++key++⟨#[32]⟩:ba).size=4+key.size+1:=by rw[Q4,P];rfl
 have X:(⟨#[115,101,116,32]⟩++key++⟨#[32]⟩++text:ba).size=4+key.size+1+text.size:=by rw[Q4,Q]
 have Y:(⟨#[115,101,116,32]⟩:ba).size=4:=rfl;have Z:(⟨#[32]⟩:ba).size=1:=rfl;have E:∀C,¬(bY.cv s.ct key.1.1=none/\40<=s.ct.length)->fb (jm u {s with ct:=bY.put s.ct key.1.1 ⟨vn 0,some (gZ text.1.1),text.1.1,none⟩}) w L C->Calls prog 105 #[ptr u,.string (⟨#[115,101,116,32]⟩++key++⟨#[32]⟩++text)] C λe G=>e=.returned (.tuple #[])/\fb (jm u (s.iD key.1.1 ⟨vn 0,some (gZ text.1.1),text.1.1,none⟩).2) w L G:=λC b J=>by
  refine yJ b J ?_ R5 M;rw[dI,dI,dI];show[115,101,116,32]++key.1.1++[32]++_=[115,101,116,32]++key.1.1++32::_;simp
 unfold ptr at F E ⊢;have z:=bZ F;have B:=bZ E;clear F E h;have S:¬9223372036854775807<4+key.size:=R5;have T:¬9223372036854775807<4+key.size+1:=R5;have U:¬9223372036854775807<4+key.size+1+text.size:=R5;go_enter func69,ntmps69;go_wp2_with fail;refine z.Z.mono ?_;rintro e C (⟨b,rfl,n⟩|⟨b,r,rfl,n⟩|⟨b,r,c,rfl,⟨y,j,n⟩|⟨y,j,n⟩⟩)
 ·have m:Hid (s.lj key.1.1 text.1.1=((1,0),s)):=bZ (by unfold LS.lj;rw[ag b]);clear z B b;go_wp2;go_ret2;rw[m.Z];exact⟨rfl,n⟩
 ·have m:Hid (s.lj key.1.1 text.1.1=(bY.check text.1.1,s)):=bZ (by unfold LS.lj;rw[ae TG,ae r]);have V:¬(((bY.check text.1.1).1:Int)=0):=R5;have D:Hid ((s.lj key.1.1 text.1.1).1.1=(bY.check text.1.1).1/\(s.lj key.1.1 text.1.1).1.2=(bY.check text.1.1).2/\(s.lj key.1.1 text.1.1).2=s):=bZ (by rw[m.Z];exact⟨rfl,rfl,rfl⟩);clear z B b r m;go_wp2;go_ret2;rw[D.Z.1,D.Z.2.1,D.Z.2.2];exact⟨rfl,n⟩
 ·have m:Hid (s.lj key.1.1 text.1.1=((5,0),s)):=bZ (by unfold LS.lj;rw[ae TG,ag r,yI y]);obtain rfl:c=5:=by injection j with j;injection j
  clear z B b r y j;go_wp2;go_ret2;rw[m.Z];exact⟨rfl,n⟩
 have m:Hid (s.lj key.1.1 text.1.1=((0,0),(s.iD key.1.1 ⟨vn 0,some (gZ text.1.1),text.1.1,none⟩).2)):=bZ (by unfold LS.lj;rw[ae TG,ag r,wO y]);obtain rfl:c=0:=by injection j with j;injection j
 have I:=bZ (B.Z C y n);clear z B b r y n j;go_wp2_with(go_at_call 105;refine b_ I.Z λw2 K=>?_);go_ret2;rw[m.Z];exact⟨rfl,K⟩
end Ref
end
section
open Tryz
variable{s:bY.LS}{rn:List (a_)}{L:Nat->Prop}{b:List (a_×bY.Wo)}
def bY.LS.kX(s:bY.LS)(key:a_):Nat×bY.LS:=if bY.dB key=false then(1,s)else if(bY.cv s.ct key).isNone=true then(7,s) else(0,s.drop key)
namespace Ref
def gj.one{w:Xa}{D:Nat}{n:List En}{E G F J I:Xb}(h:gj w D s rn L n b E G F J I):∀u∈n.flatMap En.cells,u.oneCell'=true:=λu hu=>by
 obtain⟨e,B,j⟩:=Sm.1 hu;obtain⟨i,hi⟩:=Sa B;have y:=(aA.1 hi).1;rw[h.jN]at y;have p:=h.p6 i _ e (aq y) hi;have h1:e.fc.oneCell'=true:=by
  rcases p.fc with⟨_,_,l⟩|⟨_,_,_,_,_,_,_,l,_⟩<;>(rw[l];rfl)
 have h2:e.np.oneCell'=true:=by
  rcases p.kept with⟨_,_,l⟩|⟨K,_,_,_,z,_⟩
  ·rw[l];rfl
  obtain⟨o,c,l⟩:=dD z;rw[l];rfl
 unfold En.cells at j;have C:∀v∈dY e.w,v.oneCell'=true:=λv m=>by
  generalize e.w=r at m;cases r<;>(simp[dY]at m;rcases m with rfl|rfl<;>rfl)
 rcases aK.1 j with rfl|j
 ·rfl
 rcases aK.1 j with rfl|j
 ·rfl
 rcases aK.1 j with rfl|j
 ·exact h1
 rcases aK.1 j with rfl|j
 ·rfl
 rcases aK.1 j with rfl|j
 ·exact h2
 exact C u j
def GY{w:Xa}{l:List En}{g m:Nat}(h:w.ownsRow 8 168 7 (.slice (some ⟨g,0,none⟩) l.length m) l.length (l.flatMap En.cells))(i)(hi:i<=l.length):∀j u,((l.drop i).flatMap En.cells)[j]?=some u->w.cell? ⟨g,i*7+j,none⟩=some u:=λj u n=>by
 have:=h.cells (g:=g) rfl (i*7+j) u (by
  have e:l.flatMap En.cells=(l.take i).flatMap En.cells++(l.drop i).flatMap En.cells:=by rw[<-Rm,R8]
  have p:((l.take i).flatMap En.cells).length=i*7:=by rw[wN,Rf,SX hi]
  rw[e,aX R5,p,RQ];exact n)
 rw[addr_add,aG]at this;exact this
def D4{w:Xa}{l:List En}{g n:Nat}(h:w.ownsRow 8 168 7 (.slice (some ⟨g,0,none⟩) l.length n) l.length (l.flatMap En.cells))(i):∀j u,((l.take i).flatMap En.cells)[j]?=some u->w.cell? ⟨g,0+j,none⟩=some u:=λj u m=>by
 have:=h.cells (g:=g) rfl j u (by
  have e:l.flatMap En.cells=(l.take i).flatMap En.cells++(l.drop i).flatMap En.cells:=by rw[<-Rm,R8]
  rw[e,aP (aA.1 m).1];exact m)
 rw[addr_add]at this;exact this
def KW(j:Nat)(s:bY.LS)(key:a_)(w:Xa)(L:Nat->Prop)(e:Ending)(w':Xa):Prop :=(bY.dB key=false/\e=.returned (.int .i64 1)/\fb (jm j s) w L w')\/(bY.dB key=true/\bY.cv s.ct key=none/\e=.returned (.int .i64 7)/\fb (jm j s) w L w')\/(bY.dB key=true/\(bY.cv s.ct key).isSome=true/\e=.returned (.int .i64 0)/\fb (jm j {s with ct:=bY.del s.ct key}) w L w')
def GZ(w B s L key)(h:jm B s w L)(hl:s.ct.length<=900)(hk:key.size<=20000000):Calls prog 107 #[ptr B,.string key] w (KW B s key.1.1 w L):=by
 have V:=dT key w hk;rw[oe]at V;have HH:=bZ h;obtain⟨d,h⟩:=h;have hF:=lT w B _ [] L key h (by show s.ct.length<=_;omega);have T:8<=w.1.size:=ah (h.cz _ TZ).1 (aF (h.cz.lt TZ));obtain⟨l,b,vA,vF,vB,vR,vN,h⟩:=h;obtain⟨c0,_,_,_,_,_,cf⟩:=h.cells;have ad:=cj h.eb;have r:=bZ V;have p:=bZ h;unfold ptr at hF ⊢;have I:=bZ hF;clear V hF h;cases F:bY.dB key.1.1 with
 |false =>
  rw[F]at r;go_enter func107,ntmps107;go_wp2_with(go_at_call 108;refine r.Z.mono ?_;rintro e w' ⟨rfl,rfl⟩);go_ret;exact .inl ⟨F,rfl,fb.refl HH.Z⟩
 |true =>
  rw[F]at r;have P:=bZ F;clear F;go_enter func107,ntmps107;go_wp2_with(go_at_call 108;refine r.Z.mono ?_;rintro e w' ⟨rfl,rfl⟩);refine I.Z.mono ?_;rintro e w'⟨ao,hx⟩;have ap:=ao.symm;subst ap;rcases hx with⟨am,rfl⟩|⟨i,th,G,Z,rfl⟩
  ·clear I r;go_wp2;go_ret;exact .inr (.inl ⟨P.Z,am,rfl,fb.refl HH.Z⟩)
  obtain⟨e,g,m,Y,hE,hv,hg,hc⟩:=p.Z.entry G;have M:=p.Z.jN;have hi:=(aA.1 Y).1;rw[<-M]at hv;subst hv;have ay:l.length<=900:=by rw[M];exact hl
  have ax:l.length<=m:=by
   rcases p.Z.all.2 with⟨S,_⟩|⟨g',cp,av,S,_,_,ak,_⟩
   ·cases S
   cases S;exact ak
  have J:=p.Z.one;have D:(l.take i).length=i:=T7;obtain⟨o1,c1,w1,E,n⟩:=tQ.join (c:=m) (tQ.nil w) (D4 p.Z.all i) (λu hu=>J u (by
   obtain⟨a,X,C⟩:=Sm.1 hu;exact Sm.2 ⟨a,S9 X,C⟩)) T (by rw[D];simp;omega)
  rw[D]at E n;simp only[Ra,aG,Rz]at E n;have U:w1.ownsRow 8 168 7 (.slice (some ⟨g,0,none⟩) l.length m) l.length (l.flatMap En.cells):=cJ p.Z.all (λk hk cs fz C=>(n.eD.block k (cj C)).trans C);have d0:w1.cell? ⟨B,0,none⟩=some (.slice (some ⟨g,0,none⟩) l.length m):=(VS (n.eD.block B ad)).trans c0;have a4:B<w1.1.size:=aw ad n.eD.size;have N:(l.drop (i+1)).length=l.length-(i+1):=aV;have K:∀u∈(l.drop (i+1)).flatMap En.cells,u.oneCell'=true:=λu hu=>J u (by
   obtain⟨a,X,C⟩:=Sm.1 hu;exact Sm.2 ⟨a,List.mem_of_mem_drop X,C⟩)
  have a0:(i:Int)<(l.length:Int):=R5;have aa:=bZ (show(bY.cv s.ct key.1.1).isSome=true by have:bY.cv s.ct key.1.1=some th:=Z;rw[this];rfl);by_cases ab:m=i+1
  ·have ai:l.drop (i+1)=[]:=aT R5;obtain⟨o2,c2,w2,z,y⟩:=tQ.join (g:=g) (off:=0) (c:=m-(i+1)) n (ks:=l.drop (i+1)) (λj u hj=>by rw[ai]at hj;cases hj) K T (by rw[D,N];omega);rw[D,N]at z y;obtain⟨k1,k2,k3,k4⟩:=p.Z.KM G y;have Q:=bZ E;have R:=bZ z;have O:=bZ k1;have aC:(if m=i+1 then some (⟨g,0,none⟩:Addr)else some ⟨g,(i+1)*7,none⟩)=some ⟨g,0,none⟩:=ag ab;have a2:i+1<=l.length:=hi;have a3:i+1<=m:=R5;clear ai ab E z k1 n y U hc hE J K I r G Z Y M
   go_upto_region 10 with(first|(at_builtin;refine cW _ rfl _ _ _ _ rfl _ _ _ _ rfl rfl Q.Z ?_)|(at_builtin;refine cW _ rfl _ _ _ _ rfl _ _ _ _ rfl rfl R.Z ?_))
   go_wp2;go_ret;exact .inr (.inr ⟨P.Z,aa.Z,rfl,O.Z⟩)
  obtain⟨o2,c2,w2,z,y⟩:=tQ.join (g:=g) (off:=(i+1)*7) (c:=m-(i+1)) n (GY U (i+1) R5) K T (by rw[D,N];omega);rw[D,N]at z y;obtain⟨k1,k2,k3,k4⟩:=p.Z.KM G y;have Q:=bZ E;have R:=bZ z;have O:=bZ k1;clear E z k1 n y U hc hE J K I r G Z Y M
  go_upto_region 10 with(first|(at_builtin;refine cW _ rfl _ _ _ _ rfl _ _ _ _ rfl rfl Q.Z ?_)|(at_builtin;refine cW _ rfl _ _ _ _ rfl _ _ _ _ rfl rfl R.Z ?_))
  go_wp2;go_ret;exact .inr (.inr ⟨P.Z,aa.Z,rfl,O.Z⟩)
end Ref
end
section
open Tryz
namespace Ref
def G0(w j s L key)(h:jm j s w L)(Q:s.ct.length<=900)(r:key.size<=20000000)(P:(dc s.jr).length<=1000000000000000000):Calls prog 70 #[ptr j,.string key] w λe z=>e=.returned (.int .i64 ((s.kX key.1.1).1:Nat))/\fb (jm j (s.kX key.1.1).2) w L z:=by
 have C:=GZ w j s L key h Q r;have T:(⟨#[100,114,111,112,32]⟩++key:ba).size=5+key.size:=TY;have U:(⟨#[100,114,111,112,32]⟩:ba).size=5:=rfl;have B:∀n,fb (jm j {s with ct:=bY.del s.ct key.1.1}) w L n->Calls prog 105 #[ptr j,.string (⟨#[100,114,111,112,32]⟩++key)] n λe z=>e=.returned (.tuple #[])/\fb (jm j (s.drop key.1.1)) w L z:=λn N=>by
  obtain⟨L1,K,D,M,E⟩:=N;refine b_ (wP n j _ L1 _ K R5 P) λz ⟨J,k1,k2,k3,k4⟩=>?_;have S:=E.size;refine⟨rfl,J,?_,λk r=>?_,λk r=>k3 k (M k r),E.trans k4 D⟩
  ·rw[dI]at k1;exact k1
  rcases k2 k r with h|h
  ·exact D k h
  exact .inr R5
 unfold ptr at C B ⊢;have u:=bZ C;have y:=bZ B;clear C B h;have R:¬9223372036854775807<5+key.size:=R5;go_enter func70,ntmps70;go_wp2_with fail;refine u.Z.mono ?_;rintro e n (⟨b,rfl,l⟩|⟨b,m,rfl,l⟩|⟨b,m,rfl,l⟩)
 ·have p:Hid (s.kX key.1.1=(1,s)):=bZ (by unfold bY.LS.kX;rw[ag b]);clear u y b;go_wp2;go_ret;rw[p.Z];exact⟨rfl,l⟩
 ·have p:Hid (s.kX key.1.1=(7,s)):=bZ (by unfold bY.LS.kX;rw[ae TG,ag (by rw[m];rfl)]);clear u y b m;go_wp2;go_ret;rw[p.Z];exact⟨rfl,l⟩
 have p:Hid (s.kX key.1.1=(0,s.drop key.1.1)):=bZ (by
  unfold bY.LS.kX;rw[ae TG,ae (λF=>by
   cases G:bY.cv s.ct key.1.1 with
   |none=>rw[G]at m;cases m
   |some _=>rw[G]at F;cases F)])
 have I:=bZ (y.Z n l);clear u y b m l;go_wp2_with(go_at_call 105;refine b_ I.Z λV O=>?_);go_ret;rw[p.Z];exact⟨rfl,O⟩
end Ref
end
section
open bY
open Tryz
def bY.LS.gU(s:bY.LS)(key:a_):Nat×bY.LS:=if dB key=false then(1,s)else if cK s.ct key=none then(7,s) else(0,s.lX key)
namespace Ref
def K8(s:bY.LS)(key:a_)(w:Xa)(e:Ending)(w':Xa):Prop :=w'=w/\((dB key=false/\e=.returned (.tuple #[.int .i64 0,.int .i64 1])) \/(dB key=true/\cK s.ct key=none/\e=.returned (.tuple #[.int .i64 0,.int .i64 7])) \/∃(i:Nat) (b:cC) (j:gl),dB key=true/\s.ct[i]?=some (key,b)/\bY.cv s.ct key=some b/\b.kept=some j/\e=.returned (.tuple #[.int .i64 (i:Int),.int .i64 0]))
def yO(w:Xa)(J:Nat)(s:bY.LS)(L:Nat->Prop)(key:ba)(h:jm J s w L)(P:s.ct.length<=900)(V:key.size<=20000000):Calls prog 115 #[ptr J,.string key] w (K8 s key.1.1 w):=by
 have C:=dT key w V;rw[oe]at C;obtain⟨d,h⟩:=h;have hF:=lT w J _ [] L key h (by show s.ct.length<=_;omega);obtain⟨z,fl,vA,vF,vB,vR,vN,h⟩:=h;obtain⟨Z,_,_,_,_,_,cf⟩:=h.cells;have b:=bZ C;have n:=bZ h;unfold ptr at hF ⊢;have m:=bZ hF;clear C hF h;cases l:dB key.1.1 with
 |false =>
  rw[l]at b;go_enter func115,ntmps115;go_wp2_with(go_at_call 108;refine b.Z.mono ?_;rintro e T ⟨rfl,rfl⟩);go_ret2;exact⟨rfl,.inl ⟨l,rfl⟩⟩
 |true =>
  rw[l]at b;have y:=bZ l;clear l;go_enter func115,ntmps115;go_wp2_with(go_at_call 108;refine b.Z.mono ?_;rintro e T ⟨rfl,rfl⟩);refine m.Z.mono ?_;rintro e T⟨X,hx⟩;have Y:=X.symm;subst Y;rcases hx with⟨Q,rfl⟩|⟨i,u,r,I,rfl⟩
  ·have j:Hid (cK s.ct key.1.1=none):=bZ (by unfold cK;have:bY.cv s.ct key.1.1=none:=Q;rw[this];rfl);clear m b Q;go_wp2;go_ret2;exact⟨rfl,.inr (.inl ⟨y.Z,j.Z,rfl⟩)⟩
  obtain⟨e,g,aa,E,B,R,hg,D⟩:=n.Z.entry r;have p:=n.Z.jN;have hi:i<z.length:=(aA.1 E).1;have O:z.length=s.ct.length:=p;rw[<-p]at R;subst R;have ab:(i:Int)<(z.length:Int):=R5;have M:w.cell? ⟨g,i*7+3,none⟩=some (.bool e.kept):=D 3 _ rfl;have N:=B.kept;rw[ae S5]at N;have U:=bZ (show s.ct[i]?=some (key.1.1,u)from r);have K:=bZ (show bY.cv s.ct key.1.1=some u from I);rcases N with⟨F,G,_⟩|⟨S,F,G,_⟩
  ·rw[G]at M;have j:Hid (cK s.ct key.1.1=none):=bZ (by unfold cK;rw[K.Z];exact F);clear m b D B r I E p n O P;go_wp2;go_ret2;exact⟨rfl,.inr (.inl ⟨y.Z,j.Z,rfl⟩)⟩
  rw[G]at M;have j:=bZ (show u.kept=some S from F);clear m b D B r I E p n O P;go_wp2;go_ret2;exact⟨rfl,.inr (.inr ⟨i,u,S,y.Z,U.Z,K.Z,j.Z,rfl⟩)⟩
def yP(s:bY.LS)(key:a_)(w:Xa)(e:Ending)(w':Xa):Prop :=Xc w w'/\((dB key=false/\e=.returned (.tuple #[.agg #[.int .i64 0,.string ⟨#[]⟩],.slice none 0 0,.int .i64 1])) \/(dB key=true/\cK s.ct key=none/\e=.returned (.tuple #[.agg #[.int .i64 0,.string ⟨#[]⟩],.slice none 0 0,.int .i64 7])) \/∃(b:gl) (j:Xb),dB key=true/\cK s.ct key=some b/\e=.returned (.tuple #[dC b.dR,j,.int .i64 0])/\w'.ownsRow 8 204 3 j b.cH.length (b.cH.flatMap eh)/\b.cH.length<=401)
def Ha(w:Xa)(n:Nat)(s:bY.LS)(L:Nat->Prop)(key:ba)(h:jm n s w L)(X:s.ct.length<=900)(J:key.size<=20000000):Calls prog 112 #[ptr n,.string key] w (yP s key.1.1 w):=by
 have ai:∀k,L k->k<w.1.size:=by obtain⟨d,h⟩:=h;exact λk J=>h.cz.lt J
 have h:jm n s (dV w) L:=by obtain⟨d,h⟩:=h;exact⟨d,h.below (eg w)⟩
 have F:=bZ (λx y=>fj (VM _ (dV w)) x y);have G:=yO (dV w) n s L key h X J;have B:=eP w;obtain⟨d,E,fl,vA,vF,vB,vR,vN,h⟩:=h;obtain⟨D,b1,b2,b3,b4⟩:=cX B;obtain⟨c0,_,_,_,_,_,cf⟩:=h.cells;have j:=bZ h;unfold ptr at G ⊢;have p:=bZ G;clear G h;go_enter func112,ntmps112;go_wp2_with fail;refine p.Z.mono ?_;rintro e w'⟨av,hx⟩;have ax:=av.symm;subst ax;rcases hx with⟨m,rfl⟩|⟨m,aa,rfl⟩|⟨i,M,kp,m,hp,Y,z,rfl⟩
 ·clear p;go_wp2;exact VN (v:=.tuple #[.agg #[.int .i64 0,.string ⟨#[]⟩],.slice none 0 0,.int .i64 1]) Uz rfl ⟨F.Z _ _,.inl ⟨m,rfl⟩⟩
 ·have C:=bZ aa;clear p aa;go_wp2;exact VN (v:=.tuple #[.agg #[.int .i64 0,.string ⟨#[]⟩],.slice none 0 0,.int .i64 7]) Uz rfl ⟨F.Z _ _,.inr (.inl ⟨m,C.Z,rfl⟩)⟩
 obtain⟨e,g,ay,Q,O,hv,S,r⟩:=j.Z.entry (i:=i) (p:=(key.1.1,M)) hp;have I:=j.Z.jN;have hi:i<E.length:=(aA.1 Q).1;have ak:E.length=s.ct.length:=I;rw[<-I]at hv;subst hv;have a3:(i:Int)<(E.length:Int):=R5;have R:=O.kept;rw[ae S5]at R;rcases R with⟨l,_,_⟩|⟨b,l,am,T,U,V,ao⟩
 ·rw[show M.kept=none from l]at z;cases z
 have ap:b=kp:=aB ((show M.kept=some b from l).symm.trans z);subst ap;obtain⟨K,N,ht,hw⟩:=Go.Proofs.YtpekpdimdelncaaGreatDoor.dw b.dR;have u:e.cells=[str e.key,str e.text,e.fc,.bool e.kept,e.np,.int .i64 K,.string N]:=by
  unfold En.cells;rw[T,hw]
 have h4:(dV w).cell? ⟨g,i*7+4,none⟩=some e.np:=r 4 _ (by rw[u];rfl);have h5:(dV w).cell? ⟨g,i*7+5,none⟩=some (.int .i64 K):=r 5 _ (by rw[u];rfl);have h6:(dV w).cell? ⟨g,i*7+6,none⟩=some (.string N):=r 6 _ (by rw[u];rfl);have ab:∀x y:Xb,(((dV w).setCell ⟨w.1.size,0,none⟩ x).setCell ⟨w.1.size,1,none⟩ y).ownsRow 8 204 3 e.np b.cH.length (b.cH.flatMap eh):=λx y=>cJ U (λg S cs fz hb=>by
  have Z:g≠w.1.size:=Nat.ne_of_lt (ai g (V g S));rw[VU _ _ g _ Z,VU _ _ g _ Z];exact hb)
 obtain⟨aC,a0,P⟩:=cE j.Z.all (g:=g) rfl;have a2:g≠w.1.size:=fB P B S4;have a5:n≠w.1.size:=fB j.Z.eb B S4;have C:=bZ (show cK s.ct key.1.1=some b from by unfold cK;rw[Y];exact l);have HT:=bZ ht;have ad:=bZ ab;generalize a4:e.np=np at *;clear p r O hp Y Q I j ak X l am T U V z ht hw u ab P B;go_wp2_with fail
 go_region
 go_wp2;exact VN (v:=.tuple #[.agg #[.int .i64 K,.string N],np,.int .i64 0]) Uz rfl ⟨(F.Z _ _).drew,.inr (.inr ⟨b,np,m,C.Z,by rw[HT.Z],(ad.Z _ _).drew,ao⟩)⟩
def B7(w:Xa)(b:Nat)(s:bY.LS)(L:Nat->Prop)(key:ba)(h:jm b s w L)(Q:s.ct.length<=900)(p:key.size<=20000000)(hj:(dc s.jr).length<=1000000000000000000):Calls prog 76 #[ptr b,.string key] w λe r=>e=.returned (.int .i64 ((s.gU key.1.1).1:Nat))/\fb (jm b (s.gU key.1.1).2) w L r:=by
 have F:=yO w b s L key h Q p;have N:=bZ h;have G:∀u,jm b {s with ct:=bY.da s.ct key.1.1 none} u L->eu L w u->Calls prog 105 #[ptr b,.string (⟨#[108,111,115,101,32]⟩++key)] u λe r=>e=.returned (.tuple #[])/\fb (jm b (s.lX key.1.1)) w L r:=λu h1 O=>by
  refine b_ (wP u b _ L _ h1 (by rw[Q4];show 5+_<=_;omega) hj) λr ⟨Z,k1,k2,k3,k4⟩=>?_;have hs:=O.size;refine⟨rfl,Z,?_,λk p=>?_,k3,O.trans k4 (λk p=>.inl p)⟩
  ·rw[dI]at k1;exact k1
  rcases k2 k p with h|h
  ·exact .inl h
  exact .inr R5
 obtain⟨d,D,fl,vA,vF,vB,vR,vN,h⟩:=h;obtain⟨c0,_,_,_,_,_,cf⟩:=h.cells;have a2:=cj h.eb;have l:=bZ h;unfold ptr at F G ⊢;have y:=bZ F;have z:=bZ G;clear F G h;have ax:¬9223372036854775807<5+key.size:=R5;have a3:(⟨#[108,111,115,101,32]⟩:ba).size=5:=rfl;go_enter func76,ntmps76;go_wp2_with fail;refine y.Z.mono ?_;rintro e r⟨ai,hx⟩;have ak:=ai.symm;subst ak;rcases hx with⟨m,rfl⟩|⟨m,S,rfl⟩|⟨i,C,kp,m,B,R,P,rfl⟩
 ·have n:Hid (s.gU key.1.1=(1,s)):=bZ (by unfold bY.LS.gU;rw[ag m]);clear y z;go_wp2;go_ret;rw[n.Z];exact⟨rfl,fb.refl N.Z⟩
 ·have n:Hid (s.gU key.1.1=(7,s)):=bZ (by unfold bY.LS.gU;rw[ae (by rw[m];simp),ag S]);clear y z S;go_wp2;go_ret;rw[n.Z];exact⟨rfl,fb.refl N.Z⟩
 have n:Hid (s.gU key.1.1=(0,s.lX key.1.1)):=bZ (by
  unfold bY.LS.gU;rw[ae (by rw[m];simp),ae (by unfold cK;rw[R];show C.kept≠none;rw[P];simp)])
 obtain⟨e,g,am,K,hE,T,hg,J⟩:=l.Z.entry (i:=i) (p:=(key.1.1,C)) B;have M:=l.Z.jN;have hi:i<D.length:=(aA.1 K).1;have ab:D.length=s.ct.length:=M;rw[<-M]at T;subst T;have a0:(i:Int)<(D.length:Int):=R5;have h3:=J 3 _ rfl;have h4:=J 4 _ rfl;obtain⟨ao,av,I⟩:=cE l.Z.all (g:=g) rfl;have ay:∀j,w.frozen? ⟨g,j,none⟩=false:=λj=>by
  rcases l.Z.all.2 with⟨E,_⟩|⟨g',cp,ap,E,_,hb,_⟩
  ·cases E
  have ad:some g=some g':=congrArg Value.ownBlock E;cases ad;simp[World.frozen?,hb]
 have aC:g≠b:=λe=>by rw[e,l.Z.eb]at I;cases I
 obtain⟨U,V⟩:=l.Z.Kv (p:=(key.1.1,C)) B K;have X:=U.Kz (p:=(key.1.1,C)) B S5;have Y:=bZ (z.Z _ ⟨d,_,_,_,_,_,_,_,X⟩ V);clear y z J hE B R K M l ab Q P U V X I m;go_wp2_with(go_at_call 105;refine b_ Y.Z λw2 aa=>?_);go_ret;rw[n.Z];exact⟨rfl,aa⟩
end Ref
end
