/- Out of L26. -/
import Derived.Test.YtpekpdimdelncaaGreatDoorP25
set_option linter.unusedVariables false
set_option linter.unusedSimpArgs false
set_option maxRecDepth 100000
set_option maxHeartbeats 1000000
set_option linter.defProp false
namespace Go.Proofs.YtpekpdimdelncaaGreatDoor
open Go.RowKit Go.Shelf
section
open bY
open Tryz
variable{n l p hb db:Nat}{w1 w2:QV}{j:ba}{s r:LS}{L:Nat->Prop}{th:cu}{t:bY.T}
def Fy{we z:QV}(T:pW l (cC n) (Pre n)){E:Nat->Prop}{vb vr vn vj:Xa}(h:LP we l r E hb db vb vr vn vj)(g:G we)(hd:jI we)(C:j.size<=200)(a2:∀s' w',cH we l E s' w'->cH w1 l L s' w')(D:wJ n s)(F:jg s r 401)(S:fN r<=fN s)(hl:bY.cr r.cm j.1.1=some th)(J:th.dc=some t)(hp:kB we l j.1.1 p)(y)(Z:Xb we z)(cs)(hcs:cs=(dB y).toArray):∃g' m w3,(Builtin.append_ #[55,55] 55 #[vn,.slice (some ⟨z.1.size,0,none⟩) 1 1]).run prog (z.alloc (.cells cs 61))=.ok (.slice (some ⟨g',0,none⟩) (r.du.length+1) m) w3 /\w3.cell? ⟨l,4,none⟩=some vn/\w3.frozen? ⟨l,4,none⟩=false/\(∀k,we.1.size<=k->k<z.1.size->w3.1[k]?=z.1[k]?) /\Calls prog 125 #[ptr l,.string j,ptr p] (w3.setCell ⟨l,4,none⟩ (.slice (some ⟨g',0,none⟩) (r.du.length+1) m)) λe K=>∃c i,e=.returned (.agg #[.int .i64 c,i])/\(i=.nilIface\/∃t a,i=.iface t a)/\g_ K (fR (cC n) j.1.1 t y r).1 (.agg #[.int .i64 c,i])/\cH w1 l L (fR (cC n) j.1.1 t y r).2 K/\fN (fR (cC n) j.1.1 t y r).2<=fN s+LM:=by
 have a0:r.du.length<=1000:=by have:=F.du;have:=D.du;omega
 obtain⟨g',m,w3,hr,hc,hf,B,am⟩:=CK h g Z y a0 cs hcs;refine⟨g',m,w3,hr,hc,hf,am,?_⟩;have hA:fD we l r E:=⟨_,_,_,_,_,_,h⟩;have V:=B.g hA g;have d4:=B.pD hA g hd;obtain⟨U,M,a5,a3⟩:=B.then;have R:kB (w3.setCell ⟨l,4,none⟩ (.slice (some ⟨g',0,none⟩) (r.du.length+1) m)) l j.1.1 p:=by
  obtain⟨_,_,_,_,ai⟩:=B;exact hp.Hw ai
 have ao:j.1.1.length<=200:=by simpa using C
 have I:bY.cr ({ r with du:=r.du++[y] }:LS).cm _=some th:=hl;obtain⟨v0,r0,k0,P,_,_,X,_⟩:=R.thing M R6 I;rcases X with⟨u,_⟩|⟨t',a,u,rfl,rfl,av,hx⟩
 ·rw[J]at u;cases u
 rw[J]at u;cases u;obtain⟨b,ad⟩:=AB hx;rw[ad]at hx P;have c1:(w3.setCell ⟨l,4,none⟩ (.slice (some ⟨g',0,none⟩) (r.du.length+1) m)).cell? ⟨p,1,none⟩=some (ptr b):=by simp[World.cell?,P]
 have ay:fN ({ r with du:=r.du++[y] }:LS)=fN r:=q8 rfl rfl rfl;refine(K3 _ l p b j _ _ T { r with du:=r.du++[y] } U M V d4 C (λs' c ab hc aC=>D.run F S y ab hc aC) (by rw[ay];exact ah S D.K_) t th I J R av hx c1).mono ?_;rintro e K⟨x,rfl,O,N,a4⟩;obtain⟨c,i,rfl,hi⟩:=O.form;refine⟨c,i,rfl,hi,O,a2 _ _ (a3 _ _ N),?_⟩;have ak:=F.kb D.kb;have aa:∀k s,KB s.cm->jg s (cC n k s).2 1:=λk s C=>gM n k s C;have Q:=(tB aa (tr (hM t) t none 400) 400 { r with du:=r.du++[y] } [] ak (lW _ _ _ _)).1;have ax:bY.prog t=(tr _ t none 400).dQ:=rfl;rw[<-ax]at Q;obtain⟨a6,ap,_⟩:=Ay Q I;obtain⟨L5,Y,_⟩:=N;have:=Lb ao ((bY.prog t).run _ ({ r with du:=r.du++[y] },[])) ap Y;show fN (gT _ ((bY.prog t).run _ ({ r with du:=r.du++[y] },[]))).2<=_;omega
def OA(n:Nat)(w1:QV)(l p:Nat)(j:ba)(s:LS)(L:Nat->Prop)(t:bY.T)(kp:Option fM)(e:Ending)(w2:QV):Prop :=(∃y,e=.returned (.tuple #[.agg (dB y).toArray,.bool true])/\eZ (cC n) j.1.1 t kp s=fR (cC n) j.1.1 t y (match kp with|none=>s|some k=>(en (cC n) j.1.1 k.cO s).2) /\∃vn,∀b,Xb w2 b->b.cell? ⟨l,4,none⟩=some vn/\(∃o m c,vn=.slice o m c)/\∃g' z m w3,(Builtin.append_ #[55,55] 55 #[vn,.slice (some ⟨b.1.size,0,none⟩) 1 1]).run prog (b.alloc (.cells (dB y).toArray 61))=.ok (.slice (some ⟨g',0,none⟩) m z) w3 /\w3.cell? ⟨l,4,none⟩=some vn/\w3.frozen? ⟨l,4,none⟩=false/\(∀k,w2.1.size<=k->k<b.1.size->w3.1[k]?=b.1[k]?) /\Calls prog 125 #[ptr l,.string j,ptr p] (w3.setCell ⟨l,4,none⟩ (.slice (some ⟨g',0,none⟩) m z)) λe B=>∃(c:Int) (i:Xa),e=.returned (.agg #[.int .i64 c,i])/\(i=.nilIface\/∃t a,i=.iface t a)/\g_ B (eZ (cC n) j.1.1 t kp s).1 (.agg #[.int .i64 c,i])/\cH w1 l L (eZ (cC n) j.1.1 t kp s).2 B/\fN (eZ (cC n) j.1.1 t kp s).2<=fN s+LM) \/(e=.returned (.tuple #[.agg dY,.bool false])/\∃u c i,(i=.nilIface\/∃t a,i=.iface t a)/\∀b,Xb w2 b->b.cell? ⟨p,3,none⟩=some (ptr u)/\b.cell? ⟨u,0,none⟩=some (.int .i64 c)/\b.cell? ⟨u,1,none⟩=some i /\
  g_ b (eZ (cC n) j.1.1 t kp s).1 (.agg #[.int .i64 c,i])/\cH w1 l L (eZ (cC n) j.1.1 t kp s).2 b/\fN (eZ (cC n) j.1.1 t kp s).2<=fN s+LM)
def LP.Nv{w:QV}{b u vn e:Xa}(h:LP w l s L hb db b u vn e):∃o m c,vn=.slice o m c:=by
 rcases h.du.2 with⟨rfl,_⟩|⟨g,y,z,rfl,_⟩
 ·exact⟨_,_,_,rfl⟩
 exact⟨_,_,_,rfl⟩
def MV(F:pW l (cC n) (Pre n))(C:fD w1 l s L)(B:G w1)(d1:jI w1)(z:cH w1 l L r w2)(R:j.size<=200)(V:wJ n s)(P:jg s r 401)(U:fN r<=fN s)(hl:bY.cr r.cm j.1.1=some th)(X:th.dc=some t)(S:kB w1 l j.1.1 p)(y):∃vn,∀b,Xb w2 b->b.cell? ⟨l,4,none⟩=some vn/\(∃o m c,vn=.slice o m c)/\∃g' u m w3,(Builtin.append_ #[55,55] 55 #[vn,.slice (some ⟨b.1.size,0,none⟩) 1 1]).run prog (b.alloc (.cells (dB y).toArray 61))=.ok (.slice (some ⟨g',0,none⟩) m u) w3 /\w3.cell? ⟨l,4,none⟩=some vn/\w3.frozen? ⟨l,4,none⟩=false/\(∀k,w2.1.size<=k->k<b.1.size->w3.1[k]?=b.1[k]?) /\Calls prog 125 #[ptr l,.string j,ptr p] (w3.setCell ⟨l,4,none⟩ (.slice (some ⟨g',0,none⟩) m u)) λe E=>∃c i,e=.returned (.agg #[.int .i64 c,i])/\(i=.nilIface\/∃t a,i=.iface t a)/\g_ E (fR (cC n) j.1.1 t y r).1 (.agg #[.int .i64 c,i])/\cH w1 l L (fR (cC n) j.1.1 t y r).2 E/\fN (fR (cC n) j.1.1 t y r).2<=fN s+LM:=by
 have I:=z.g C B;have d2:=z.pD C B d1;have T:kB w2 l j.1.1 p:=by
  obtain⟨_,_,_,_,Q⟩:=z;exact S.Hw Q
 obtain⟨Z,⟨hb,db,vb,vr,vn,vj,h2⟩,_,Y⟩:=z.then;refine⟨vn,λb D=>⟨?_,h2.Nv,?_⟩⟩
 ·have:=(D.block l (cj h2.eb)).trans h2.eb;simp[World.cell?,this]
 obtain⟨g',u,w3,J,K,M,N,O⟩:=Fy F h2 I d2 R Y V P U hl X T y D _ rfl;exact⟨g',u,_,w3,J,K,M,N,O⟩
def Nx(z:cH w1 l L r w2)(M:j.size<=200){kp:fM}(hl:bY.cr r.cm j.1.1=some th)(E:th.kept=some kp)(N:kB w1 l j.1.1 p):∃e c i,(i=.nilIface\/∃t a,i=.iface t a)/\∀b,Xb w2 b->b.cell? ⟨p,3,none⟩=some (ptr e)/\b.cell? ⟨e,0,none⟩=some (.int .i64 c)/\b.cell? ⟨e,1,none⟩=some i/\g_ b kp.dQ (.agg #[.int .i64 c,i])/\cH w1 l L r b:=by
 have O:kB w2 l j.1.1 p:=by
  obtain⟨_,_,_,_,K⟩:=z;exact N.Hw K
 obtain⟨Q,y,_,P⟩:=z.then;have R:j.1.1.length<=200:=S8;obtain⟨V,r0,T,C,_,_,_,G⟩:=O.thing y R6 hl;rcases G with⟨m,_⟩|⟨U,e,m,rfl,I⟩
 ·rw[E]at m;cases m
 rw[E]at m;cases m;obtain⟨c,i,sl,D,_,B,_⟩:=I;obtain⟨F,S,J,hi⟩:=B.form;cases J;refine⟨e,F,i,hi,λb u=>?_⟩;have e1:=(u.block p (cj C)).trans C;have e2:=(u.block e (cj D)).trans D;exact⟨by simp[World.cell?,e1,ptr],by simp[World.cell?,e2],by simp[World.cell?,e2],B.keeps (cK.below u),P _ _ (cH.below y u)⟩
def OB(n w1 l p)(j:ba)(C:pW l (cC n) (Pre n))(s L)(m:fD w1 l s L)(D:G w1)(d1:jI w1)(I:j.size<=200)(X:j.1.1∈s.b_)(K:wJ n s)(th t)(hl:bY.cr s.cm j.1.1=some th)(P:th.dc=some t)(J:kB w1 l j.1.1 p)(M)(Z:(th.kept=none/\M=.pointer none)\/∃kp B,th.kept=some kp/\M=.pointer (some ⟨B,0,none⟩)/\jf w1 L kp B):Calls prog 124 #[ptr l,.string j,M] w1 (OA n w1 l p j s L t th.kept):=by
 rcases Z with⟨b,rfl⟩|⟨kp,B,b,rfl,U⟩
 ·refine(II w1 l j).mono ?_;rintro e w2⟨rfl,E⟩;refine .inl ⟨_,rfl,?_,?_⟩
  ·rw[b];rfl
  have u:=cH.below m E;have:=MV C m D d1 u I K (jg.refl s 401) (af _) hl P J ⟨j.1.1,[],.error 0,.error 0⟩;rw[b];exact this
 refine(K9 w1 l B j _ _ C s L m D d1 kp U (λs' c F hc aa=>K.due F hc aa)).mono ?_;rintro e w2⟨u,O,F,Y⟩;have N:bY.cr (en (cC n) j.1.1 kp.cO s).2.cm j.1.1=some th:=by
  rw[(zb (oT n) _ _ s).cm _ X];exact hl
 rcases Y with⟨h1,rfl⟩|⟨y,h1,rfl⟩
 ·refine .inr ⟨rfl,?_⟩;have z:eZ (cC n) j.1.1 t th.kept s=(kp.dQ,(en (cC n) j.1.1 kp.cO s).2):=by
   rw[b];unfold eZ;simp only;generalize en _ _ _ s=q at h1;obtain⟨o,r⟩:=q;have h1:=h1;subst h1;rfl
  rw[z];obtain⟨ab,c,i,hi,V⟩:=Nx u I N b J;refine⟨ab,c,i,hi,λwd E=>?_⟩;obtain⟨a1,Q,R,S,T⟩:=V wd E;exact⟨a1,Q,R,S,T,ah O (aJ _ _)⟩
 have z:eZ (cC n) j.1.1 t th.kept s=fR (cC n) j.1.1 t y (en (cC n) j.1.1 kp.cO s).2:=by
  rw[b];unfold eZ;simp only;generalize en _ _ _ s=q at h1;obtain⟨o,r⟩:=q;have h1:=h1;subst h1;rfl
 refine .inl ⟨y,rfl,?_,?_⟩
 ·rw[z,b]
 rw[z];exact MV C m D d1 u I K F O N P J y
end
section
open bY
open Tryz
def OC(w2 t u0 u1 u2 u3 u4 u5):Xb w2 (w2.alloc (.cells #[u0,u1,u2,u3,u4,u5] t)) /\(w2.alloc (.cells #[u0,u1,u2,u3,u4,u5] t)).cell? ⟨w2.1.size,0,none⟩=some u0/\(w2.alloc (.cells #[u0,u1,u2,u3,u4,u5] t)).cell? ⟨w2.1.size,1,none⟩=some u1/\(w2.alloc (.cells #[u0,u1,u2,u3,u4,u5] t)).cell? ⟨w2.1.size,2,none⟩=some u2/\(w2.alloc (.cells #[u0,u1,u2,u3,u4,u5] t)).cell? ⟨w2.1.size,3,none⟩=some u3/\(w2.alloc (.cells #[u0,u1,u2,u3,u4,u5] t)).cell? ⟨w2.1.size,4,none⟩=some u4/\(w2.alloc (.cells #[u0,u1,u2,u3,u4,u5] t)).cell? ⟨w2.1.size,5,none⟩=some u5:=by
 exact⟨(Uz _ w2).alloc (af _) _,by simp[go_sem],by simp[go_sem],by simp[go_sem],by simp[go_sem],by simp[go_sem],by simp[go_sem]⟩
def Fz(n w j)(r:ba)(HB:pW j (cC n) (Pre n))(s L)(h:fD w j s L)(g:G w)(hd:jI w)(hk:r.size<=200)(a7:r.1.1∈s.b_)(bk:wJ n s)(th t)(hl:bY.cr s.cm r.1.1=some th)(ht:th.dc=some t):Calls prog 85 #[ptr j,.string r] w λe w'=>∃x,e=.returned x/\g_ w' (eZ (cC n) r.1.1 t th.kept s).1 x/\cH w j L (eZ (cC n) r.1.1 t th.kept s).2 w'/\fN (eZ (cC n) r.1.1 t th.kept s).2<=fN s+LM:=by
 have am:=h.alloc (.cells #[.int .i64 0,.nilIface] 113);have ao:Below _ w (w.alloc (.cells #[.int .i64 0,.nilIface] 113)):=(Uz _ _).alloc (af _) _;have g1:=g.below ao g.size;have d1:=hd.below ao g.size;have bf:r.1.1.length<=maxLen:=Sd;obtain⟨p,hp,bn⟩:=am.IB hl;have bh:=hp;obtain⟨hb,es,c0,hm,bg⟩:=bh;have hr:=hm.cr underlying104 (k:=r.1.1) bf (z:=.pointer none) RO;rw[bg,dF]at hr;simp only at hr;obtain⟨v0,r0,k0,av,_,_,h4,h5⟩:=bn;have bl:∃a,r0=.pointer (some a):=by
  rcases h4 with⟨E,_⟩|⟨t',a,_,E,_⟩
  ·rw[ht]at E;cases E
  exact⟨a,E⟩
 obtain⟨a,rfl⟩:=bl;have bc:∃q,k0=.pointer q:=by
  rcases h5 with⟨_,E⟩|⟨_,kb,_,E,_⟩
  ·exact⟨_,E⟩
  exact⟨_,E⟩
 have Y:=OB n _ j p r HB s L am g1 d1 hk a7 bk th t hl ht hp k0 h5;unfold OA at Y;obtain⟨q,rfl⟩:=bc;have e1:(w.alloc (.cells #[.int .i64 0,.nilIface] 113)).cell? ⟨p,1,none⟩=some (.pointer (some a)):=by simp[World.cell?,av]
 have e3:(w.alloc (.cells #[.int .i64 0,.nilIface] 113)).cell? ⟨p,3,none⟩=some (.pointer q):=by simp[World.cell?,av]
 generalize eZ _ _ t _ s=res at Y ⊢;have HD:=bZ Y;generalize hR:(λ(e:Ending) (w':QV)=>∃x,e=.returned x/\g_ w' res.1 x/\cH w j L res.2 w'/\fN res.2<=fN s+LM)=R;have a9:∀(wr:QV) (c:Int) (i:Xa),cH _ j L res.2 wr->g_ wr res.1 _->fN res.2<=fN s+LM->wr.cell? ⟨w.1.size,0,none⟩=some _/\wr.cell? ⟨w.1.size,1,none⟩=some .nilIface/\wr.frozen? ⟨w.1.size,0,none⟩=false/\wr.frozen? ⟨w.1.size,1,none⟩=false/\((wr.setCell ⟨w.1.size,0,none⟩ _).setCell ⟨w.1.size,1,none⟩ i).cell? ⟨w.1.size,0,none⟩=some _/\((wr.setCell ⟨w.1.size,0,none⟩ _).setCell ⟨w.1.size,1,none⟩ i).cell? ⟨w.1.size,1,none⟩=some i/\R _ ((wr.setCell ⟨w.1.size,0,none⟩ (.int .i64 c)).setCell ⟨w.1.size,1,none⟩ i):=λwr c i hP hW bj=>by
  obtain⟨b0,b1,z0,T,aC,a0,d0,d1⟩:=pF h hP hW;rw[<-hR];exact⟨b0,b1,z0,T,d0,d1,_,rfl,a0,aC,bj⟩
 have V:=bZ a9;unfold ptr at hr ⊢;go_enter func85,ntmps85;go_wp2_with fail;refine HD.Z.mono ?_;rintro e w2 (⟨y,he,-,vn,J⟩|⟨rfl,kb,c,i,hi,J⟩)
 ·obtain⟨k',n',c1,l,c2,m,hy⟩:=q9 y;rw[hy]at he J;subst he;obtain⟨P,q0,q1,q2,q3,q4,q5⟩:=OC w2 61 (.string k') _ (.int .i64 c1) (.string l) (.int .i64 c2) (.string m);obtain⟨b4,⟨on,mn,cn,rfl⟩,-⟩:=J _ P;obtain⟨b2,-,-⟩:=J _ (Uz _ w2);obtain⟨-,-,g',F,m',w3,bm,f4,z4,bd,a8⟩:=J _ P.drew;have U:=bZ a8;have ak:=bZ bm;unfold ptr at U;have bq:j<w2.1.size:=by
   refine Rg λhn=>?_;have:w2.1[j]?=none:=Rh.2 RM;simp[World.cell?,this]at b2
  go_wp2_with fail;rename_i X bp;refine mE X (λa w h=>h) ?_;generalize bo:w2.alloc (.cells #[.string k',.string n',.int .i64 c1,.string l,.int .i64 c2,.string m] 61)=we at *;have ax:w2.1.size<we.1.size:=by rw[<-bo];simp
  have hS:we.cell? ⟨w2.1.size,0,none⟩=some (.string k')/\we.cell? ⟨w2.1.size,1,none⟩=some (.string n')/\we.cell? ⟨w2.1.size,2,none⟩=some (.int .i64 c1)/\we.cell? ⟨w2.1.size,3,none⟩=some (.string l)/\we.cell? ⟨w2.1.size,4,none⟩=some (.int .i64 c2)/\we.cell? ⟨w2.1.size,5,none⟩=some (.string m):=⟨q0,q1,q2,q3,q4,q5⟩;have Q:∀w',Xb we w'->w'.cell? ⟨w2.1.size,0,none⟩=some (.string k')/\w'.cell? ⟨w2.1.size,1,none⟩=some (.string n')/\w'.cell? ⟨w2.1.size,2,none⟩=some (.int .i64 c1)/\w'.cell? ⟨w2.1.size,3,none⟩=some (.string l)/\w'.cell? ⟨w2.1.size,4,none⟩=some (.int .i64 c2)/\w'.cell? ⟨w2.1.size,5,none⟩=some (.string m):=λw' ay=>by
   obtain⟨u,N,O,B,C,s6⟩:=hS;have q:=λ(i:Nat)=>ay.cell (p:=⟨w2.1.size,i,none⟩) ax;exact⟨(q 0).trans u,(q 1).trans N,(q 2).trans O,(q 3).trans B,(q 4).trans C,(q 5).trans s6⟩
  have I:w3.cell? ⟨w2.1.size,0,none⟩=some (.string k')/\w3.cell? ⟨w2.1.size,1,none⟩=some (.string n')/\w3.cell? ⟨w2.1.size,2,none⟩=some (.int .i64 c1)/\w3.cell? ⟨w2.1.size,3,none⟩=some (.string l)/\w3.cell? ⟨w2.1.size,4,none⟩=some (.int .i64 c2)/\w3.cell? ⟨w2.1.size,5,none⟩=some (.string m):=by
   obtain⟨u,N,O,B,C,s6⟩:=hS;have q:=λ(i:Nat)=>UF (w:=we) (w':=w3) (a:=⟨w2.1.size,i,none⟩) (bd w2.1.size (af _) ax);exact⟨(q 0).trans u,(q 1).trans N,(q 2).trans O,(q 3).trans B,(q 4).trans C,(q 5).trans s6⟩
  have ap:(w3.setCell ⟨j,4,none⟩ (.slice (some ⟨g',0,none⟩) m' F)).cell? ⟨w2.1.size,0,none⟩=some (.string k')/\(w3.setCell ⟨j,4,none⟩ (.slice (some ⟨g',0,none⟩) m' F)).cell? ⟨w2.1.size,1,none⟩=some (.string n')/\(w3.setCell ⟨j,4,none⟩ (.slice (some ⟨g',0,none⟩) m' F)).cell? ⟨w2.1.size,2,none⟩=some (.int .i64 c1)/\(w3.setCell ⟨j,4,none⟩ (.slice (some ⟨g',0,none⟩) m' F)).cell? ⟨w2.1.size,3,none⟩=some (.string l)/\(w3.setCell ⟨j,4,none⟩ (.slice (some ⟨g',0,none⟩) m' F)).cell? ⟨w2.1.size,4,none⟩=some (.int .i64 c2)/\(w3.setCell ⟨j,4,none⟩ (.slice (some ⟨g',0,none⟩) m' F)).cell? ⟨w2.1.size,5,none⟩=some (.string m):=by
   obtain⟨u,N,O,B,C,s6⟩:=I;have q:=λ(i:Nat)=>UF (w:=w3) (w':=w3.setCell ⟨j,4,none⟩ (.slice (some ⟨g',0,none⟩) m' F)) (a:=⟨w2.1.size,i,none⟩) (UK w3 _ _ _ (by show w2.1.size≠j;omega));exact⟨(q 0).trans u,(q 1).trans N,(q 2).trans O,(q 3).trans B,(q 4).trans C,(q 5).trans s6⟩
  have d4:=b4;have e4:(we.alloc (.cells #[.string k',.string n',.int .i64 c1,.string l,.int .i64 c2,.string m] 61)).cell? ⟨j,4,none⟩=some (.slice on mn cn):=(UF (UE we _ j RM)).trans b4;refine wp_region_held_drew (S:=λw'=>w'.cell? ⟨w2.1.size,0,none⟩=some (.string k')/\w'.cell? ⟨w2.1.size,1,none⟩=some (.string n')/\w'.cell? ⟨w2.1.size,2,none⟩=some (.int .i64 c1)/\w'.cell? ⟨w2.1.size,3,none⟩=some (.string l)/\w'.cell? ⟨w2.1.size,4,none⟩=some (.int .i64 c2)/\w'.cell? ⟨w2.1.size,5,none⟩=some (.string m)) RO hS (λhHeld=>?_);refine wpAnyH_take (i:=0) (v:=?_) rfl RO RO RO (λ_ _ _ h=>h) (Or.inl ⟨by rfl,?_⟩) hS ?_
  rotate_left
  ·rintro w'⟨u,l,m,B,C,s6⟩;go_simp
   try with_reducible rfl
  simp only[Act.put,ar,Xc,Xd];refine wpAnyH_take (i:=1) (v:=?_) rfl RO RO RO (λ_ _ _ h=>h) (Or.inl ⟨by rfl,?_⟩) hS ?_
  rotate_left
  ·rintro w'⟨u,l,m,B,C,s6⟩;go_simp
   try with_reducible rfl
  simp only[Act.put,ar,Xc,Xd];refine wpAnyH_take (i:=2) (v:=?_) rfl RO RO RO (λ_ _ _ h=>h) (Or.inl ⟨by rfl,?_⟩) hS ?_
  rotate_left
  ·rintro w'⟨u,l,m,B,C,s6⟩;go_simp
   try with_reducible rfl
  simp only[Act.put,ar,Xc,Xd];refine wpAnyH_take (i:=3) (v:=?_) rfl RO RO RO (λ_ _ _ h=>h) (Or.inl ⟨by rfl,?_⟩) hS ?_
  rotate_left
  ·rintro w'⟨u,l,m,B,C,s6⟩;go_simp
   try with_reducible rfl
  simp only[Act.put,ar,Xc,Xd];refine wpAnyH_take (i:=5) (v:=?_) rfl RO RO RO (λ_ _ _ h=>h) (Or.inl ⟨by rfl,?_⟩) hS ?_
  rotate_left
  ·rintro w'⟨u,l,m,B,C,s6⟩;go_simp
   try with_reducible rfl
  simp only[Act.put,ar,Xc,Xd];refine wpAnyH_ready (rs:=[4,6]) RO R2 ?_;refine AllReadyH.cons rfl (λK b=>?_) (AllReadyH.cons rfl (λK b=>?_) AllReadyH.nil)
  ·go_simp;refine b.out _ _ (Q _ ((Uz _ we).drew)) (λ_=>?_);refine wpAnyH_ready (rs:=[6]) RO R2 ?_;refine AllReadyH.cons rfl (λK b=>?_) AllReadyH.nil;go_simp;refine b.out _ _ (Q _ (((Uz _ we).drew).alloc (af _) _)) (λ_=>?_);refine wpAnyH_ready (rs:=[7]) RO R2 ?_;refine AllReadyH.cons rfl (λK b=>?_) AllReadyH.nil;refine ja rfl (.tmp 56) (.tmp 58) 55 55 rfl _ _ _ _ rfl rfl ak.Z ?_;simp only[Act.put,ar,Xc,Xd];refine b.out _ _ I (λ_=>?_);refine wpAnyH_ready (rs:=[8]) RO R2 ?_;refine AllReadyH.cons rfl (λK b=>?_) AllReadyH.nil;go_simp;refine b.out _ _ I (λ_=>?_);refine wpAnyH_ready (rs:=[9]) RO R2 ?_;refine AllReadyH.cons rfl (λK b=>?_) AllReadyH.nil;go_simp;refine b.out _ _ I (λ_=>?_);refine wpAnyH_ready (rs:=[10]) RO R2 ?_;refine AllReadyH.cons rfl (λK b=>?_) AllReadyH.nil;go_simp;refine b.out _ _ ap (λ_=>?_);refine wpAnyH_done RO ?_ _;show X _ _;go_wp2_with fail;refine U.Z.mono ?_;rintro e w5⟨c,i,rfl,hi,ab,Z,ad⟩;obtain⟨b0,b1,z0,T,d0,d1,aa⟩:=V.Z _ c i Z ab ad;have D:=bZ aa;rcases hi with rfl|⟨ti,M,rfl⟩
   ·go_wp2_with fail;exact UA (v:=.agg #[.int .i64 c,.nilIface]) SL rfl D.Z
   go_wp2_with fail;exact UA (v:=.agg #[.int .i64 c,.iface ti M]) SL rfl D.Z
  go_simp;refine b.out _ _ (Q _ (((Uz _ we).drew).alloc (af _) _)) (λ_=>?_);refine wpAnyH_ready (rs:=[4]) RO R2 ?_;refine AllReadyH.cons rfl (λK b=>?_) AllReadyH.nil;go_simp;refine b.out _ _ (Q _ (((Uz _ we).drew).alloc (af _) _)) (λ_=>?_);refine wpAnyH_ready (rs:=[7]) RO R2 ?_;refine AllReadyH.cons rfl (λK b=>?_) AllReadyH.nil;refine ja rfl (.tmp 56) (.tmp 58) 55 55 rfl _ _ _ _ rfl rfl ak.Z ?_;simp only[Act.put,ar,Xc,Xd];refine b.out _ _ I (λ_=>?_);refine wpAnyH_ready (rs:=[8]) RO R2 ?_;refine AllReadyH.cons rfl (λK b=>?_) AllReadyH.nil;go_simp;refine b.out _ _ I (λ_=>?_);refine wpAnyH_ready (rs:=[9]) RO R2 ?_;refine AllReadyH.cons rfl (λK b=>?_) AllReadyH.nil;go_simp;refine b.out _ _ I (λ_=>?_);refine wpAnyH_ready (rs:=[10]) RO R2 ?_;refine AllReadyH.cons rfl (λK b=>?_) AllReadyH.nil;go_simp;refine b.out _ _ ap (λ_=>?_);refine wpAnyH_done RO ?_ _;show X _ _;go_wp2_with fail;refine U.Z.mono ?_;rintro e w5⟨c,i,rfl,hi,ab,Z,ad⟩;obtain⟨b0,b1,z0,T,d0,d1,aa⟩:=V.Z _ c i Z ab ad;have D:=bZ aa;rcases hi with rfl|⟨ti,M,rfl⟩
  ·go_wp2_with fail;exact UA (v:=.agg #[.int .i64 c,.nilIface]) SL rfl D.Z
  go_wp2_with fail;exact UA (v:=.agg #[.int .i64 c,.iface ti M]) SL rfl D.Z
 unfold dY;obtain⟨P,q0,q1,q2,q3,q4,q5⟩:=OC w2 61 (.string ⟨#[]⟩) (.string ⟨#[]⟩) (.int .i64 0) (.string ⟨#[]⟩) (.int .i64 0) (.string ⟨#[]⟩);obtain⟨a1,a2,a3,a4,a5,a6⟩:=J _ P;obtain⟨b0,b1,z0,T,d0,d1,hR⟩:=V.Z _ c i a5 a4 a6;have D:=bZ hR;unfold ptr at a1;rcases hi with rfl|⟨ti,M,rfl⟩
 ·go_wp2_with fail;exact UA (v:=.agg #[.int .i64 c,.nilIface]) SL rfl D.Z
 go_wp2_with fail;exact UA (v:=.agg #[.int .i64 c,.iface ti M]) SL rfl D.Z
def IK(n w j)(b:ba)(r:pW j (cC n) (Pre n))(s L)(h:fD w j s L)(g:G w)(hd:jI w)(p:b.size<=200)(u:b.1.1∈s.b_)(y:∀th t,bY.cr s.cm b.1.1=some th->th.dc=some t->wJ n s):Calls prog 85 #[ptr j,.string b] w λe w'=>∃x,e=.returned x/\g_ w' (dq (cC n) b.1.1 s).1 x/\cH w j L (dq (cC n) b.1.1 s).2 w'/\fN (dq (cC n) b.1.1 s).2<=fN s+LM:=by
 cases hl:bY.cr s.cm _ with
 |none =>
  have m:dq (cC n) b.1.1 s=(.error 7,s):=by unfold dq;rw[hl]
  rw[m];refine(AD w j b s L h p hl).mono ?_;rintro e w'⟨x,rfl,h1,h2⟩;exact⟨x,rfl,h1,h2,aJ _ _⟩
 |some th =>
  cases l:th.dc with
  |none =>
   have m:dq (cC n) b.1.1 s=(.ok th.value,s):=by unfold dq;rw[hl];simp only;rw[l]
   rw[m];refine(CL w j b s L h p th hl l).mono ?_;rintro e w'⟨x,rfl,h1,h2⟩;exact⟨x,rfl,h1,h2,aJ _ _⟩
  |some t =>
   have m:dq (cC n) b.1.1 s=eZ (cC n) b.1.1 t th.kept s:=by unfold dq;rw[hl];simp only;rw[l]
   rw[m];exact Fz n w j b r s L h g hd p u (y th t hl l) th t hl l
end
section
open Tryz
variable{l hb db:Nat}{s:bY.LS}{L m n:Nat->Prop}{b0:List (a_)}{p:a_}{r:bY.Wo}{v:Xa}
def LP.q_{w:QV}{b u vn j:Xa}(h:LP w l s L hb db b u vn j):(b=.slice none 0 0/\s.b_=[])\/∃g c,b=.slice (some ⟨g,0,none⟩) s.b_.length c/\s.b_.length<=c:=by
 rcases h.b_.2 with⟨rfl,h2⟩|⟨g,y,z,rfl,B,C,e,_⟩
 ·exact .inl ⟨rfl,QN h2⟩
 exact .inr ⟨_,_,rfl,e⟩
def D3{w:QV}{y E vn D:Xa}(h:LP w l s L hb db y E vn D)(hlen:s.b_.length<=1000)(b):Calls prog 83 #[y,.string b] w λe w'=>w'=w/\((s.b_.contains b.1.1=false/\e=.returned (.int .i64 (-1)))\/∃j,j<s.b_.length/\s.b_.contains b.1.1=true/\e=.returned (.int .i64 (j:Nat))/\bY.eI s.b_ b.1.1=s.b_.drop j):=by
 rcases h.q_ with⟨rfl,C⟩|⟨g,c,rfl,hc⟩
 ·refine(slices_Index_string_empty none 0 b w).mono ?_;rintro e w'⟨rfl,rfl⟩;refine⟨rfl,.inl ⟨by rw[C];rfl,rfl⟩⟩
 have hz:(uU s.b_).length=s.b_.length:=by unfold uU;rw[aG]
 have u:=rZ h.b_ 0;rw[aW]at u;refine(slices_Index_string g 0 s.b_.length c (uU s.b_) b w RM RM u).mono ?_;rintro e w'⟨rfl,rfl⟩;refine⟨rfl,?_⟩;rw[Qb RM];have e1:Lib.idxOfS (uU s.b_) b=Lib.idxFromS (uU s.b_) b 0:=rfl;rw[e1];rcases xD b s.b_ 0 with⟨h1,h2⟩|⟨j,h1,h2,z,B⟩
 ·exact .inl ⟨h1,by rw[h2]⟩
 exact .inr ⟨j,h1,h2,by rw[z,aI],B⟩
def zd{w w1:QV}{C M vn K:Xa}(h:LP w l s L hb db C M vn K)(D:G w)(E:Xb w w1)(e)(hlen:s.b_.length<=1000):∃g' B w3,(Builtin.append_ #[40,40] 40 #[C,.slice (some ⟨w1.1.size,0,none⟩) 1 1]).run prog (w1.alloc (.cells #[.string e] 9))=.ok (.slice (some ⟨g',0,none⟩) (s.b_.length+1) B) w3 /\w3.cell? ⟨l,2,none⟩=some C/\w3.frozen? ⟨l,2,none⟩=false/\cH w l L { s with b_:=s.b_++[e.1.1] } (w3.setCell ⟨l,2,none⟩ (.slice (some ⟨g',0,none⟩) (s.b_.length+1) B)):=by
 have z:Xb w (w1.alloc (.cells #[.string e] 9)):=E.alloc E.size _;have h2:LP (w1.alloc (.cells #[.string e] 9)) l s L hb db C M vn K:=h.st (λk y=>z.block k (h.lt y)) (eH.below z);have N:=D.below z D.size;have P:=heap_alloc_new w1 (.cells #[.string e] 9);have J:str e.1.1=.string e:=lF rfl;obtain⟨g',B,w3,S,Q,I,O,hold⟩:=iE 40 40 9 _ 1 16 underlying40 DF rfl RZ _ s.b_.length (s.b_.map str) h2.b_ ⟨w1.1.size,0,none⟩ 1 [str e.1.1] rfl (λj u hj=>by
  rw[addr_add,aI];simp only[World.cell?,P]
  match j,hj with
  |0,hj=>simp at hj;rw[<-hj,J];rfl) (λu hu=>by
  simp at hu;rw[hu,J];rfl) RM R6 (ah D.size z.size)
 have F:=(Tn.mk (e0:=9) I (λb hb=>cz h2.b_ hb)).cells h2.eb RZ;refine⟨g',B,w3,S,by simp[World.cell?,F],by simp[World.frozen?,F],?_⟩;have R:w3.ownsRow 8 9 1 (.slice (some ⟨g',0,none⟩) (s.b_.length+1) B) (s.b_.length+1) ((s.b_++[e.1.1]).map str):=by
  rw[aV];simpa using Q
 obtain⟨L',k1,k2,k3,k4⟩:=h2.K7 N e.1.1 I R2 R O hold;refine⟨L',k1,λk y=>?_,k3,(uE.below z).trans k4 (λk y=>.inl y) (λk y=>y)⟩;rcases k2 k y with h|h
 ·exact .inl h
 have:=z.size;exact .inr RM
def Le{W:QV}{e:bY.LS}(hA:fD W l e m)(g:G W)(hb:e.b_=b0++[p]):∃j b,W.cell? ⟨l,2,none⟩=some (.slice (some ⟨j,0,none⟩) (b0.length+1) b)/\b0.length+1<=b/\W.frozen? ⟨l,2,none⟩=false/\cH W l m { e with b_:=b0 } (W.setCell ⟨l,2,none⟩ (.slice (some ⟨j,0,none⟩) b0.length b)):=by
 obtain⟨z,db,B,D,vn,C,h⟩:=hA;have hlen:e.b_.length=b0.length+1:=SV;rcases h.q_ with⟨_,y⟩|⟨j,b,rfl,hc⟩
 ·rw[y]at hlen;simp at hlen
 have u:=h.Oy g;have e1:e.b_.dropLast=b0:=SV;rw[e1,hlen]at u;refine⟨j,b,by simp[World.cell?,h.eb,hlen],by omega,by simp[World.frozen?,h.eb],?_⟩;exact u
def IP{W:QV}{s6:bY.LS}(hA:fD W l s6 n)(z:s6.done.length<=1000000)(e)(B:e.size<=200)(u:g_ W r v):∃db b,W.cell? ⟨l,1,none⟩=some (.map (some db))/\(Instr.mapUpdate 105 (.map (some db)) (.string e) v).run prog W=.ok () b/\cH W l n { s6 with done:=bY.put s6.done e.1.1 r } b /\(∀(k:Nat) (cs) (t) (fz),W.1[k]?=some (.cells cs t fz)->b.1[k]?=some (.cells cs t fz)):=by
 obtain⟨y,db,C,E,vn,D,h⟩:=hA;obtain⟨b,h1,h2,j⟩:=h.Nq (kY:=e.1.1) u Sd R6;rw[dF]at h1;exact⟨db,b,by simp[World.cell?,h.eb],h1,h2,j⟩
def fD.drew{w:QV}(h:fD w l s L):fD w.drew l s L:=h.st (λk _=>rfl) (eH.below ((Uz _ w).drew))
end
section
open Tryz
variable{s:bY.LS}{L:Nat->Prop}
def cH.pre{w w2 w':QV}{j:Nat}(e:Xb w w2)(h:cH w2 j L s w'):cH w j L s w':=by
 obtain⟨L',h1,h2,l,m⟩:=h;refine⟨L',h1,λk b=>?_,l,(uE.below e).trans m (λk b=>.inl b) (λk b=>b)⟩;rcases h2 k b with h|h
 ·exact .inl h
 have:=e.size;exact .inr RM
def CM(w j b s L)(h:fD w j s L)(J:b.size<=200)(r)(hl:bY.cr s.done b.1.1=some r):Calls prog 49 #[ptr j,.string b] w λe w'=>∃x,e=.returned x/\g_ w' r x/\cH w j L s w':=by
 have B:=h.alloc (.cells #[.int .i64 0,.nilIface] 113);have D:b.1.1.length<=maxLen:=Sd;obtain⟨hb,db,F,I,vn,G,h1⟩:=B;have c1:(w.alloc (.cells #[.int .i64 0,.nilIface] 113)).cell? ⟨j,1,none⟩=some (.map (some db)):=by simp[World.cell?,h1.eb]
 rcases h1.done.cr (kY:=b.1.1) D with⟨h2,_⟩|⟨r',v,h2,u,E⟩
 ·rw[hl]at h2;cases h2
 rw[hl]at h2;cases h2;rw[dF]at E;obtain⟨c,i,rfl,hi⟩:=u.form;have m:∀o,cH _ j L s _/\g_ _ r _:=λo=>by
  have n:=(Uz _ (w.alloc (.cells #[.int .i64 0,.nilIface] 113))).alloc (af _) o;exact⟨cH.below ⟨hb,db,F,I,vn,G,h1⟩ n,u.keeps (cK.below n)⟩
 obtain⟨b0,b1,z0,K,p,y,d0,d1⟩:=pF h (m _).1 (m _).2;have C:(((w.alloc (.cells #[.int .i64 0,.nilIface] 113)).alloc (.cells #[.int .i64 c,i] 113)).setCell ⟨w.1.size,0,none⟩ (.int .i64 c)).setCell ⟨w.1.size,1,none⟩ i=(w.alloc (.cells #[.int .i64 c,i] 113)).alloc (.cells #[.int .i64 c,i] 113):=Sj;rw[C]at p y;have l:=bZ (And.intro p y);unfold ptr;rcases hi with rfl|⟨ti,z,rfl⟩
 all_goals
  go_enter func49,ntmps49;go_wp2_with fail
 ·exact UA (v:=.agg #[.int .i64 c,.nilIface]) (by simp[results,results49,go_sem]) rfl ⟨_,rfl,l.Z.2,l.Z.1⟩
 exact UA (v:=.agg #[.int .i64 c,.iface ti z]) (by simp[results,results49,go_sem]) rfl ⟨_,rfl,l.Z.2,l.Z.1⟩
def FA(w l b s L)(h:fD w l s L)(g:G w)(hk:b.size<=200)(hl:bY.cr s.done b.1.1=none)(hc:s.b_.contains b.1.1=true)(hlen:s.b_.length<=1000):Calls prog 49 #[ptr l,.string b] w λe w'=>∃x,e=.returned x/\g_ w' (.error 12) x/\cH w l L (s.meet b.1.1) w':=by
 have n:=h.alloc (.cells #[.int .i64 0,.nilIface] 113);have N:=n.alloc (.cells #[.int .i64 0,.nilIface] 113);have V:b.1.1.length<=maxLen:=Sd;have B:=(Uz _ w).alloc (af _) (.cells #[.int .i64 0,.nilIface] 113);have p:=(Uz _ (w.alloc (.cells #[.int .i64 0,.nilIface] 113))).alloc (af _) (.cells #[.int .i64 0,.nilIface] 113);have ad:=cH.below n p;have K:=(g.below B g.size).below p (g.below B g.size).size;obtain⟨hb,db,vb,vr,vn,vj,h1⟩:=n;have c1:(w.alloc (.cells #[.int .i64 0,.nilIface] 113)).cell? ⟨l,1,none⟩=some (.map (some db)):=by simp[World.cell?,h1.eb]
 have hr:(Instr.lookup 105 (.map (some db)) (.string b) true).run prog (w.alloc (.cells #[.int .i64 0,.nilIface] 113))=.ok (.tuple #[.agg #[.int .i64 0,.nilIface],.bool false]) (w.alloc (.cells #[.int .i64 0,.nilIface] 113)):=by
  rcases h1.done.cr (kY:=b.1.1) V with⟨_,z⟩|⟨r',v,h2,_⟩
  ·rw[dF]at z;exact z
  rw[hl]at h2;cases h2
 obtain⟨S,J,Y,ab,aa,Z,h2⟩:=N;have c2:((w.alloc (.cells #[.int .i64 0,.nilIface] 113)).alloc (.cells #[.int .i64 0,.nilIface] 113)).cell? ⟨l,2,none⟩=some Y:=by simp[World.cell?,h2.eb]
 have O:=D3 h2 hlen b;rcases h2.q_ with⟨_,R⟩|⟨M,I,rfl,ai⟩
 ·rw[R]at hc;cases hc
 have hM:∀j,j<s.b_.length->bY.eI _ _=s.b_.drop j->Calls prog 84 #[ptr l,.slice _ _ _] _ λe w'=>e=.returned _/\cH _ l L (s.meet b.1.1) w':=λj hj hf=>by
  refine(IG _ l s L S J ab aa Z M j I h2 K hj hlen).mono ?_;rintro e w'⟨rfl,m⟩;refine⟨rfl,?_⟩;unfold bY.LS.meet;rw[hf];exact cH.pre p m
 have T:∀wr,cH _ l L (s.meet b.1.1) wr->_:=λwr m=>pF (r:=.error 12) (x:=.int .i64 12) (i:=.nilIface) h m (.inr ⟨12,rfl,rfl,by omega,by omega⟩);have F:=bZ hM;have E:=bZ O;have D:=bZ T;unfold ptr;go_enter func49,ntmps49;go_wp2_with fail;refine E.Z.mono ?_;rintro e w'⟨X,⟨C,_⟩|⟨j,hj,_,rfl,U⟩⟩
 ·rw[hc]at C;cases C
 subst X;have u:=bZ (F.Z j hj U);unfold ptr at u;go_wp2_with fail;refine u.Z.mono ?_;rintro e wr⟨rfl,P⟩;obtain⟨b0,b1,z0,z1,m,Q,d0,d1⟩:=D.Z wr P;have y:=bZ (And.intro m Q);go_wp2_with fail;exact UA (v:=.agg #[.int .i64 12,.nilIface]) (by simp[results,results49,go_sem,d0,d1]) rfl ⟨_,rfl,y.Z.2,y.Z.1⟩
end
