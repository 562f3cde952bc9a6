/- Out of Bl. -/
import Derived.Test.YtpekpdimdelncaaGreatDoorP37
set_option linter.unusedVariables false
set_option linter.unusedSimpArgs false
set_option maxRecDepth 100000
set_option maxHeartbeats 4000000
set_option linter.defProp false
namespace Go.Proofs.YtpekpdimdelncaaGreatDoor
open Go.RowKit Go.Shelf
section
open bY
namespace Ref
def Mi(l:List Xa)(o:Nat)(c:List Xa):List Xa:=match c with
 |[a,b,d,e,f,g,h]=>((((((l.set o a).set (o+1) b).set (o+2) d).set (o+3) e).set (o+4) f).set (o+5) g).set (o+6) h
 |_=>l
def JO(p l:List Xa)(o:Nat)(c:List Xa):Mi (p++l) (p.length+o) c=p++Mi l o c:=by
 have hs:∀(l:List Xa) (k:Nat) (v:Xa),(p++l).set (p.length+k) v=p++l.set k v:=λl k v=>by
  rw[Ro _ _ (aJ _ _),Qx]
 unfold Mi;split
 ·rw[hs,Qw,hs,Qw,hs,Qw,hs,Qw,hs,Qw,hs,Qw,hs]
 rfl
def zB(e:En):∃a b c d f g h,e.cells=[a,b,c,d,f,g,h]:=by
 obtain⟨k,t,r,kp,j,w⟩:=e;cases w<;>exact⟨_,_,_,_,_,_,_,rfl⟩
def ya:∀(l:List En) (k:Nat) (a b:En),l[k]?=some a->(l.set k b).flatMap En.cells=Mi (l.flatMap En.cells) (k*7) b.cells
 |[],k,a,b,h=>by cases h
 |x :: l,0,a,b,h=>by
  cases h;obtain⟨a1,j,p,r,D,E,F,e⟩:=zB x;obtain⟨b1,b2,G,I,J,K,M,hb⟩:=zB b;rw[Xc,P9,P9,e,hb];rfl
 |x :: l,k+1,a,b,h=>by
  have hl:x.cells.length=7:=by
   obtain⟨a1,j,p,r,D,E,F,e⟩:=zB x;rw[e];rfl
  rw[Xd,P9,P9,ya l k a b h,show(k+1)*7=x.cells.length+k*7 by rw[hl];omega,JO]
def JP{w:QV}{es:List En}{g j i:Nat}{e e':En}(h:w.ownsRow 8 168 7 (.slice (some ⟨g,0,none⟩) es.length j) es.length (es.flatMap En.cells))(G:es[i]?=some e){a b c d f p q:Xa}(hc:e'.cells=[a,b,c,d,f,p,q]):(((((((w.setCell ⟨g,i*7,none⟩ a).setCell ⟨g,i*7+1,none⟩ b).setCell ⟨g,i*7+2,none⟩ c).setCell ⟨g,i*7+3,none⟩ d).setCell ⟨g,i*7+4,none⟩ f).setCell ⟨g,i*7+5,none⟩ p).setCell ⟨g,i*7+6,none⟩ q).ownsRow 8 168 7 (.slice (some ⟨g,0,none⟩) es.length j) es.length ((es.set i e').flatMap En.cells) /\ed (λk=>k=g) w (((((((w.setCell ⟨g,i*7,none⟩ a).setCell ⟨g,i*7+1,none⟩ b).setCell ⟨g,i*7+2,none⟩ c).setCell ⟨g,i*7+3,none⟩ d).setCell ⟨g,i*7+4,none⟩ f).setCell ⟨g,i*7+5,none⟩ p).setCell ⟨g,i*7+6,none⟩ q):=by
 obtain⟨l,f0⟩:=iQ h (i*7) a;obtain⟨h1,f1⟩:=iQ l (i*7+1) b;obtain⟨h2,f2⟩:=iQ h1 (i*7+2) c;obtain⟨r,f3⟩:=iQ h2 (i*7+3) d;obtain⟨D,f4⟩:=iQ r (i*7+4) f;obtain⟨E,f5⟩:=iQ D (i*7+5) p;obtain⟨F,f6⟩:=iQ E (i*7+6) q;refine⟨?_,iR (iR (iR (iR (iR (iR f0 f1) f2) f3) f4) f5) f6⟩;rw[ya es i e e' G,hc];exact F
def Cj{h:List (a_×cu)}{i:Nat}{e:a_}{th D:cu}(hd:(h.map (·.1)).Nodup)(b:h[i]?=some (e,D)):bY.put h e th=h.set i (e,th):=by
 have hl:(bY.cr h e).isSome=true:=by rw[kS hd b];rfl
 unfold bY.put;rw[ag hl];apply Rf;intro j;rw[P2];by_cases l:i=j
 ·subst l;rw[P4 (az.1 b).1,b];simp
 rw[Qt l];cases r:h[j]? with
 |none=>rfl
 |some q =>
  have p:=pJ hd b r l;simp[p]
def yD{h:List (a_×cu)}{b:a_}{th:cu}(e:bY.cr h b=none):bY.put h b th=h++[(b,th)]:=by
 unfold bY.put;rw[ae (by rw[e];simp)]
def ky{h:List (a_×cu)}{i:Nat}{b:a_}{th j:cu}(e:h[i]?=some (b,j)):(h.set i (b,th)).map (·.1)=h.map (·.1):=by
 rw[QR];exact kF _ i b (by rw[P2,e];rfl)
def El{w:QV}{L:Nat->Prop}{b e:a_}{eY:Xa}{th:cu}(j:ka w th ⟨b,e,eY,false,.slice none 0 0,.error 0⟩)(l:th.kept=none):o_ w L [] (b,th) ⟨b,e,eY,false,.slice none 0 0,.error 0⟩ :=⟨rfl,j,.inl ⟨by rw[ae R2];exact l,rfl,rfl⟩⟩
section
variable {w w':QV} {m:Nat} {s:LS} {L:Nat->Prop} {es:List En} {n:List (a_×Wo)} {u y z C B vX:Xa} {kY tX:a_} {eY:Xa} {th:cu}
def fW.NV{g E:Nat}(h:fW w m s [] L es n (.slice (some ⟨g,0,none⟩) es.length E) y z C B){i:Nat}{X:cu}{e:En}(F:s.cm[i]?=some (kY,X))(P:es[i]?=some e)(O:ka w th ⟨kY,tX,eY,false,.slice none 0 0,.error 0⟩)(r:th.kept=none)(hf:ed (λk=>k=g) w w')(I:w'.ownsRow 8 168 7 (.slice (some ⟨g,0,none⟩) es.length E) es.length ((es.set i ⟨kY,tX,eY,false,.slice none 0 0,.error 0⟩).flatMap En.cells)):eX (jJ m { s with cm:=bY.put s.cm kY th }) w L w':=by
 obtain⟨Y,Z,J⟩:=cz h.all (g:=g) rfl;have Q:m≠g:=λe=>by rw[<-e,h.eb]at J;cases J
 have G:=Cj (th:=th) h.nodup F;have N:∀(j:Nat) (p:a_×cu) (e2:En),(bY.put s.cm kY th)[j]?=some p->(es.set i ⟨kY,tX,eY,false,.slice none 0 0,.error 0⟩)[j]?=some e2->o_ w L [] p e2:=λj p e2 hj l=>by
  rw[G]at hj;by_cases K:i=j
  ·subst K;rw[P4 (az.1 F).1]at hj;rw[P4 (az.1 P).1]at l;cases hj;cases l;exact El O r
  rw[Qt K]at hj l;exact h.pO j p e2 hj l
 have M:∀e2∈es.set i ⟨kY,tX,eY,false,.slice none 0 0,.error 0⟩,∀g',e2.np.ownBlock=some g'->y.ownBlock≠some g':=λe2 l g' D=>by
  rcases Rm l with R|rfl
  ·exact h.eV e2 R g' D
  cases D
 obtain⟨T,U,V⟩:=h.JN (s':={ s with cm:=bY.put s.cm kY th,done:=wO (bY.put s.cm kY th) n }) (es':=es.set i ⟨kY,tX,eY,false,.slice none 0 0,.error 0⟩) (vX:=.slice (some ⟨g,0,none⟩) es.length E) (w':=w') ⟨hf.os,hf.tape,hf.output,hf.size,λk r S=>hf.block k r (λe=>S (.inr SG))⟩ ((hf.block m (cj h.eb) Q).trans h.eb) (λb hb=>by cases hb;exact cz I rfl) (by rw[aX];exact I) (λg' D=>.inl D) (by
   show _=(bY.put s.cm kY th).length;rw[G,aX,aX];exact h.kE) N rfl rfl rfl rfl (zA s _ n) (by
   show((bY.put s.cm kY th).map (·.1)).Nodup;rw[G,ky F];exact h.nodup) M
 exact⟨_,⟨_,_,_,_,_,_,_,_,T⟩,U,λk r=>.inl r,V⟩
def fW.Mj(h:fW w m s [] L es n u y z C B)(hl:bY.cr s.cm kY=none)(U:ka w th ⟨kY,tX,eY,false,.slice none 0 0,.error 0⟩)(l:th.kept=none){w1 w2:QV}{g cP:Nat}(r:Xb w w1)(Y:w2.ownsRow 8 168 7 (.slice (some ⟨g,0,none⟩) (es.length+1) cP) (es.length+1) (es.flatMap En.cells++En.cells ⟨kY,tX,eY,false,.slice none 0 0,.error 0⟩))(E:w1.grownBy w2 u.ownBlock)(P:u.ownBlock=some g\/g=w1.1.size)(hold:∀b,u.ownBlock=some b->∃cs fz,w2.1[b]?=some (.cells cs 168 fz)):eX (jJ m { s with cm:=bY.put s.cm kY th }) w L (w2.setCell ⟨m,0,none⟩ (.slice (some ⟨g,0,none⟩) (es.length+1) cP))/\(∃v,w2.cell? ⟨m,0,none⟩=some v)/\w2.frozen? ⟨m,0,none⟩=false/\m<w2.1.size:=by
 have R:=cj h.eb;have K:u.ownBlock≠some m:=λe=>by
  obtain⟨cs,fz,hb⟩:=cz h.all e;rw[h.eb]at hb;cases hb
 have O:∀k,k<w.1.size->u.ownBlock≠some k->w2.1[k]?=w.1[k]? := λk l I=>(E.block k (aA l r.size) (λe=>I e.symm)).trans (r.block k l);have J:w2.1[m]?=_:=(O _ R K).trans h.eb;have N:∀k,k≠m->(w2.setCell ⟨m,0,none⟩ (.slice (some ⟨g,0,none⟩) (es.length+1) cP)).1[k]?=w2.1[k]? := λk l=>UI w2 ⟨m,0,none⟩ k _ l;have X:g≠m:=λe=>by
  rcases P with h|h
  ·exact K (e▸h)
  have:=r.size;omega
 have M:=yD (th:=th) hl;have T:∀(j:Nat) (p:a_×cu) (e2:En),(bY.put s.cm kY th)[j]?=some p->(es++[(⟨kY,tX,eY,false,.slice none 0 0,.error 0⟩:En)])[j]?=some e2->o_ w L [] p e2:=λj p e2 hj D=>by
  rw[M]at hj;by_cases Q:j<es.length
  ·rw[aU (by rw[<-h.kE];exact Q)]at hj;rw[aU Q]at D;exact h.pO j p e2 hj D
  rw[aY (by rw[<-h.kE];omega)]at hj;rw[aY RM]at D;have e0:j-es.length=0:=by
   have:=(az.1 D).1;simp at this;omega
  rw[<-h.kE,e0]at hj;rw[e0]at D;cases hj;cases D;exact El U l
 have S:∀e2∈es++[(⟨kY,tX,eY,false,.slice none 0 0,.error 0⟩:En)],∀g',e2.np.ownBlock=some g'->y.ownBlock≠some g':=λe2 D g' F=>by
  rcases aK.1 D with G|G
  ·exact h.eV e2 G g' F
  simp at G;subst G;cases F
 obtain⟨r1,r2,r3⟩:=h.JN (s':={ s with cm:=bY.put s.cm kY th,done:=wO (bY.put s.cm kY th) n }) (es':=es++[⟨kY,tX,eY,false,.slice none 0 0,.error 0⟩]) (vX:=.slice (some ⟨g,0,none⟩) (es.length+1) cP) (w':=w2.setCell ⟨m,0,none⟩ (.slice (some ⟨g,0,none⟩) (es.length+1) cP)) ⟨E.os.trans r.os,E.tape.trans r.tape,E.output.trans r.output,by simp;exact ah r.size E.size,λk l I=>(N k (λe=>I (.inl e))).trans (O k l (λe=>I (.inr e)))⟩ (heap_setCell_same w2 m 0 _ _ _ J) (λb hb=>by
   obtain⟨cs,fz,l⟩:=hold b hb;exact⟨cs,fz,(N b (λe=>K (e▸hb))).trans l⟩) (by
   rw[aj,Qf];have:[(⟨kY,tX,eY,false,.slice none 0 0,.error 0⟩:En)].flatMap En.cells=En.cells ⟨kY,tX,eY,false,.slice none 0 0,.error 0⟩:=R2;rw[this];exact cD Y (λk l cs fz hb=>by cases l;exact(N g X).trans hb)) (λg' F=>by
   cases F;rcases P with h1|h1
   ·exact .inl h1
   ·rw[h1];exact .inr r.size) (by
   show _=(bY.put s.cm kY th).length;rw[M,aj,aj,h.kE];rfl) T rfl rfl rfl rfl (zA s _ n) (by
   show((bY.put s.cm kY th).map (·.1)).Nodup;rw[M,aV];refine Q3.2 ⟨h.nodup,by simp,λa V b hb=>?_⟩;simp at hb;subst hb;intro e;subst e;obtain⟨p,Z,e⟩:=aH.1 V;exact jm.1 hl p Z e) S
 exact⟨⟨_,⟨_,_,_,_,_,_,_,_,r1⟩,r2,λk l=>.inl l,r3⟩,⟨_,by simp[World.cell?,J];rfl⟩,by simp[World.frozen?,J],aA R (ah r.size E.size)⟩
end
end Ref
end
section
open Tryz
namespace Ref
variable{v:Xa}{l:List En}{h:List (a_×bY.cu)}{s:bY.LS}{L:Nat->Prop}{r:List (a_×bY.Wo)}{m:a_}
def Dh:(prog.info? 168).map (λi=>(i.zero,i.size,i.bytes))=some (some (.agg #[.string ⟨#[]⟩,.string ⟨#[]⟩,.slice none 0 0,.bool false,.slice none 0 0,.int .i64 0,.string ⟨#[]⟩]),7,112):=RO
def MY:(Value.agg #[.string ⟨#[]⟩,.string ⟨#[]⟩,.slice none 0 0,.bool false,.slice none 0 0,.int .i64 0,.string ⟨#[]⟩]).cells.size=7:=RO
def zC(w:QV)(b e:Option Addr)(n c1 c2:Nat)(p:n<=c1):(Builtin.append_ #[97,97] 97 #[.slice b n c1,.slice e 0 c2]).run prog w=.ok (.slice b n c1) w:=by
 obtain⟨B,j,u,y,z⟩:=UJ Dh;cases b<;>cases e<;>simp[Builtin.append_,run_underlying underlying97,Builtin.lenOf,Builtin.firstCells,sizeOf,typeInfo,j,p,storeCells,loadCells,loadCellsFrom]
structure s9(w0 w:QV)(v:Xa)(l:List En):Prop where
 row:w.ownsRow 8 168 7 v l.length (l.flatMap En.cells)
 new:∀g,v.ownBlock=some g->w0.1.size<=g
 eh:Xb w0 w
def s9.nil(w:QV):s9 w w (.slice none 0 0) []:=⟨⟨rfl,.inl ⟨rfl,rfl⟩⟩,(λg b=>by cases b),Uz _ _⟩
def s9.form{w0 w:QV}(h:s9 w0 w v l):∃o c,v=.slice o l.length c/\l.length<=c:=by
 rcases h.row.2 with⟨e,b⟩|⟨g,n,p,e,_,_,j,_⟩
 ·exact⟨none,0,by rw[b];exact e,by omega⟩
 exact⟨_,_,e,j⟩
def vY:∀ks:List En,(ks.flatMap En.cells).length=ks.length*7
 |[]=>rfl
 |e :: ks=>by rw[P9,aj,vY ks,nG,aM];omega
def s9.join{w0 w:QV}{ks:List En}{g off c:Nat}(h:s9 w0 w v l)(hs:∀j u,(ks.flatMap En.cells)[j]?=some u->w.cell? ⟨g,off+j,none⟩=some u)(h1:∀u∈ks.flatMap En.cells,u.oneCell'=true)(C:8<=w0.1.size)(O:l.length+ks.length<=1000):∃o' b w',(Builtin.append_ #[97,97] 97 #[v,.slice (some ⟨g,off,none⟩) ks.length c]).run prog w=.ok (.slice o' (l.length+ks.length) b) w'/\s9 w0 w' (.slice o' (l.length+ks.length) b) (l++ks):=by
 by_cases B:ks.length=0
 ·have e:ks=[]:=QG.1 B;subst e;obtain⟨o',b,rfl,E⟩:=h.form;exact⟨o',b,w,zC w o' _ l.length b c E,by rw[QA];exact h⟩
 obtain⟨M,D,I,J,K⟩:=UJ Dh;obtain⟨g',z,w',G,F,n,p,N⟩:=run_append_lies (P:=prog) w 97 97 8 168 M _ 7 112 underlying97 D I J K MY RZ v l.length (l.flatMap En.cells) h.row ⟨g,off,none⟩ ks.length c (ks.flatMap En.cells) (vY ks) (λj u hj=>by
  rw[addr_add];exact hs j u hj) h1 RM R6 RM (ah C h.eh.size) _ rfl
 refine⟨some ⟨g',0,none⟩,z,w',G,⟨?_,λk y=>?_,?_⟩⟩
 ·rw[aj,Qf];exact F
 ·cases y;rcases p with p|p
  ·exact h.new _ p
  rw[p];exact h.eh.size
 exact⟨n.os.trans h.eh.os,n.tape.trans h.eh.tape,n.output.trans h.eh.output,ah h.eh.size n.size,λk y=>(n.block k (aA y h.eh.size) (λe=>by have:=h.new k e.symm;omega)).trans (h.eh.block k y)⟩
def Ck:∀{i:Nat} {m:a_} {th:bY.cu},(h.map (·.1)).Nodup->h[i]?=some (m,th)->bY.del h m=h.take i++h.drop (i+1):=by
 induction h with
 |nil=>intro i m th _ b;cases b
 |cons x h p =>
  intro i m th hd b;have j:=QP.1 (show(x.1 :: h.map (·.1)).Nodup from hd);cases i with
  |zero =>
   cases b;show List.filter _ _=_;rw[QY,ae R2];show List.filter _ h=h;refine RQ.2 (λa n=>?_);have:a.1≠m:=λe=>j.1 (by rw[<-e];exact aH.2 ⟨a,n,rfl⟩);simp[this]
  |succ i =>
   have b:h[i]?=some (m,th):=b;have hx:x.1≠m:=λe=>j.1 (by rw[e];exact aH.2 ⟨_,aL b,rfl⟩);show List.filter _ _=_;rw[QY,ag SW];show x :: bY.del h m=_;rw[p j.2 b];rfl
def p5{α:Type}(l:List α)(i j:Nat):(l.take i++l.drop (i+1))[j]?=if j<i then l[j]? else l[j+1]? := by
 by_cases hi:i<=l.length
 ·have hl:(l.take i).length=i:=S7;by_cases hj:j<i
  ·rw[ag hj,aU RM,Rt,ag hj]
  rw[ae hj,aY RM,RY,hl]
  congr 1
  omega
 rw[Qb RM,aQ RM,QA];by_cases hj:j<i
 ·rw[ag hj]
 rw[ae hj,RN RM,RN RM]
def fW.JQ{w w':QV}{n:Nat}{es:List En}{K M T V U vX:Xa}{th:bY.cu}{i:Nat}(h:fW w n s [] L es r K M T V U)(I:s.cm[i]?=some (m,th))(y:s9 w w' vX (es.take i++es.drop (i+1))):eX (jJ n { s with cm:=bY.del s.cm m }) w L (w'.setCell ⟨n,0,none⟩ vX)/\w'.cell? ⟨n,0,none⟩=some K/\w'.frozen? ⟨n,0,none⟩=false/\n<w'.1.size:=by
 have J:=cj h.eb;have C:w'.1[n]?=_:=(y.eh.block n J).trans h.eb;have E:∀k,k≠n->(w'.setCell ⟨n,0,none⟩ vX).1[k]?=w'.1[k]? := λk u=>UI w' ⟨n,0,none⟩ k _ u;have F:=Ck h.nodup I;have hi:=(az.1 I).1;have O:∀(j:Nat) (p:a_×bY.cu) (e2:En),(bY.del s.cm m)[j]?=some p->(es.take i++es.drop (i+1))[j]?=some e2->o_ w L [] p e2:=λj p e2 hj z=>by
  rw[F,p5]at hj;rw[p5]at z;by_cases G:j<i
  ·rw[ag G]at hj z;exact h.pO j p e2 hj z
  rw[ae G]at hj z;exact h.pO (j+1) p e2 hj z
 have N:∀e2∈es.take i++es.drop (i+1),∀g',e2.np.ownBlock=some g'->M.ownBlock≠some g':=λe2 z g' B=>by
  rcases aK.1 z with D|D
  ·exact h.eV e2 (RS D) g' B
  exact h.eV e2 (List.mem_of_mem_drop D) g' B
 obtain⟨Q,R,S⟩:=h.JN (s':={ s with cm:=bY.del s.cm m,done:=wO (bY.del s.cm m) r }) (es':=es.take i++es.drop (i+1)) (vX:=vX) (w':=w'.setCell ⟨n,0,none⟩ vX) ⟨y.eh.os,y.eh.tape,y.eh.output,by simp;exact y.eh.size,λk u P=>(E k (λe=>P (.inl e))).trans (y.eh.block k u)⟩ (heap_setCell_same w' n 0 _ _ _ C) (λb hb=>by
   obtain⟨cs,fz,u⟩:=cz h.all hb;exact⟨cs,fz,(E b (fT u h.eb RZ)).trans ((y.eh.block b (cj u)).trans u)⟩) (cD y.row (λk u cs fz hb=>(E k (λe=>by have:=y.new k u;omega)).trans hb)) (λg' B=>.inr (y.new g' B)) (by
   show _=(bY.del s.cm m).length;rw[F];simp only[aj,P7,aO,h.kE]) O rfl rfl rfl rfl (zA s _ r) (by
   show((bY.del s.cm m).map (·.1)).Nodup;exact List.Nodup.sublist (List.Sublist.map _ Ry) h.nodup) N
 exact⟨⟨_,⟨_,_,_,_,_,_,_,_,Q⟩,R,λk u=>.inl u,S⟩,by simp[World.cell?,C],by simp[World.frozen?,C],aA J y.eh.size⟩
end Ref
end
section
open Tryz
namespace Ref
def mJ(j:Nat)(s:bY.LS)(b:a_)(th:bY.cu)(w:QV)(L:Nat->Prop)(e:Ending)(w':QV):Prop :=((bY.cr s.cm b=none/\40<=s.cm.length)/\e=.returned (.int .i64 5)/\eX (jJ j s) w L w')\/(¬(bY.cr s.cm b=none/\40<=s.cm.length)/\e=.returned (.int .i64 0)/\eX (jJ j { s with cm:=bY.put s.cm b th }) w L w')
def yb(w:QV)(B:Nat)(s:bY.LS)(L:Nat->Prop)(b m:ba)(y:Option Addr)(r p:Nat)(th:bY.cu)(h:jJ B s w L)(V:ka w th ⟨b.1.1,m.1.1,.slice y r p,false,.slice none 0 0,.error 0⟩)(I:th.kept=none)(hl:s.cm.length<=1000):Calls prog 147 #[ptr B,.agg #[.string b,.string m,.slice y r p,.bool false,.slice none 0 0,.int .i64 0,.string ⟨#[]⟩]] w (mJ B s b.1.1 th w L):=by
 obtain⟨d,h⟩:=h;have E:Xb w (w.alloc (.cells #[.string b,.string m,.slice y r p,.bool false,.slice none 0 0,.int .i64 0,.string ⟨#[]⟩] 168)):=(Uz _ w).alloc (af _) _;have h1:=h.below E;have X:=V.st (KN.below E);have hF:=mI _ B _ [] L b h1 hl;have Y:En.cells ⟨b.1.1,m.1.1,.slice y r p,false,.slice none 0 0,.error 0⟩=[.string b,.string m,.slice y r p,.bool false,.slice none 0 0,.int .i64 0,.string ⟨#[]⟩]:=by
  show str b.1.1 :: str m.1.1 :: _=_;rw[dF,dF];rfl
 obtain⟨es,fl,vA,vF,vB,vR,vN,h1⟩:=h1;obtain⟨oA,cA,rfl⟩:=dP h1.all;obtain⟨c0,_,_,_,_,_,cf⟩:=h1.cells;have bf:=cj h1.eb;have Z:es.length=s.cm.length:=h1.kE;have h8:8<=w.1.size:=ah (h.ct _ SP).1 (aE (h.ct.lt SP));have z:(w.alloc (.cells #[.string b,.string m,.slice y r p,.bool false,.slice none 0 0,.int .i64 0,.string ⟨#[]⟩] 168)).1[w.1.size]?=some (.cells #[.string b,.string m,.slice y r p,.bool false,.slice none 0 0,.int .i64 0,.string ⟨#[]⟩] 168 (0,0)):=heap_alloc_new w _;generalize av:w.alloc (.cells #[.string b,.string m,.slice y r p,.bool false,.slice none 0 0,.int .i64 0,.string ⟨#[]⟩] 168)=n at *;have f0:n.cell? ⟨w.1.size,0,none⟩=some (.string b):=by simp[World.cell?,z]
 have f1:n.cell? ⟨w.1.size,1,none⟩=some (.string m):=by simp[World.cell?,z]
 have f2:n.cell? ⟨w.1.size,2,none⟩=some (.slice y r p):=by simp[World.cell?,z]
 have f3:n.cell? ⟨w.1.size,3,none⟩=some (.bool false):=by simp[World.cell?,z]
 have f4:n.cell? ⟨w.1.size,4,none⟩=some (.slice none 0 0):=by simp[World.cell?,z]
 have f5:n.cell? ⟨w.1.size,5,none⟩=some (.int .i64 0):=by simp[World.cell?,z]
 have f6:n.cell? ⟨w.1.size,6,none⟩=some (.string ⟨#[]⟩):=by simp[World.cell?,z]
 have f7:=cj z;have l:=bZ h1;have D:=bZ (And.intro X Y);have M:=bZ E;have ai:=bZ (show ∀k,L k->k<w.1.size from λk I=>h.ct.lt I);unfold ptr at hF ⊢;have N:=bZ hF;have C:=bZ Z;clear h h1 V X hF Y z E Z;go_enter func147,ntmps147;go_wp2_with fail;clear av;refine N.Z.mono ?_;rintro e w'⟨a0,hx⟩;have a3:=a0.symm;subst a3;rcases hx with⟨K,rfl⟩|⟨i,a4,R,J,rfl⟩
 ·have K:bY.cr s.cm b.1.1=none:=K;clear N;by_cases U:40<=s.cm.length
  ·have ao:(40:Int)<=(es.length:Int):=by have:=C.Z;omega
   have HP:Hid (mJ B s b.1.1 th w L (.returned (.int .i64 5)) n):=bZ (.inl ⟨⟨K,U⟩,rfl,eX.pre M.Z (eX.refl ⟨d,_,_,_,_,_,_,_,l.Z⟩)⟩);go_wp2_with fail;go_ret;exact HP.Z
  have ao:¬(40:Int)<=(es.length:Int):=by have:=C.Z;omega
  have a8:es.length<=40:=by have:=C.Z;omega
  have O:=bZ (λ(w1 w2:QV) (g T:Nat)=>l.Z.Mj (th:=th) (kY:=b.1.1) (tX:=m.1.1) (eY:=.slice y r p) K D.Z.1 I (w1:=w1) (w2:=w2) (g:=g) (cP:=T));rw[D.Z.2]at O;have HA:=bZ l.Z.all
  go_upto_region 7 with fail
  go_region_law (refine jc rfl (.tmp 29) (.tmp 31) 97 rfl 168 _ 7 112 underlying97 Dh MY RZ (.slice oA es.length cA) _ (es.flatMap En.cells) rfl (UL (w:=n.drewN _) HA.Z _) ⟨n.1.size,0,none⟩ 1 [.string b,.string m,.slice y r p,.bool false,.slice none 0 0,.int .i64 0,.string ⟨#[]⟩] rfl rfl (nH _ _ _ _) (by intro u hu;simp at hu;rcases hu with rfl|rfl|rfl|rfl|rfl|rfl|rfl<;>rfl) RM R6 R5 ?_;intro g1 am w3 ho aa ab hold;obtain⟨q1,⟨v0,bj⟩,bc,bg⟩:=O.Z _ w3 g1 am (qm _ _ _) ho aa ab hold;have HQ:=bZ q1;clear O q1 ho aa ab hold)
  all_goals
   go_wp2_with fail;go_ret;exact .inr ⟨λG=>U G.2,rfl,eX.pre M.Z HQ.Z⟩
 obtain⟨e,g,T,F,hE,hv,hg,hc⟩:=l.Z.entry R;have J:bY.cr s.cm b.1.1=some a4:=J;rw[show({ s with done:=d }:bY.LS).cm.length=es.length from C.Z.symm]at hv;cases hv;obtain⟨v0,v1,v2,v3,v4,v5,v6,ad⟩:=zB e;rw[ad]at hc;have x0:=hc 0 _ rfl;have x1:=hc 1 _ rfl;have x2:=hc 2 _ rfl;have x3:=hc 3 _ rfl;have x4:=hc 4 _ rfl;have x5:=hc 5 _ rfl;have x6:=hc 6 _ rfl;simp only[Qc]at x0;have a9:∀j,n.frozen? ⟨g,j,none⟩=false:=λj=>by
  rcases l.Z.all.2 with⟨P,_⟩|⟨g',cp,a6,P,_,hb,_⟩
  ·cases P
  have ax:some g=some g':=congrArg Value.ownBlock P;cases ax;simp[World.frozen?,hb]
 have hi:(i:Int)<(es.length:Int):=by have:=(az.1 F).1;omega
 have bd:(0:Int)<=(i:Int):=RM;obtain⟨a1,S⟩:=JP l.Z.all F D.Z.2;have HG:=bZ (l.Z.NV R F D.Z.1 I S a1);have ak:Hid (¬(bY.cr s.cm b.1.1=none/\40<=s.cm.length)):=bZ (λG=>by rw[J]at G;cases G.1);obtain⟨a5,a7,Q⟩:=cz l.Z.all (g:=g) rfl;have ay:g≠B:=λe=>by rw[e,l.Z.eb]at Q;cases Q
 have bh:B≠g:=λe=>ay e.symm;have aC:g≠w.1.size:=λe=>by
  have:=l.Z.ct.lt (l.Z.dK g (.inl rfl));have:=ai.Z g (l.Z.dK g (.inl rfl));omega
 have bk:w.1.size≠g:=λe=>aC e.symm;clear N hc hE a1 S ad Q R F J
 go_upto_region 3 with fail
 go_region
 all_goals
  go_wp2_with fail;go_ret;exact .inr ⟨ak.Z,rfl,eX.pre M.Z (eX.post HG.Z (Bx.below (Uz _ _).drew) (λL' ap=>ap.below (Uz _ _).drew))⟩
end Ref
end
section
open bY
open Tryz
variable{s:bY.LS}{j:a_}{th:cu}
def bY.LS.jK(s:bY.LS)(j b:a_):(Nat×Nat)×bY.LS :=if dL j=false then((1,0),s)else if(bY.check b).1=0 then(((s.iq j ⟨vn 0,some (gG b),b,none⟩).1,0),(s.iq j ⟨vn 0,some (gG b),b,none⟩).2) else(bY.check b,s)
namespace Ref
def yd(h:bY.cr s.cm j=none/\40<=s.cm.length):s.iq j th=(5,s):=by
 unfold bY.LS.iq;rw[ag ⟨by rw[h.1];rfl,h.2⟩]
def vZ(h:¬(bY.cr s.cm j=none/\40<=s.cm.length)):s.iq j th=(0,{ s with cm:=bY.put s.cm j th }.write (dU j th)):=by
 unfold bY.LS.iq;rw[ae (λb=>h ⟨Option.isNone_iff_eq_none.1 b.1,b.2⟩)]
def Bk(w:QV)(b:Nat)(s:bY.LS)(L:Nat->Prop)(t:ba)(h:jJ b s w L)(n:t.size<=100000000000000000)(hj:(cW s.jr).length<=1000000000000000000):Calls prog 105 #[ptr b,.string t] w λe w'=>e=.returned (.tuple #[])/\eX (jJ b (s.write t.1.1)) w L w':=by
 obtain⟨d,h⟩:=h;refine(Df w b _ [] L t h n hj).mono ?_;rintro e w'⟨rfl,m⟩;exact⟨rfl,m.imp (λL' l=>⟨d,l⟩)⟩
def JS(w:QV)(n:Nat)(s:bY.LS)(L:Nat->Prop)(j l:ba)(h:jJ n s w L)(hl:s.cm.length<=1000)(I:j.size<=20000000)(K:l.size<=20000000):Calls prog 104 #[ptr n,.string j,.string l] w λe w'=>(dL j.1.1=false/\e=.returned (.int .i64 1)/\eX (jJ n s) w L w')\/(dL j.1.1=true/\sA l.1.1=none/\e=.returned (.int .i64 6)/\eX (jJ n s) w L w')\/(dL j.1.1=true/\∃v,sA l.1.1=some v/\mJ n s j.1.1 ⟨v,none,[],none⟩ w L e w'):=by
 have B:=eg j w I;rw[pK]at B;have G:8<=w.1.size:=by
  obtain⟨d,es,M,N,P,O,R,Q,h⟩:=h;exact ah (h.ct _ h.here).1 (aE (h.ct.lt h.here))
 have C:=sI 3 l w G K (af _);rw[<-M5]at C;have r:=bZ B;have p:=bZ C;have u:=bZ h;clear B C h;cases D:dL j.1.1 with
 |false =>
  rw[D]at r;unfold ptr;go_enter func104,ntmps104;go_wp2_with(go_at_call 108;refine r.Z.mono ?_;rintro e w' ⟨rfl,rfl⟩);go_ret;exact .inl ⟨Si,Si,eX.refl u.Z⟩
 |true =>
  rw[D]at r;cases hv:sA l.1.1 with
  |none =>
   rw[hv]at p;have y:Hid (Calls prog 146 #[.string l,.int .i64 3] w λe w'=>e=.returned (.bool false)/\Xb w w'):=p;clear p;unfold ptr;go_enter func104,ntmps104;go_wp2_with(first|(go_at_call 108;refine r.Z.mono ?_;rintro e w' ⟨rfl,rfl⟩)|(go_at_call 146;refine y.Z.mono ?_;rintro e w' ⟨rfl,m⟩));go_ret;exact .inr (.inl ⟨Si,Si,Si,eX.pre m (eX.refl (u.Z.below m))⟩)
  |some v =>
   rw[hv]at p;have y:Hid (Calls prog 146 #[.string l,.int .i64 3] w λe w'=>e=.returned (.bool true)/\Xb w w'):=p;clear p;have z:∀w1,Xb w w1->Calls prog 147 #[ptr n,.agg #[.string j,.string l,.slice none 0 0,.bool false,.slice none 0 0,.int .i64 0,.string ⟨#[]⟩]] w1 (mJ n s j.1.1 ⟨v,none,[],none⟩ w L):=λw1 m=>by
    refine(yb w1 n s L j l none 0 0 ⟨v,none,[],none⟩ (u.Z.below m) (.inl ⟨rfl,(qE hv).2,rfl⟩) rfl hl).mono ?_;intro e w' J;rcases J with⟨a,b,c⟩|⟨a,b,c⟩
    ·exact .inl ⟨a,b,eX.pre m c⟩
    exact .inr ⟨a,b,eX.pre m c⟩
   unfold ptr at z ⊢;have E:=bZ z;clear z;go_enter func104,ntmps104;go_wp2_with(first|(go_at_call 108;refine r.Z.mono ?_;rintro e w' ⟨rfl,rfl⟩)|(go_at_call 146;refine y.Z.mono ?_;rintro e w1 ⟨rfl,m⟩;have F:=bZ (E.Z w1 m)));refine F.Z.mono ?_;rintro e w2 (⟨a,rfl,c⟩|⟨a,rfl,c⟩)
   ·go_wp2_with fail;go_ret;exact .inr (.inr ⟨Si,v,Si,.inl ⟨a,Si,c⟩⟩)
   go_wp2_with fail;go_ret;exact .inr (.inr ⟨Si,v,Si,.inr ⟨a,Si,c⟩⟩)
end Ref
end
section
open bY
open Tryz
namespace Ref
variable{L:Nat->Prop}{b:a_}{t:ba}
def ye{w w1:QV}{j:Nat}{s:LS}{th:cu}(B:¬(bY.cr s.cm b=none/\40<=s.cm.length))(z:eX (jJ j { s with cm:=bY.put s.cm b th }) w L w1)(C:t.1.1=dU b th)(D:t.size<=100000000)(hj:(cW s.jr).length<=1000000000000000000):Calls prog 105 #[ptr j,.string t] w1 λe w'=>e=.returned (.tuple #[])/\eX (jJ j (s.iq b th).2) w L w':=by
 obtain⟨p,u,m,y,n⟩:=z;refine(Bk w1 j _ p t u RM hj).mono ?_;rintro e w'⟨rfl,r,k1,k2,k3,k4⟩;rw[vZ B];have hs:=n.size;refine⟨rfl,r,?_,λk l=>?_,λk l=>k3 k (y k l),n.trans k4 m⟩
 ·rw[C]at k1;exact k1
 rcases k2 k l with h|h
 ·exact m k h
 exact .inr RM
def JT(w:QV)(p:Nat)(s:LS)(L:Nat->Prop)(b j:ba)(h:jJ p s w L)(hl:s.cm.length<=1000)(E:b.size<=20000000)(I:j.size<=20000000)(hj:(cW s.jr).length<=1000000000000000000):Calls prog 68 #[ptr p,.string b,.string j] w λe w'=>e=.returned (.int .i64 ((s.lH b.1.1 j.1.1).1:Nat))/\eX (jJ p (s.lH b.1.1 j.1.1).2) w L w':=by
 have z:=JS w p s L b j h hl E I;have F:(⟨#[112,117,116,32]⟩++b:ba).size=4+b.size:=SN;have G:(⟨#[112,117,116,32]⟩++b++⟨#[32]⟩:ba).size=4+b.size+1:=by rw[P3,F];rfl
 have N:(⟨#[112,117,116,32]⟩++b++⟨#[32]⟩++j:ba).size=4+b.size+1+j.size:=by rw[P3,G]
 have O:(⟨#[112,117,116,32]⟩:ba).size=4:=rfl;have P:(⟨#[32]⟩:ba).size=1:=rfl;have y:∀v w1,sA j.1.1=some v->¬(bY.cr s.cm b.1.1=none/\40<=s.cm.length)->eX (jJ p { s with cm:=bY.put s.cm b.1.1 ⟨v,none,[],none⟩ }) w L w1->Calls prog 105 #[ptr p,.string (⟨#[112,117,116,32]⟩++b++⟨#[32]⟩++j)] w1 λe w'=>e=.returned (.tuple #[])/\eX (jJ p (s.iq b.1.1 ⟨v,none,[],none⟩).2) w L w':=λv w1 hv l C=>by
  refine ye l C ?_ RM hj;rw[dD,dD,dD,(qE hv).2];show[112,117,116,32]++b.1.1++[32]++_=[112,117,116,32]++b.1.1++32 :: _;simp
 unfold ptr at z y ⊢;have r:=bZ z;have u:=bZ y;clear z y h;have J:¬9223372036854775807<4+b.size:=RM;have K:¬9223372036854775807<4+b.size+1:=RM;have M:¬9223372036854775807<4+b.size+1+j.size:=RM;go_enter func68,ntmps68;go_wp2_with fail;refine r.Z.mono ?_;rintro e w1 (⟨l,rfl,m⟩|⟨l,hv,rfl,m⟩|⟨l,v,hv,⟨hf,rfl,m⟩|⟨hf,rfl,m⟩⟩)
 ·have n:Hid (s.lH b.1.1 j.1.1=(1,s)):=bZ (by unfold LS.lH;rw[ag l]);clear r u l;go_wp2_with fail;go_ret;rw[n.Z];exact⟨rfl,m⟩
 ·have n:Hid (s.lH b.1.1 j.1.1=(6,s)):=bZ (by unfold LS.lH;rw[ae (by rw[l];simp),hv]);clear r u l hv;go_wp2_with fail;go_ret;rw[n.Z];exact⟨rfl,m⟩
 ·have n:Hid (s.lH b.1.1 j.1.1=(5,s)):=bZ (by unfold LS.lH;rw[ae (by rw[l];simp),hv];exact yd hf);clear r u l hv hf;go_wp2_with fail;go_ret;rw[n.Z];exact⟨rfl,m⟩
 have n:Hid (s.lH b.1.1 j.1.1=(0,(s.iq b.1.1 ⟨v,none,[],none⟩).2)):=bZ (by unfold LS.lH;rw[ae (by rw[l];simp),hv];show s.iq _ _=_;rw[vZ hf]);have B:=bZ (u.Z v w1 hv hf m);clear r u l hv hf m;go_wp2_with(go_at_call 105;refine B.Z.mono ?_;rintro e w2 ⟨rfl,D⟩);go_ret;rw[n.Z];exact⟨rfl,D⟩
end Ref
end
section
open bY
open Tryz
namespace Ref
def Ps(w:QV)(a b:Int)(s t:ba):(binOp .neq 166 (.agg #[.int .i64 a,.string s]) (.agg #[.int .i64 b,.string t])).run prog w=.ok (.bool (!(a==b&&s.toList==t.toList))) w:=by
 have hS:prog.underlying 166=some (.struct (prog.fieldsOf 166)):=RO;have e:prog.stoodInHeld 166=false:=RO;rw[run_neq_struct,show(10000:Nat)=9999+1 from rfl,run_equalIn_agg w 9999 166 _ _ hS e];simp only[Program.fieldsOf,underlying166];go_simp;by_cases h1:a=b<;>by_cases h2:s.toList=t.toList<;>simp[h1,h2]
def NW(w:QV)(x y:Operand)(xs ys:Array Xa):(eqGuard .neq 166 x y (.agg xs) (.agg ys)).run prog w=.ok () w:=run_eqGuard_agg w .neq 166 x y xs ys RO
def Mm{l m:a_}:((⟨l.toArray⟩:ba).toList==(⟨m.toArray⟩:ba).toList)=decide (l=m):=by
 rw[jb]
def Gb{u v:Wo}(hu:gK u)(hv:gK v){a b:Int}{s t:ba}(h1:dw u=.agg #[.int .i64 a,.string s])(h2:dw v=.agg #[.int .i64 b,.string t]):(a==b&&s.toList==t.toList)=iY u v:=by
 have l:∀x:V,iM 3 x->¬(bY.wr 3 x=[]):=λx hx e=>by
  have:=GP hx;rw[e]at this;exact absurd this (by have m:sA []=none:=RO;rw[m];intro h;cases h)
 cases u with
 |ok x =>
  cases v with
  |ok y =>
   cases h1;cases h2;show((0:Int)==0&&_)=bY.same 3 x y;rw[Mm,Av (hu x rfl) (hv y rfl)];rfl
  |error d =>
   cases h1;cases h2;show _=false;have:((⟨(bY.wr 3 x).toArray⟩:ba).toList==(⟨#[]⟩:ba).toList)=false:=by
    rw[jb];exact aF (λe=>l x (hu x rfl) Sw)
   rw[this,Bool.and_false]
 |error c =>
  cases v with
  |ok y =>
   cases h1;cases h2;show _=false;have:((⟨#[]⟩:ba).toList==(⟨(bY.wr 3 y).toArray⟩:ba).toList)=false:=by
    rw[jb];exact aF (λe=>l y (hv y rfl) (by simpa using e.symm))
   rw[this,Bool.and_false]
  |error d =>
   cases h1;cases h2;show((c:Int)==(d:Int)&&_)=(c==d);by_cases j:c=d
   ·subst j;simp
   have p:((c:Int)==(d:Int))=false:=aw.2 (λe=>j RM);rw[p,aw.2 j];rfl
def lZ(n:Nat)(key:a_)(t:bY.T)(o:Option fM)(s1:LS)(b:Bool)(i:Nat)(sk:LS)(y:qc):Prop :=(b=true/\∃kp,o=some kp/\y=⟨key,[],.error 0,.error 0⟩/\i<=kp.cO.length/\en (cC n) key kp.cO s1=en (cC n) key (kp.cO.drop i) sk)\/(b=false/\eZ (cC n) key t o s1=fR (cC n) key t y sk)
def Bl(e:a_->LS->Wo×LS)(key k:a_)(w:Wo)(r:List (a_×Wo))(s:LS):en e key ((k,w) :: r) s=if iY (e k s).1 w=true then en e key r (e k s).2 else(some ⟨key,k,w,(e k s).1⟩,(e k s).2):=by rw[en]
section
variable {n:Nat} {key:a_} {t:bY.T} {o:Option fM} {s1 sk:LS} {b:Bool} {i:Nat} {y:qc}
def lZ.start(n:Nat)(key:a_)(t:bY.T)(o:Option fM)(s1:LS):lZ n key t o s1 o.isSome 0 s1 ⟨key,[],.error 0,.error 0⟩:=by
 cases o with
 |none=>exact .inr ⟨rfl,rfl⟩
 |some kp=>exact .inl ⟨rfl,kp,rfl,rfl,au _,rfl⟩
def lZ.next(h:lZ n key t o s1 true i sk y){kp:fM}(e:o=some kp){q:a_×Wo}(p:kp.cO[i]?=some q):(iY (cC n q.1 sk).1 q.2=true->lZ n key t o s1 true (i+1) (cC n q.1 sk).2 y)/\(iY (cC n q.1 sk).1 q.2=false->lZ n key t o s1 false (i+1) (cC n q.1 sk).2 ⟨key,q.1,q.2,(cC n q.1 sk).1⟩):=by
 have l:=(az.1 p).1;have j:=aR l;rw[(az.1 p).2]at j;rcases h with⟨_,r,m,hy,_,hd⟩|⟨hb,_⟩
 ·rw[e]at m;cases m;obtain⟨u,z⟩:=q;rw[j]at hd;refine⟨λhs=>.inl ⟨rfl,kp,e,hy,l,?_⟩,λhs=>.inr ⟨rfl,?_⟩⟩
  ·rw[hd,Bl,ag hs]
  rw[e];show(match en _ key _ s1 with|(.none,s)=>(kp.dQ,s)|(.some y,s)=>fR _ key t y s)=_;rw[hd,Bl,ae (by rw[hs];exact R0)]
 cases hb
def lZ.stands(h:lZ n key t o s1 true i sk y){kp:fM}(e:o=some kp)(hi:kp.cO.length<=i):eZ (cC n) key t o s1=(kp.dQ,sk):=by
 rcases h with⟨_,l,j,hy,_,hd⟩|⟨hb,_⟩
 ·rw[e]at j;cases j;rw[aQ hi]at hd;rw[e];show(match en _ key _ s1 with|(.none,s)=>(kp.dQ,s)|(.some y,s)=>fR _ key t y s)=_;rw[hd];rfl
 cases hb
def lZ.MZ(h:lZ n key t o s1 true i sk y):∃kp,o=some kp/\i<=kp.cO.length:=by
 rcases h with⟨_,j,e,hy,hi,hd⟩|⟨hb,_⟩
 ·exact⟨j,e,hi⟩
 cases hb
def lZ.runs(h:lZ n key t o s1 false i sk y):eZ (cC n) key t o s1=fR (cC n) key t y sk:=by
 rcases h with⟨hb,_⟩|⟨_,h⟩
 ·cases hb
 exact h
end
def ry(rb:Nat)(rn:List (a_))(W2:QV)(L2:Nat->Prop)(cb:Nat)(sk:LS)(y:qc)(wr:QV):Prop :=∃e,fA rb sk rn wr e/\(∀k,e k->L2 k\/W2.1.size<=k)/\(∀k,L2 k->e k)/\ed L2 W2 wr/\¬e cb/\wr.1[cb]?=some (.cells (dB y).toArray 199 (0,0))/\W2.1.size<=cb
section
variable {rb:Nat} {rn:List (a_)} {W2:QV} {L2:Nat->Prop} {cb:Nat} {sk s':LS} {y y':qc} {wr w1 w':QV}
def ry.below(h:ry rb rn W2 L2 cb sk y wr)(e:Xb wr w1):ry rb rn W2 L2 cb sk y w1:=by
 obtain⟨l,h1,h2,m,p,r,j,u⟩:=h;exact⟨l,h1.below e,h2,m,p.trans (ed.below e) (λk z=>.inl z),r,(e.block _ (cj j)).trans j,u⟩
def ry.then(h:ry rb rn W2 L2 cb sk y wr)(m:Xb wr w1):∃j,fA rb sk rn w1 j/\(∀k,j k->k<wr.1.size)/\∀s' w',eX (fA rb s' rn) w1 j w'->ry rb rn W2 L2 cb s' y w':=by
 obtain⟨j,h1,h2,E,F,z,B,G⟩:=h;have u:=F.trans (ed.below m) (λk e=>.inl e);have l:=(m.block _ (cj B)).trans B;refine⟨j,h1.below m,λk e=>h1.ct.lt e,λs' w' I=>?_⟩;obtain⟨L',C,p,D,r⟩:=I;have hs:=u.size;refine⟨L',C,λk e=>?_,λk e=>D k (E k e),u.trans r h2,λe=>?_,(r.block _ (cj l) z).trans l,G⟩
 ·rcases p k e with h|h
  ·exact h2 k h
  exact .inr RM
 rcases p cb e with h|h
 ·exact z h
 have:=cj l;omega
def ry.note(h:ry rb rn W2 L2 cb sk y wr)(D:w'.1[cb]?=some (.cells (dB y').toArray 199 (0,0)))(hf:ed (λk=>k=cb) wr w'):ry rb rn W2 L2 cb sk y' w':=by
 obtain⟨r,h1,h2,u,z,m,B,p⟩:=h;have C:KN wr w':=λk cs ty fz j l=>(hf.block k (cj j) (λe=>by
  rw[e,B]at j;cases j;rcases l with l|l<;>cases l)).trans j
 refine⟨r,h1.st (λk j=>hf.block k (h1.ct.lt j) (λe=>m (e▸j))) C,h2,u,z.trans hf (λk j=>.inr (by rw[j];exact p)),m,D,p⟩
def ry.eb(h:ry rb rn W2 L2 cb sk y wr):wr.1[cb]?=some (.cells (dB y).toArray 199 (0,0)):=by
 obtain⟨j,h1,h2,l,m,p,e,r⟩:=h;exact e
def ry.cells(h:ry rb rn W2 L2 cb sk y wr):cb<wr.1.size/\(∀o,wr.frozen? ⟨cb,o,none⟩=false)/\∀j u,(dB y)[j]?=some u->wr.cell? ⟨cb,j,none⟩=some u:=by
 obtain⟨l,h1,h2,m,p,r,e,z⟩:=h;refine⟨cj e,λo=>by simp[World.frozen?,e],λj u hu=>?_⟩;simp only[World.cell?,e];simpa using hu
end
def jG(o:Option fM):List (a_×Wo):=match o with|none=>[]|some kp=>kp.cO
structure qp(rb n:Nat)(rn:List (a_))(W2:QV)(L2:Nat->Prop)(cb:Nat)(key:a_)(t:bY.T)(o:Option fM)(s1:LS)(b:Bool)(i:Nat)(sk:LS)(y:qc)(wr:QV):Prop where
 at_:lZ n key t o s1 b i sk y
 w:ry rb rn W2 L2 cb sk y wr
 kb:Kb (λ_=>True) s1 sk
 p8:jg s1 sk i
 fs:gn sk
 ph:Ph sk<=Ph s1
 le:i<=401
section
variable {rb n:Nat} {rn:List (a_)} {W2:QV} {L2:Nat->Prop} {cb:Nat} {key:a_} {t:bY.T} {o:Option fM} {s1:LS} {b:Bool} {i:Nat} {sk:LS} {y:qc} {wr:QV}
def qp.below(h:qp rb n rn W2 L2 cb key t o s1 b i sk y wr){w1:QV}(e:Xb wr w1):qp rb n rn W2 L2 cb key t o s1 b i sk y w1:={ h with w:=h.w.below e }
def qp.entry(h:qp rb n rn W2 L2 cb key t o s1 b i sk y wr){x:Nat}{th:cu}(O:s1.cm[x]?=some (key,th))(hl:bY.cr s1.cm key=some th)(K:key∈s1.b_)(M:key∉rn)(N:o=th.kept):∃p r,fA rb sk rn wr r/\sk.cm[x]?=some p/\p.1=key/\p.2.dc=th.dc/\p.2.kept=o/\bY.cr sk.cm key=some p.2/\∃g u m l,wr.cell? ⟨rb,0,none⟩=some (.slice (some ⟨g,0,none⟩) sk.cm.length u)/\g<wr.1.size/\x<sk.cm.length/\rb<wr.1.size/\wr.cell? ⟨g,x*7+4,none⟩=some (.slice m (jG o).length l)/\wr.ownsRow 8 204 3 (.slice m (jG o).length l) (jG o).length ((jG o).flatMap eA):=by
 obtain⟨r,h1,_⟩:=h.w;obtain⟨p,j,e1,e2⟩:=xY h.p8.cX O;have e1:p.1=key:=e1;have hA:=h1;obtain⟨es,P,R,T,S,V,U,h2⟩:=h1;have E:p.2.kept=o:=by
  rw[<-Ej h2.nodup j,e1,h.kb.2 key K trivial,N];unfold cS;rw[hl];rfl
 have L:bY.cr sk.cm key=some p.2:=by rw[<-e1];exact kS (k:=p.1) (a:=p.2) h2.nodup j
 obtain⟨e,g,u,Q,I,hv,J,hc⟩:=h2.entry j;subst hv;obtain⟨G,_⟩:=h2.cells;have D:=I.kept;rw[ae (by rw[e1];exact M),E]at D;have C:wr.ownsRow 8 204 3 e.np (jG o).length ((jG o).flatMap eA):=by
  rcases D with⟨z,_,B⟩|⟨kp,z,_,_,B,_⟩
  ·rw[z,B];exact⟨rfl,.inl ⟨rfl,rfl⟩⟩
  rw[z];exact B
 obtain⟨m,l,F⟩:=dP C;rw[F]at C;refine⟨p,r,hA,j,e1,e2,E,L,g,u,m,l,G,J,(az.1 j).1,cj h2.eb,?_,C⟩;rw[<-F];exact hc 4 _ rfl
def qp.call(says:vP rb n)(K:sO n s1)(L:∀k∈rn,k∈s1.b_)(h:qp rb n rn W2 L2 cb key t o s1 true i sk y wr){kp:fM}(J:o=some kp){q:a_×Wo}(D:kp.cO[i]?=some q)(O:kp.cO.length<=401)(Q:gK q.2){w1:QV}(F:Xb wr w1){u:ba}(hx:u.1.1=q.1):Calls prog 109 #[ptr rb,.string u] w1 λe w'=>e=.returned (dw (cC n q.1 sk).1)/\(∀k,wr.1.size<=k->k<w1.1.size->w'.1[k]?=w1.1[k]?)/\w1.1.size<=w'.1.size/\gK (cC n q.1 sk).1/\(w'.1[cb]?=some (.cells (dB y).toArray 199 (0,0))/\cb<wr.1.size) /\(iY (cC n q.1 sk).1 q.2=true->qp rb n rn W2 L2 cb key t o s1 true (i+1) (cC n q.1 sk).2 y w') /\(iY (cC n q.1 sk).1 q.2=false->∀w2,w2.1[cb]?=some (.cells (dB ⟨key,q.1,q.2,(cC n q.1 sk).1⟩).toArray 199 (0,0))->ed (λk=>k=cb) w' w2->qp rb n rn W2 L2 cb key t o s1 false (i+1) (cC n q.1 sk).2 ⟨key,q.1,q.2,(cC n q.1 sk).1⟩ w2):=by
 have P:=(az.1 D).1;have j:=K.due h.p8 h.le h.fs h.ph;obtain⟨E,hA,G,M⟩:=h.w.then F;have hs:=says w1 sk rn E u hA j (λk I=>by rw[h.kb.1];exact L k I);rw[hx]at hs;obtain⟨f1,f2,f3⟩:=oZ n q.1 sk h.fs;have B:=(h.p8.trans (gM n q.1 sk j.kb));have z:=h.kb.trans (pd n q.1 sk);have C:=ah (rq n q.1 sk h.fs j.kb j.hl) h.ph;obtain⟨d1,d2⟩:=h.at_.next J D;refine hs.mono ?_;rintro e w'⟨rfl,p⟩;have m:=M _ _ p;refine⟨rfl,?_,?_,f1.fine,⟨m.eb,h.w.cells.1⟩,λr=>⟨d1 r,m,z,B,f2,C,by omega⟩,λr w2 N hf=>⟨d2 r,m.note N hf,z,B,f2,C,by omega⟩⟩
 ·obtain⟨_,_,_,_,l⟩:=p;exact λk h1 h2=>l.block k h2 (λhl=>by have:=G k hl;omega)
 obtain⟨_,_,_,_,l⟩:=p;exact l.size
end
end Ref
end
