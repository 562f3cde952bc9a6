/- Out of L27. -/
import Derived.Test.YtpekpdimdelncaaGreatDoorP18
import Derived.Test.YtpekpdimdelncaaGreatDoorP07
set_option linter.unusedVariables false
set_option linter.unusedSimpArgs false
set_option maxRecDepth 100000
set_option maxHeartbeats 4000000
set_option linter.defProp false
namespace Go.Proofs.YtpekpdimdelncaaGreatDoor
open Go.RowKit Go.Shelf
section
open bY
open Tryz
def PU(w2 t u0 u1 u2 u3 u4 u5):Xc w2 (w2.alloc (.cells #[u0,u1,u2,u3,u4,u5] t)) /\(w2.alloc (.cells #[u0,u1,u2,u3,u4,u5] t)).cell? ⟨w2.1.size,0,none⟩=some u0/\(w2.alloc (.cells #[u0,u1,u2,u3,u4,u5] t)).cell? ⟨w2.1.size,1,none⟩=some u1/\(w2.alloc (.cells #[u0,u1,u2,u3,u4,u5] t)).cell? ⟨w2.1.size,2,none⟩=some u2/\(w2.alloc (.cells #[u0,u1,u2,u3,u4,u5] t)).cell? ⟨w2.1.size,3,none⟩=some u3/\(w2.alloc (.cells #[u0,u1,u2,u3,u4,u5] t)).cell? ⟨w2.1.size,4,none⟩=some u4/\(w2.alloc (.cells #[u0,u1,u2,u3,u4,u5] t)).cell? ⟨w2.1.size,5,none⟩=some u5:=by
 exact⟨(VM _ w2).alloc (af _) _,by simp[go_sem],by simp[go_sem],by simp[go_sem],by simp[go_sem],by simp[go_sem],by simp[go_sem]⟩
def Gs(n w m)(key:ba)(HB:qg m (cG n) (Pre n))(s L)(h:fI w m s L)(g:G w)(hd:jY w)(hk:key.size<=200)(bg:key.1.1∈s.cm)(bq:xy n s)(th t)(hl:bY.cv s.ct key.1.1=some th)(ht:th.di=some t):Calls prog 85 #[ptr m,.string key] w λe l=>∃x,e=.returned x/\ij l (fg (cG n) key.1.1 t th.kept s).1 x/\cO w m L (fg (cG n) key.1.1 t th.kept s).2 l/\gh (fg (cG n) key.1.1 t th.kept s).2<=gh s+LM:=by
 have aC:=h.alloc (.cells #[.int .i64 0,.nilIface] 113);have a0:Below _ w (w.alloc (.cells #[.int .i64 0,.nilIface] 113)):=(VM _ _).alloc (af _) _;have g1:=g.below a0 g.size;have d1:=hd.below a0 g.size;have bm:key.1.1.length<=maxLen:=Tr;obtain⟨p,hp,bu⟩:=aC.JC hl;have bo:=hp;obtain⟨hb,es,c0,hm,bn⟩:=bo;have hr:=hm.cv underlying104 (k:=key.1.1) bm (z:=.pointer none) S8;rw[bn,dG]at hr;simp only at hr;obtain⟨v0,r0,k0,a8,_,_,h4,h5⟩:=bu;have br:∃a,r0=.pointer (some a):=by
  rcases h4 with⟨C,_⟩|⟨t',a,_,C,_⟩
  ·rw[ht]at C;cases C
  exact⟨a,C⟩
 obtain⟨a,rfl⟩:=br;have bk:∃q,k0=.pointer q:=by
  rcases h5 with⟨_,C⟩|⟨_,kb,_,C,_⟩
  ·exact⟨_,C⟩
  exact⟨_,C⟩
 have am:=PS n _ m p key HB s L aC g1 d1 hk bg bq th t hl ht hp k0 h5;unfold PR at am;obtain⟨q,rfl⟩:=bk;have e1:(w.alloc (.cells #[.int .i64 0,.nilIface] 113)).cell? ⟨p,1,none⟩=some (.pointer (some a)):=cr a8 rfl;have e3:(w.alloc (.cells #[.int .i64 0,.nilIface] 113)).cell? ⟨p,3,none⟩=some (.pointer q):=cr a8 rfl;generalize fg _ _ t _ s=P at am ⊢;have HD:=bZ am;generalize hR:(λ(e:Ending) (l:Xa)=>∃x,e=.returned x/\ij l P.1 x/\cO w m L P.2 l/\gh P.2<=gh s+LM)=R;have bj:∀(wr:Xa) (c:Int) (i:Xb),cO _ m L P.2 wr->ij wr P.1 _->gh P.2<=gh s+LM->wr.cell? ⟨w.1.size,0,none⟩=some _/\wr.cell? ⟨w.1.size,1,none⟩=some .nilIface/\wr.frozen? ⟨w.1.size,0,none⟩=false/\wr.frozen? ⟨w.1.size,1,none⟩=false/\((wr.setCell ⟨w.1.size,0,none⟩ _).setCell ⟨w.1.size,1,none⟩ i).cell? ⟨w.1.size,0,none⟩=some _/\((wr.setCell ⟨w.1.size,0,none⟩ _).setCell ⟨w.1.size,1,none⟩ i).cell? ⟨w.1.size,1,none⟩=some i/\R _ ((wr.setCell ⟨w.1.size,0,none⟩ (.int .i64 c)).setCell ⟨w.1.size,1,none⟩ i):=λwr c i hP hW bp=>by
  obtain⟨b0,b1,z0,z1,bd,bf,d0,d1⟩:=pV h hP hW;rw[<-hR];exact⟨b0,b1,z0,z1,d0,d1,_,rfl,bf,bd,bp⟩
 have ak:=bZ bj;unfold ptr at hr ⊢;go_enter func85,ntmps85;go_wp2_with fail;refine HD.Z.mono ?_;rintro e b (⟨y,he,-,vn,O⟩|⟨rfl,kb,c,i,hi,O⟩)
 ·obtain⟨k',N,z,D,B,E,hy⟩:=rA y;rw[hy]at he O;subst he;obtain⟨aa,q0,q1,q2,q3,q4,q5⟩:=PU b 61 (.string k') _ (.int .i64 z) (.string D) (.int .i64 B) (.string E);obtain⟨b4,⟨on,mn,cn,rfl⟩,-⟩:=O _ aa;obtain⟨b2,-,-⟩:=O _ (VM _ b);obtain⟨-,-,I,F,M,w3,bt,f4,z4,bl,bh⟩:=O _ aa.drew;have ad:=bZ bh;have ay:=bZ bt;unfold ptr at ad;have bx:m<b.1.size:=by
   refine Sw λhn=>?_;have:b.1[m]?=none:=Sx.2 R5;simp[World.cell?,this]at b2
  go_wp2_with fail;rename_i K5 bw;refine kO K5 (λa w h=>h) ?_;generalize bv:b.alloc (.cells #[.string k',.string N,.int .i64 z,.string D,.int .i64 B,.string E] 61)=r at *;have a9:b.1.size<r.1.size:=by rw[<-bv];simp
  have hS:r.cell? ⟨b.1.size,0,none⟩=some (.string k')/\r.cell? ⟨b.1.size,1,none⟩=some (.string N)/\r.cell? ⟨b.1.size,2,none⟩=some (.int .i64 z)/\r.cell? ⟨b.1.size,3,none⟩=some (.string D)/\r.cell? ⟨b.1.size,4,none⟩=some (.int .i64 B)/\r.cell? ⟨b.1.size,5,none⟩=some (.string E):=⟨q0,q1,q2,q3,q4,q5⟩;have ab:∀l,Xc r l->l.cell? ⟨b.1.size,0,none⟩=some (.string k')/\l.cell? ⟨b.1.size,1,none⟩=some (.string N)/\l.cell? ⟨b.1.size,2,none⟩=some (.int .i64 z)/\l.cell? ⟨b.1.size,3,none⟩=some (.string D)/\l.cell? ⟨b.1.size,4,none⟩=some (.int .i64 B)/\l.cell? ⟨b.1.size,5,none⟩=some (.string E):=λl bc=>by
   obtain⟨S,T,U,V,X,Y⟩:=hS;have q:=λ(i:Nat)=>bc.cell (p:=⟨b.1.size,i,none⟩) a9;exact⟨(q 0).trans S,(q 1).trans T,(q 2).trans U,(q 3).trans V,(q 4).trans X,(q 5).trans Y⟩
  have J:w3.cell? ⟨b.1.size,0,none⟩=some (.string k')/\w3.cell? ⟨b.1.size,1,none⟩=some (.string N)/\w3.cell? ⟨b.1.size,2,none⟩=some (.int .i64 z)/\w3.cell? ⟨b.1.size,3,none⟩=some (.string D)/\w3.cell? ⟨b.1.size,4,none⟩=some (.int .i64 B)/\w3.cell? ⟨b.1.size,5,none⟩=some (.string E):=by
   obtain⟨S,T,U,V,X,Y⟩:=hS;have q:=λ(i:Nat)=>VS (w:=r) (w':=w3) (a:=⟨b.1.size,i,none⟩) (bl b.1.size (af _) a9);exact⟨(q 0).trans S,(q 1).trans T,(q 2).trans U,(q 3).trans V,(q 4).trans X,(q 5).trans Y⟩
  have a7:(w3.setCell ⟨m,4,none⟩ (.slice (some ⟨I,0,none⟩) M F)).cell? ⟨b.1.size,0,none⟩=some (.string k')/\(w3.setCell ⟨m,4,none⟩ (.slice (some ⟨I,0,none⟩) M F)).cell? ⟨b.1.size,1,none⟩=some (.string N)/\(w3.setCell ⟨m,4,none⟩ (.slice (some ⟨I,0,none⟩) M F)).cell? ⟨b.1.size,2,none⟩=some (.int .i64 z)/\(w3.setCell ⟨m,4,none⟩ (.slice (some ⟨I,0,none⟩) M F)).cell? ⟨b.1.size,3,none⟩=some (.string D)/\(w3.setCell ⟨m,4,none⟩ (.slice (some ⟨I,0,none⟩) M F)).cell? ⟨b.1.size,4,none⟩=some (.int .i64 B)/\(w3.setCell ⟨m,4,none⟩ (.slice (some ⟨I,0,none⟩) M F)).cell? ⟨b.1.size,5,none⟩=some (.string E):=by
   obtain⟨S,T,U,V,X,Y⟩:=J;have q:=λ(i:Nat)=>VS (w:=w3) (w':=w3.setCell ⟨m,4,none⟩ (.slice (some ⟨I,0,none⟩) M F)) (a:=⟨b.1.size,i,none⟩) (VX w3 _ _ _ (by show b.1.size≠m;omega));exact⟨(q 0).trans S,(q 1).trans T,(q 2).trans U,(q 3).trans V,(q 4).trans X,(q 5).trans Y⟩
  have d4:=b4;have e4:(r.alloc (.cells #[.string k',.string N,.int .i64 z,.string D,.int .i64 B,.string E] 61)).cell? ⟨m,4,none⟩=some (.slice on mn cn):=(VS (VR r _ m R5)).trans b4;refine wp_region_held_drew (S:=λl=>l.cell? ⟨b.1.size,0,none⟩=some (.string k')/\l.cell? ⟨b.1.size,1,none⟩=some (.string N)/\l.cell? ⟨b.1.size,2,none⟩=some (.int .i64 z)/\l.cell? ⟨b.1.size,3,none⟩=some (.string D)/\l.cell? ⟨b.1.size,4,none⟩=some (.int .i64 B)/\l.cell? ⟨b.1.size,5,none⟩=some (.string E)) S8 hS (λhHeld=>?_);refine dP 0 rfl hS ?_;simp only[Act.put,au,Xd,Xe];refine dP 1 rfl hS ?_;simp only[Act.put,au,Xd,Xe];refine dP 2 rfl hS ?_;simp only[Act.put,au,Xd,Xe];refine dP 3 rfl hS ?_;simp only[Act.put,au,Xd,Xe];refine dP 5 rfl hS ?_;simp only[Act.put,au,Xd,Xe];refine wpAnyH_ready (rs:=[4,6]) S8 S5 ?_;refine AllReadyH.cons rfl (λK j=>?_) (AllReadyH.cons rfl (λK j=>?_) AllReadyH.nil)
  ·go_simp;refine j.out _ _ (ab _ ((VM _ r).drew)) (λ_=>?_);refine wpAnyH_ready (rs:=[6]) S8 S5 ?_;refine AllReadyH.cons rfl (λK j=>?_) AllReadyH.nil;go_simp;refine j.out _ _ (ab _ (((VM _ r).drew).alloc (af _) _)) (λ_=>?_);refine wpAnyH_ready (rs:=[7]) S8 S5 ?_;refine AllReadyH.cons rfl (λK j=>?_) AllReadyH.nil;refine jn rfl (.tmp 56) (.tmp 58) 55 55 rfl _ _ _ _ rfl rfl ay.Z ?_;simp only[Act.put,au,Xd,Xe];refine j.out _ _ J (λ_=>?_);refine wpAnyH_ready (rs:=[8]) S8 S5 ?_;refine AllReadyH.cons rfl (λK j=>?_) AllReadyH.nil;go_simp;refine j.out _ _ J (λ_=>?_);refine wpAnyH_ready (rs:=[9]) S8 S5 ?_;refine AllReadyH.cons rfl (λK j=>?_) AllReadyH.nil;go_simp;refine j.out _ _ J (λ_=>?_);refine wpAnyH_ready (rs:=[10]) S8 S5 ?_;refine AllReadyH.cons rfl (λK j=>?_) AllReadyH.nil;go_simp;refine j.out _ _ a7 (λ_=>?_);refine wpAnyH_done S8 ?_ _;show K5 _ _;go_wp2_with fail;refine ad.Z.mono ?_;rintro e w5⟨c,i,rfl,hi,av,ao,ax⟩;obtain⟨b0,b1,z0,z1,d0,d1,ap⟩:=ak.Z _ c i ao av ax;have u:=bZ ap;rcases hi with rfl|⟨Z,Q,rfl⟩
   ·go_wp2;exact VN (v:=.agg #[.int .i64 c,.nilIface]) TU rfl u.Z
   go_wp2;exact VN (v:=.agg #[.int .i64 c,.iface Z Q]) TU rfl u.Z
  go_simp;refine j.out _ _ (ab _ (((VM _ r).drew).alloc (af _) _)) (λ_=>?_);refine wpAnyH_ready (rs:=[4]) S8 S5 ?_;refine AllReadyH.cons rfl (λK j=>?_) AllReadyH.nil;go_simp;refine j.out _ _ (ab _ (((VM _ r).drew).alloc (af _) _)) (λ_=>?_);refine wpAnyH_ready (rs:=[7]) S8 S5 ?_;refine AllReadyH.cons rfl (λK j=>?_) AllReadyH.nil;refine jn rfl (.tmp 56) (.tmp 58) 55 55 rfl _ _ _ _ rfl rfl ay.Z ?_;simp only[Act.put,au,Xd,Xe];refine j.out _ _ J (λ_=>?_);refine wpAnyH_ready (rs:=[8]) S8 S5 ?_;refine AllReadyH.cons rfl (λK j=>?_) AllReadyH.nil;go_simp;refine j.out _ _ J (λ_=>?_);refine wpAnyH_ready (rs:=[9]) S8 S5 ?_;refine AllReadyH.cons rfl (λK j=>?_) AllReadyH.nil;go_simp;refine j.out _ _ J (λ_=>?_);refine wpAnyH_ready (rs:=[10]) S8 S5 ?_;refine AllReadyH.cons rfl (λK j=>?_) AllReadyH.nil;go_simp;refine j.out _ _ a7 (λ_=>?_);refine wpAnyH_done S8 ?_ _;show K5 _ _;go_wp2_with fail;refine ad.Z.mono ?_;rintro e w5⟨c,i,rfl,hi,av,ao,ax⟩;obtain⟨b0,b1,z0,z1,d0,d1,ap⟩:=ak.Z _ c i ao av ax;have u:=bZ ap;rcases hi with rfl|⟨Z,Q,rfl⟩
  ·go_wp2;exact VN (v:=.agg #[.int .i64 c,.nilIface]) TU rfl u.Z
  go_wp2;exact VN (v:=.agg #[.int .i64 c,.iface Z Q]) TU rfl u.Z
 unfold eo;obtain⟨aa,q0,q1,q2,q3,q4,q5⟩:=PU b 61 (.string ⟨#[]⟩) (.string ⟨#[]⟩) (.int .i64 0) (.string ⟨#[]⟩) (.int .i64 0) (.string ⟨#[]⟩);obtain⟨a1,a2,a3,a4,a5,a6⟩:=O _ aa;obtain⟨b0,b1,z0,z1,d0,d1,hR⟩:=ak.Z _ c i a5 a4 a6;have u:=bZ hR;unfold ptr at a1;rcases hi with rfl|⟨Z,Q,rfl⟩
 ·go_wp2;exact VN (v:=.agg #[.int .i64 c,.nilIface]) TU rfl u.Z
 go_wp2;exact VN (v:=.agg #[.int .i64 c,.iface Z Q]) TU rfl u.Z
def JI(n w l)(key:ba)(y:qg l (cG n) (Pre n))(s L)(h:fI w l s L)(g:G w)(hd:jY w)(u:key.size<=200)(z:key.1.1∈s.cm)(B:∀b t,bY.cv s.ct key.1.1=some b->b.di=some t->xy n s):Calls prog 85 #[ptr l,.string key] w λe r=>∃x,e=.returned x/\ij r (dE (cG n) key.1.1 s).1 x/\cO w l L (dE (cG n) key.1.1 s).2 r/\gh (dE (cG n) key.1.1 s).2<=gh s+LM:=by
 cases j:bY.cv s.ct _ with
 |none =>
  have p:dE (cG n) key.1.1 s=(.error 7,s):=by unfold dE;rw[j]
  rw[p];refine(Bk w l key s L h u j).mono ?_;rintro e r⟨x,rfl,h1,h2⟩;exact⟨x,rfl,h1,h2,aI _ _⟩
 |some b =>
  cases m:b.di with
  |none =>
   have p:dE (cG n) key.1.1 s=(.ok b.value,s):=by unfold dE;rw[j];simp only;rw[m]
   rw[p];refine(Dn w l key s L h u b j m).mono ?_;rintro e r⟨x,rfl,h1,h2⟩;exact⟨x,rfl,h1,h2,aI _ _⟩
  |some t =>
   have p:dE (cG n) key.1.1 s=fg (cG n) key.1.1 t b.kept s:=by unfold dE;rw[j];simp only;rw[m]
   rw[p];exact Gs n w l key y s L h g hd u z (B b t j m) b t j m
end
section
open Tryz
variable{l n m:Nat}{s:bY.LS}{L y z:Nat->Prop}{p:List (a_)}{B:a_}{r:bY.Wo}{v:Xb}
def LP.rB{w:Xa}{b u vn j:Xb}(h:LP w l s L n m b u vn j):(b=.slice none 0 0/\s.cm=[])\/∃g c,b=.slice (some ⟨g,0,none⟩) s.cm.length c/\s.cm.length<=c:=by
 rcases h.cm.2 with⟨rfl,h2⟩|⟨g,C,D,rfl,E,F,e,_⟩
 ·exact .inl ⟨rfl,RN h2⟩
 exact .inr ⟨_,_,rfl,e⟩
def EW{w:Xa}{u J vn I:Xb}(h:LP w l s L n m u J vn I)(hlen:s.cm.length<=1000)(key):Calls prog 83 #[u,.string key] w λe C=>C=w/\((s.cm.contains key.1.1=false/\e=.returned (.int .i64 (-1)))\/∃j,j<s.cm.length/\s.cm.contains key.1.1=true/\e=.returned (.int .i64 (j:Nat))/\bY.eQ s.cm key.1.1=s.cm.drop j):=by
 rcases h.rB with⟨rfl,G⟩|⟨g,c,rfl,K⟩
 ·refine(slices_Index_string_empty none 0 key w).mono ?_;rintro e C⟨rfl,rfl⟩;refine⟨rfl,.inl ⟨by rw[G];rfl,rfl⟩⟩
 have M:(vS s.cm).length=s.cm.length:=by unfold vS;rw[aH]
 have b:=sD h.cm 0;rw[aW]at b;refine dL (slices_Index_string g 0 s.cm.length c (vS s.cm) key w R5 R5 b) ?_;refine⟨rfl,?_⟩;rw[Ri R5];have D:Lib.idxOfS (vS s.cm) key=Lib.idxFromS (vS s.cm) key 0:=rfl;rw[D];rcases yd key s.cm 0 with⟨h1,h2⟩|⟨j,h1,h2,E,F⟩
 ·exact .inl ⟨h1,by rw[h2]⟩
 exact .inr ⟨j,h1,h2,by rw[E,aG],F⟩
def zI{w w1:Xa}{I Q vn P:Xb}(h:LP w l s L n m I Q vn P)(J:G w)(K:Xc w w1)(key)(hlen:s.cm.length<=1000):∃E D w3,(Builtin.append_ #[40,40] 40 #[I,.slice (some ⟨w1.1.size,0,none⟩) 1 1]).run prog (w1.alloc (.cells #[.string key] 9))=.ok (.slice (some ⟨E,0,none⟩) (s.cm.length+1) D) w3 /\w3.cell? ⟨l,2,none⟩=some I/\w3.frozen? ⟨l,2,none⟩=false/\cO w l L {s with cm:=s.cm++[key.1.1]} (w3.setCell ⟨l,2,none⟩ (.slice (some ⟨E,0,none⟩) (s.cm.length+1) D)):=by
 have C:Xc w (w1.alloc (.cells #[.string key] 9)):=K.alloc K.size _;have h2:LP (w1.alloc (.cells #[.string key] 9)) l s L n m I Q vn P:=h.st (λk e=>C.block k (h.lt e)) (eO.below C);have S:=J.below C J.size;have U:=heap_alloc_new w1 (.cells #[.string key] 9);have O:str key.1.1=.string key:=lR rfl;obtain⟨E,D,w3,Y,V,N,T,hold⟩:=iN 40 40 9 _ 1 16 underlying40 Et rfl S4 _ s.cm.length (s.cm.map str) h2.cm ⟨w1.1.size,0,none⟩ 1 [str key.1.1] rfl (λj u F=>by
  rw[addr_add,aG];simp only[World.cell?,U]
  match j,F with
  |0,F=>simp at F;rw[<-F,O];rfl) (λu hu=>by
  simp at hu;rw[hu,O];rfl) R5 Th (ah J.size C.size)
 have M:=(Tn.mk (e0:=9) N (λb n=>cE h2.cm n)).cells h2.eb S4;refine⟨E,D,w3,Y,by simp[World.cell?,M],by simp[World.frozen?,M],?_⟩;have X:w3.ownsRow 8 9 1 (.slice (some ⟨E,0,none⟩) (s.cm.length+1) D) (s.cm.length+1) ((s.cm++[key.1.1]).map str):=by
  rw[aZ];simpa using V
 obtain⟨R,k1,k2,k3,k4⟩:=h2.Mn S key.1.1 N S5 X T hold;refine⟨R,k1,λk e=>?_,k3,(vh.below C).trans k4 (λk e=>.inl e) (λk e=>e)⟩;rcases k2 k e with h|h
 ·exact .inl h
 have:=C.size;exact .inr R5
def Mt{W:Xa}{e:bY.LS}(E:fI W l e y)(g:G W)(n:e.cm=p++[B]):∃j b,W.cell? ⟨l,2,none⟩=some (.slice (some ⟨j,0,none⟩) (p.length+1) b)/\p.length+1<=b/\W.frozen? ⟨l,2,none⟩=false/\cO W l y {e with cm:=p} (W.setCell ⟨l,2,none⟩ (.slice (some ⟨j,0,none⟩) p.length b)):=by
 obtain⟨F,m,J,M,vn,K,h⟩:=E;have hlen:e.cm.length=p.length+1:=by rw[n];simp
 rcases h.rB with⟨_,D⟩|⟨j,b,rfl,I⟩
 ·rw[D]at hlen;simp at hlen
 have u:=h.PO g;have C:e.cm.dropLast=p:=by rw[n];simp
 rw[C,hlen]at u;refine⟨j,b,by simp[World.cell?,h.eb,hlen],by omega,by simp[World.frozen?,h.eb],?_⟩;exact u
def JJ{W:Xa}{s6:bY.LS}(C:fI W l s6 z)(F:s6.done.length<=1000000)(key)(G:key.size<=200)(D:ij W r v):∃m b,W.cell? ⟨l,1,none⟩=some (.map (some m))/\(Instr.mapUpdate 105 (.map (some m)) (.string key) v).run prog W=.ok () b/\cO W l z {s6 with done:=bY.put s6.done key.1.1 r} b /\(∀(k:Nat) (e) (t) (j),W.1[k]?=some (.cells e t j)->b.1[k]?=some (.cells e t j)):=by
 obtain⟨E,m,I,K,vn,J,h⟩:=C;obtain⟨b,h1,h2,u⟩:=h.OD (kY:=key.1.1) D Tr Th;rw[dG]at h1;exact⟨m,b,by simp[World.cell?,h.eb],h1,h2,u⟩
def fI.drew{w:Xa}(h:fI w l s L):fI w.drew l s L:=h.st (λk _=>rfl) (eO.below ((VM _ w).drew))
end
section
open Tryz
variable{s:bY.LS}{L:Nat->Prop}
def cO.pre{w w2 w':Xa}{j:Nat}(e:Xc w w2)(h:cO w2 j L s w'):cO w j L s w':=by
 obtain⟨l,h1,h2,m,n⟩:=h;refine⟨l,h1,λk b=>?_,m,(vh.below e).trans n (λk b=>.inl b) (λk b=>b)⟩;rcases h2 k b with h|h
 ·exact .inl h
 have:=e.size;exact .inr R5
def Dp(w b key s L)(h:fI w b s L)(Q:key.size<=200)(r)(z:bY.cv s.done key.1.1=some r):Calls prog 49 #[ptr b,.string key] w λe B=>∃x,e=.returned x/\ij B r x/\cO w b L s B:=by
 have D:=h.alloc (.cells #[.int .i64 0,.nilIface] 113);have G:key.1.1.length<=maxLen:=Tr;obtain⟨F,l,K,N,vn,M,h1⟩:=D;have P:(w.alloc (.cells #[.int .i64 0,.nilIface] 113)).cell? ⟨b,1,none⟩=some (.map (some l)):=cr h1.eb rfl;rcases h1.done.cv (kY:=key.1.1) G with⟨h2,_⟩|⟨R,v,h2,u,I⟩
 ·rw[z]at h2;cases h2
 rw[z]at h2;cases h2;rw[dG]at I;obtain⟨c,i,rfl,hi⟩:=u.form;have m:∀o,cO _ b L s _/\ij _ r _:=λo=>by
  have n:=(VM _ (w.alloc (.cells #[.int .i64 0,.nilIface] 113))).alloc (af _) o;exact⟨cO.below ⟨F,l,K,N,vn,M,h1⟩ n,u.keeps (cT.below n)⟩
 obtain⟨O,b1,S,T,p,y,d0,d1⟩:=pV h (m _).1 (m _).2;have E:(((w.alloc (.cells #[.int .i64 0,.nilIface] 113)).alloc (.cells #[.int .i64 c,i] 113)).setCell ⟨w.1.size,0,none⟩ (.int .i64 c)).setCell ⟨w.1.size,1,none⟩ i=(w.alloc (.cells #[.int .i64 c,i] 113)).alloc (.cells #[.int .i64 c,i] 113):=Ty;rw[E]at p y;have j:=bZ (And.intro p y);unfold ptr;rcases hi with rfl|⟨J,C,rfl⟩
 all_goals
  go_enter func49,ntmps49;go_wp2
 ·exact VN (v:=.agg #[.int .i64 c,.nilIface]) (by simp[results,results49,go_sem]) rfl ⟨_,rfl,j.Z.2,j.Z.1⟩
 exact VN (v:=.agg #[.int .i64 c,.iface J C]) (by simp[results,results49,go_sem]) rfl ⟨_,rfl,j.Z.2,j.Z.1⟩
def Gt(w b key s L)(h:fI w b s L)(g:G w)(hk:key.size<=200)(hl:bY.cv s.done key.1.1=none)(r:s.cm.contains key.1.1=true)(hlen:s.cm.length<=1000):Calls prog 49 #[ptr b,.string key] w λe l=>∃x,e=.returned x/\ij l (.error 12) x/\cO w b L (s.meet key.1.1) l:=by
 have n:=h.alloc (.cells #[.int .i64 0,.nilIface] 113);have P:=n.alloc (.cells #[.int .i64 0,.nilIface] 113);have Z:key.1.1.length<=maxLen:=Tr;have D:=(VM _ w).alloc (af _) (.cells #[.int .i64 0,.nilIface] 113);have p:=(VM _ (w.alloc (.cells #[.int .i64 0,.nilIface] 113))).alloc (af _) (.cells #[.int .i64 0,.nilIface] 113);have am:=cO.below n p;have N:=(g.below D g.size).below p (g.below D g.size).size;obtain⟨hb,B,vb,vr,vn,vj,h1⟩:=n;have c1:(w.alloc (.cells #[.int .i64 0,.nilIface] 113)).cell? ⟨b,1,none⟩=some (.map (some B)):=cr h1.eb rfl;have hr:(Instr.lookup 105 (.map (some B)) (.string key) true).run prog (w.alloc (.cells #[.int .i64 0,.nilIface] 113))=.ok (.tuple #[.agg #[.int .i64 0,.nilIface],.bool false]) (w.alloc (.cells #[.int .i64 0,.nilIface] 113)):=by
  rcases h1.done.cv (kY:=key.1.1) Z with⟨_,C⟩|⟨r',v,h2,_⟩
  ·rw[dG]at C;exact C
  rw[hl]at h2;cases h2
 obtain⟨U,M,ab,ak,ai,ad,h2⟩:=P;have c2:((w.alloc (.cells #[.int .i64 0,.nilIface] 113)).alloc (.cells #[.int .i64 0,.nilIface] 113)).cell? ⟨b,2,none⟩=some ab:=cr h2.eb rfl;have Q:=EW h2 hlen key;rcases h2.rB with⟨_,T⟩|⟨O,K,rfl,ao⟩
 ·rw[T]at r;cases r
 have hM:∀j,j<s.cm.length->bY.eQ _ _=s.cm.drop j->Calls prog 84 #[ptr b,.slice _ _ _] _ λe l=>e=.returned _/\cO _ b L (s.meet key.1.1) l:=λj u V=>by
  refine b_ (JF _ b s L U M ak ai ad O j K h2 N u hlen) λl m=>?_;refine⟨rfl,?_⟩;unfold bY.LS.meet;rw[V];exact cO.pre p m
 have X:∀wr,cO _ b L (s.meet key.1.1) wr->_:=λwr m=>pV (r:=.error 12) (x:=.int .i64 12) (i:=.nilIface) h m (.inr ⟨12,rfl,rfl,by omega,by omega⟩);have J:=bZ hM;have I:=bZ Q;have F:=bZ X;unfold ptr;go_enter func49,ntmps49;go_wp2_with fail;refine I.Z.mono ?_;rintro e l⟨aa,⟨E,_⟩|⟨j,u,_,rfl,Y⟩⟩
 ·rw[r]at E;cases E
 subst aa;have y:=bZ (J.Z j u Y);unfold ptr at y;go_wp2_with fail;refine b_ y.Z λwr R=>?_;obtain⟨b0,b1,z0,z1,m,S,d0,d1⟩:=F.Z wr R;have z:=bZ (And.intro m S);go_wp2;exact VN (v:=.agg #[.int .i64 12,.nilIface]) (by simp[results,results49,go_sem,d0,d1]) rfl ⟨_,rfl,z.Z.2,z.Z.1⟩
end
section
open bY
open Tryz
def Gu(n)(key:a_)(s)(z:KB s.ct)(hd:bY.cv s.done key=none)(u:gh (dE (cG n) key {s with cm:=s.cm++[key]}).2<=gh ({s with cm:=s.cm++[key]}:LS)+LM)(b:List (a_))(r):gh {(dE (cG n) key {s with cm:=s.cm++[key]}).2 with cm:=b,done:=bY.put (dE (cG n) key {s with cm:=s.cm++[key]}).2.done key r}<=gh s:=by
 have l:gh ({s with cm:=s.cm++[key]}:LS)=gh s:=rz rfl rfl rfl;cases j:bY.cv s.ct key with
 |none =>
  have e:dE (cG n) key {s with cm:=s.cm++[key]}=(.error 7,{s with cm:=s.cm++[key]}):=by simp only[dE,j]
  rw[e];exact ah (EV b r) (Nat.le_of_eq l)
 |some y =>
  cases m:y.di with
  |none =>
   have e:dE (cG n) key {s with cm:=s.cm++[key]}=(.ok y.value,{s with cm:=s.cm++[key]}):=by simp only[dE,j,m]
   rw[e];exact ah (EV b r) (Nat.le_of_eq l)
  |some t =>
   have p:=ry n key {s with cm:=s.cm++[key]} z j m;have h1:key∈bY.dK (dE (cG n) key {s with cm:=s.cm++[key]}).2.ct:=by
    rw[<-eL,p.dd,eL];exact iq j (by rw[m];rfl)
   have h2:bY.cv (dE (cG n) key {s with cm:=s.cm++[key]}).2.done key=none:=(p.dn key (by show key∈s.cm++[key];simp)).trans hd;have:=JH h1 h2 b r;rw[l]at u;exact Nat.le_of_add_le_add_right (ah this u)
def yg(n)(key:a_)(s)(p:KB s.ct)(r:s.done.length+1000*Rs s+1000*(n+1)<=1000000):(dE (cG n) key {s with cm:=s.cm++[key]}).2.done.length<=1000000:=by
 cases b:bY.cv s.ct key with
 |none =>
  have e:dE (cG n) key {s with cm:=s.cm++[key]}=(.error 7,{s with cm:=s.cm++[key]}):=by simp only[dE,b]
  rw[e];show s.done.length<=_;omega
 |some m =>
  cases l:m.di with
  |none =>
   have e:dE (cG n) key {s with cm:=s.cm++[key]}=(.ok m.value,{s with cm:=s.cm++[key]}):=by simp only[dE,b,l]
   rw[e];show s.done.length<=_;omega
  |some t =>
   have j:=(ry n key {s with cm:=s.cm++[key]} p b l).nf;have h1:Rs {s with cm:=s.cm++[key]}=Rs s:=rfl;rw[h1]at j;have j:(dE _ key {s with cm:=s.cm++[key]}).2.done.length+1000*Rs (dE _ key {s with cm:=s.cm++[key]}).2<=s.done.length+1000*Rs s+801:=j;omega
def Gv(n w l key)(HB:qg l (cG n) (Pre n))(s L)(h:fI w l s L)(g:G w)(hd:jY w)(hk:key.size<=200)(M:Pre (n+1) s)(hl:bY.cv s.done key.1.1=none)(hc:s.cm.contains key.1.1=false):Calls prog 49 #[ptr l,.string key] w λe u=>∃x,e=.returned x/\ij u (dE (cG n) key.1.1 {s with cm:=s.cm++[key.1.1]}).1 x /\cO w l L {(dE (cG n) key.1.1 {s with cm:=s.cm++[key.1.1]}).2 with cm:=s.cm,done:=bY.put (dE (cG n) key.1.1 {s with cm:=s.cm++[key.1.1]}).2.done key.1.1 (dE (cG n) key.1.1 {s with cm:=s.cm++[key.1.1]}).1} u /\gh (dE (cG n) key.1.1 {s with cm:=s.cm++[key.1.1]}).2<=gh ({s with cm:=s.cm++[key.1.1]}:LS)+LM:=by
 have hlen:s.cm.length<=1000:=by have:=M.cm;omega
 have av:=h.alloc (.cells #[.int .i64 0,.nilIface] 113);have ax:=av.alloc (.cells #[.int .i64 0,.nilIface] 113);have bB:key.1.1.length<=maxLen:=Tr;have I:=(VM _ w).alloc (af _) (.cells #[.int .i64 0,.nilIface] 113);have X:=(VM _ (w.alloc (.cells #[.int .i64 0,.nilIface] 113))).alloc (af _) (.cells #[.int .i64 0,.nilIface] 113);have T:=(g.below I g.size).below X (g.below I g.size).size;have d2:=(hd.below I g.size).below X (g.below I g.size).size;obtain⟨hb,db,vb,vr,vn,vj,h1⟩:=av;have c1:(w.alloc (.cells #[.int .i64 0,.nilIface] 113)).cell? ⟨l,1,none⟩=some (.map (some db)):=cr h1.eb rfl;have hr:(Instr.lookup 105 (.map (some db)) (.string key) true).run prog (w.alloc (.cells #[.int .i64 0,.nilIface] 113))=.ok (.tuple #[.agg #[.int .i64 0,.nilIface],.bool false]) (w.alloc (.cells #[.int .i64 0,.nilIface] 113)):=by
  rcases h1.done.cv (kY:=key.1.1) bB with⟨_,h3⟩|⟨r',v,h2,_⟩
  ·rw[dG]at h3;exact h3
  rw[hl]at h2;cases h2
 have ay:=ax;obtain⟨bT,bS,ad,cc,b9,b7,h2⟩:=ax;have c2:((w.alloc (.cells #[.int .i64 0,.nilIface] 113)).alloc (.cells #[.int .i64 0,.nilIface] 113)).cell? ⟨l,2,none⟩=some ad:=cr h2.eb rfl;have hI:=EW h2 hlen key;have bA:∃o m c,ad=.slice o m c:=by
  rcases h2.rB with⟨rfl,_⟩|⟨D,C,rfl,_⟩
  ·exact⟨_,_,_,rfl⟩
  exact⟨_,_,_,rfl⟩
 -- b5 key is cm
 obtain⟨g',bQ,w3,bc,f2,z2,Z⟩:=zI h2 T (VM _ _) key hlen;have e2:((((w.alloc (.cells #[.int .i64 0,.nilIface] 113)).alloc (.cells #[.int .i64 0,.nilIface] 113)).alloc (.cells #[.string key] 9))).cell? ⟨l,2,none⟩=some ad:=(VS (VR _ _ l (cj h2.eb))).trans c2;have g4:=Z.g ay T;have d4:=Z.uc ay T d2;obtain⟨L4,aC,bX,bI⟩:=Z.then
 -- it is worked out
 have bj:=JI n _ l key HB {s with cm:=s.cm++[key.1.1]} L4 aC g4 d4 hk (by show key.1.1∈s.cm++[key.1.1];simp) (λth t h1 h2=>M.work h1 h2 hc);have bg:(dE (cG n) key.1.1 {s with cm:=s.cm++[key.1.1]}).2.cm=s.cm++[key.1.1]:=(zH (px n) key.1.1 {s with cm:=s.cm++[key.1.1]}).cm;have bh:=yg n key.1.1 s M.kb M.nf;generalize dE (cG n) key.1.1 {s with cm:=s.cm++[key.1.1]}=q at bj bg bh ⊢;generalize bt:(λ(e:Ending) (u:Xa)=>∃x,e=.returned x/\ij u q.1 x/\cO w l L {q.2 with cm:=s.cm,done:=bY.put q.2.done key.1.1 q.1} u/\gh q.2<=gh ({s with cm:=s.cm++[key.1.1]}:LS)+LM)=RR;have bz:∀wr c i,cO (w.alloc (.cells #[.int .i64 0,.nilIface] 113)) l L {q.2 with cm:=s.cm,done:=bY.put q.2.done key.1.1 q.1} wr->ij wr q.1 (.agg #[.int .i64 c,i])->gh q.2<=gh ({s with cm:=s.cm++[key.1.1]}:LS)+LM->wr.cell? ⟨w.1.size,0,none⟩=some (.int .i64 0)/\wr.cell? ⟨w.1.size,1,none⟩=some .nilIface/\wr.frozen? ⟨w.1.size,0,none⟩=false/\wr.frozen? ⟨w.1.size,1,none⟩=false/\((wr.setCell ⟨w.1.size,0,none⟩ (.int .i64 c)).setCell ⟨w.1.size,1,none⟩ i).cell? ⟨w.1.size,0,none⟩=some (.int .i64 c)/\((wr.setCell ⟨w.1.size,0,none⟩ (.int .i64 c)).setCell ⟨w.1.size,1,none⟩ i).cell? ⟨w.1.size,1,none⟩=some i/\RR (.returned (.agg #[.int .i64 c,i])) ((wr.setCell ⟨w.1.size,0,none⟩ (.int .i64 c)).setCell ⟨w.1.size,1,none⟩ i):=λwr c i hP hW bE=>by
  obtain⟨E,b1,P,Q,bq,bu,d0,d1⟩:=pV h hP hW;rw[<-bt];exact⟨E,b1,P,Q,d0,d1,_,rfl,bu,bq,bE⟩
 have bH:∀N O,cO _ l L4 N O->cO (w.alloc (.cells #[.int .i64 0,.nilIface] 113)) l L N O:=λN O hx=>cO.pre X (bI N O hx);simp only[World.size_alloc]at bc;have bo:=bZ bH;have bl:=bZ bz;have HW:=bZ bj;have HI:=bZ hI;have bn:=bZ bc;have bk:=bZ aC;have bm:=bZ g4;obtain⟨o2,m2,bR,rfl⟩:=bA;unfold ptr at *;go_enter func49,ntmps49;go_wp2_with fail;refine HI.Z.mono ?_;rintro e u⟨bL,⟨_,rfl⟩|⟨j,hj,a8,_⟩⟩
 ·subst bL;go_wp2_with(at_builtin;refine cW _ rfl _ _ _ _ rfl _ _ _ _ rfl rfl bn.Z ?_);refine HW.Z.mono ?_;rintro e p⟨x,rfl,a5,a2,bF⟩;obtain⟨c,i,rfl,hi⟩:=a5.form;have g5:=a2.g bk.Z bm.Z;obtain⟨L5,U,b3,bJ⟩:=a2.then;have Y:Xc p (p.alloc (.cells #[.int .i64 c,i] 113)):=(VM _ _).alloc (af _) _;have a0:=(U.alloc (.cells #[.int .i64 c,i] 113)).drew;have g6:G (p.alloc (.cells #[.int .i64 c,i] 113)).drew:=g5.below Y.drew g5.size;obtain⟨D,C,k2,bV,y2,a3⟩:=Mt a0 g6 bg;generalize ab:p.alloc (.cells #[.int .i64 c,i] 113)=B at *;have bx:B.1[p.1.size]?=some (.cells #[.int .i64 c,i] 113 (0,0)):=by rw[<-ab];exact heap_alloc_new _ _
  have bW:l<p.1.size:=(U.cz _ U.here).2.1;have bv:ij B q.1 (.agg #[.int .i64 c,i]):=a5.keeps (cT.below Y);have a6:=(bv.keeps (cT.below ((VM _ B).drew))).keeps (a3.keeps a0);have aa:(B.drew.setCell ⟨l,2,none⟩ (.slice (some ⟨D,0,none⟩) s.cm.length C)).1[p.1.size]?=some (.cells #[.int .i64 c,i] 113 (0,0)):=(VX _ _ _ _ (by show p.1.size≠l;omega)).trans bx;obtain⟨L7,V,b4,bK⟩:=a3.then;generalize bf:B.drew.setCell ⟨l,2,none⟩ (.slice (some ⟨D,0,none⟩) s.cm.length C)=y at *;obtain⟨F,z,k1,bG,a4,bd⟩:=JJ V.drew (s6:={q.2 with cm:=s.cm}) bh key hk (a6.keeps (cT.below ((VM _ y).drew)));have a7:=bd _ _ _ _ aa;have bw:ij z q.1 (.agg #[.int .i64 c,i]):=(a6.keeps (cT.below ((VM _ y).drew))).keeps (a4.keeps V.drew);have br:=bo.Z _ _ (bJ _ _ (cO.pre Y.drew (bK _ _ (cO.pre ((VM _ y).drew) a4))));obtain⟨E,b1,P,Q,R,S,hR⟩:=bl.Z z c i br bw bF;have HR:=bZ hR;have ak:=bZ bG;have m0:z.cell? ⟨p.1.size,0,none⟩=some (.int .i64 c):=cr a7 rfl;have m1:z.cell? ⟨p.1.size,1,none⟩=some i:=cr a7 rfl;have r:y.cell? ⟨l,1,none⟩=some (.map (some F))/\y.cell? ⟨p.1.size,0,none⟩=some (.int .i64 c)/\y.cell? ⟨p.1.size,1,none⟩=some i:=⟨k1,by simp[World.cell?,aa],by simp[World.cell?,aa]⟩;have J:z.cell? ⟨l,1,none⟩=some (.map (some F))/\z.cell? ⟨p.1.size,0,none⟩=some (.int .i64 c)/\z.cell? ⟨p.1.size,1,none⟩=some i:=by
   refine⟨?_,m0,m1⟩;obtain⟨bU,bp,b6,cd,ca,b8,a9⟩:=V.drew;have bC:=bd _ _ _ _ a9.eb;have:some (Value.map (some bp))=some (Value.map (some F)):=by rw[<-k1];simp[World.cell?,a9.eb]
   cases this;simp[World.cell?,bC]
  have bN:B.cell? ⟨l,2,none⟩=some (.slice (some ⟨D,0,none⟩) (s.cm.length+1) C):=k2;have bM:IntKind.i64.wrap (s.cm.length:Int)=(s.cm.length:Int):=Tz;have bD:s.cm.length<=C:=R5;have HX:=bZ (And.intro r (And.intro J (And.intro E (And.intro b1 (And.intro P (And.intro Q (And.intro R (And.intro S (And.intro m0 m1)))))))));have am:=bZ ab;have ao:Hid ((B.setCell ⟨l,2,none⟩ (.slice (some ⟨D,0,none⟩) s.cm.length C)).drew=y):=bZ bf;clear ab bf;rcases hi with rfl|⟨ti,ai,rfl⟩
  all_goals
   go_wp2_with fail;rw[am.Z];rename_i K5 bO;refine kO K5 (λa w h=>h) ?_;refine wp_region_held_drew (S:=λ_=>True) S8 trivial (λhHeld=>?_);refine dP 0 rfl trivial ?_;simp only[Act.put,au,Xd,Xe];refine dP 1 rfl trivial ?_;simp only[Act.put,au,Xd,Xe];refine dP 2 rfl trivial ?_;simp only[Act.put,au,Xd,Xe];refine dP 3 rfl trivial ?_;simp only[Act.put,au,Xd,Xe];refine dP 5 rfl trivial ?_;simp only[Act.put,au,Xd,Xe];refine dP 6 rfl trivial ?_;simp only[Act.put,au,Xd,Xe];refine dP 7 rfl trivial ?_;simp only[Act.put,au,Xd,Xe];refine wpAnyH_ready (rs:=[4,8]) S8 S5 ?_;refine AllReadyH.cons rfl (λK b=>?_) (AllReadyH.cons rfl (λK b=>?_) AllReadyH.nil)
   all_goals
    first
    |go_simp
     refine b.out _ _ trivial (λ_=>?_);clear b;refine wpAnyH_ready (rs:=[8]) S8 S5 ?_;refine AllReadyH.cons rfl (λK b=>?_) AllReadyH.nil;go_simp;refine b.out _ _ trivial (λ_=>?_);clear b;refine wpAnyH_ready (rs:=[9]) S8 S5 ?_;refine AllReadyH.cons rfl (λK b=>?_) AllReadyH.nil;go_simp;refine b.out _ _ trivial (λ_=>?_);clear b;refine wpAnyH_ready (rs:=[10]) S8 S5 ?_;refine AllReadyH.cons rfl (λK b=>?_) AllReadyH.nil;go_simp;refine b.out _ _ trivial (λ_=>?_);clear b;refine wpAnyH_ready (rs:=[11]) S8 S5 ?_;refine AllReadyH.cons rfl (λK b=>?_) AllReadyH.nil;go_simp;refine b.out _ _ trivial (λ_=>?_);clear b;refine wpAnyH_ready (rs:=[12]) S8 S5 ?_;refine AllReadyH.cons rfl (λK b=>?_) AllReadyH.nil;go_simp;refine b.out _ _ trivial (λ_=>?_);clear b;refine wpAnyH_ready (rs:=[13]) S8 S5 ?_;refine AllReadyH.cons rfl (λK b=>?_) AllReadyH.nil;go_simp;refine b.out _ _ trivial (λ_=>?_);clear b;refine wpAnyH_ready (rs:=[14]) S8 S5 ?_;refine AllReadyH.cons rfl (λK b=>?_) AllReadyH.nil;go_simp;refine b.out _ _ trivial (λ_=>?_);clear b;refine wpAnyH_done S8 ?_ _
    |go_simp
     refine b.out _ _ trivial (λ_=>?_);clear b;refine dP 9 rfl trivial ?_;simp only[Act.put,au,Xd,Xe];refine dP 10 rfl trivial ?_;simp only[Act.put,au,Xd,Xe];refine wpAnyH_ready (rs:=[4]) S8 S5 ?_;refine AllReadyH.cons rfl (λK b=>?_) AllReadyH.nil;go_simp;refine b.out _ _ trivial (λ_=>?_);clear b;refine wpAnyH_ready (rs:=[11]) S8 S5 ?_;refine AllReadyH.cons rfl (λK b=>?_) AllReadyH.nil;go_simp;refine b.out _ _ trivial (λ_=>?_);clear b;refine wpAnyH_ready (rs:=[12]) S8 S5 ?_;refine AllReadyH.cons rfl (λK b=>?_) AllReadyH.nil;go_simp;refine b.out _ _ trivial (λ_=>?_);clear b;refine wpAnyH_ready (rs:=[13]) S8 S5 ?_;refine AllReadyH.cons rfl (λK b=>?_) AllReadyH.nil;go_simp;refine b.out _ _ trivial (λ_=>?_);clear b;refine wpAnyH_ready (rs:=[14]) S8 S5 ?_;refine AllReadyH.cons rfl (λK b=>?_) AllReadyH.nil;go_simp;refine b.out _ _ trivial (λ_=>?_);clear b;refine wpAnyH_done S8 ?_ _
   all_goals
    show K5 _ _;rw[ao.Z];clear hHeld bN y2 am ao bM bD;go_wp2_with fail;rename_i K6 bP;obtain⟨⟨j1,j2,k7⟩,⟨j4,j5,j6⟩,ap⟩:=HX.Z;have r:=And.intro j1 (And.intro j2 (Eq.refl (y.cell? ⟨p.1.size,1,none⟩)));have J:=And.intro j4 (And.intro j5 (j6.trans k7.symm));clear j1 j2 j4 j5 j6;have HY:=bZ ap;clear ap;refine kO K6 (λa w h=>h) ?_;refine wp_region_held_drew (S:=λu=>u.cell? ⟨l,1,none⟩=some (.map (some F))/\u.cell? ⟨p.1.size,0,none⟩=some (.int .i64 c)/\u.cell? ⟨p.1.size,1,none⟩=y.cell? ⟨p.1.size,1,none⟩) S8 r (λhHeld=>?_);refine dP 0 rfl r ?_;simp only[Act.put,au,Xd,Xe];refine dP 1 rfl r ?_;simp only[Act.put,au,Xd,Xe];refine dP 2 rfl r ?_;simp only[Act.put,au,Xd,Xe];refine dP 3 rfl r ?_;simp only[Act.put,au,Xd,Xe];refine dP 4 rfl r ?_;simp only[Act.put,au,Xd,Xe];refine wpAnyH_ready (rs:=[5]) S8 S5 ?_;refine AllReadyH.cons rfl (λK b=>?_) AllReadyH.nil;go_simp;refine b.out _ _ r (λ_=>?_);clear b;refine wpAnyH_ready (rs:=[6]) S8 S5 ?_;refine AllReadyH.cons rfl (λK b=>?_) AllReadyH.nil;refine zn rfl (.tmp 67) (.tmp 68) (.tmp 69) 105 rfl _ _ _ _ rfl rfl rfl ak.Z ?_;simp only[Act.put,au,Xd,Xe];refine b.out _ _ J (λ_=>?_);clear b ak hHeld r;refine wpAnyH_done S8 ?_ _;show K6 _ z;clear J;obtain⟨E,b1,P,Q,R,S,m0,m1⟩:=HY.Z;clear HX HY;go_wp2;exact VN (v:=.agg #[.int .i64 c,_]) (by simp[results,results49,go_sem,R,S]) rfl HR.Z
 rw[hc]at a8;cases a8
end
section
open bY
def vU(p):∀n,qg p (cG n) (Pre n)
 |0=>λW s L b _ _ _ m _=>by have:=m.un;omega
 |n+1=>λW s L b h g hd m y=>by
  have B:=vU p n;have l:=jA (n+1) b.1.1 s m.kb;have hlen:s.cm.length<=1000:=by have:=m.cm;omega
  cases j:bY.cv s.done b.1.1 with
  |some r =>
   have e:cG (n+1) b.1.1 s=(r,s):=by
    show eY _ _ _=_;unfold eY;rw[j]
   rw[e]at l ⊢;refine(Dp W p b s L h y r j).mono ?_;rintro e z⟨x,rfl,h1,h2⟩;exact⟨x,rfl,h1,h2,af _,l⟩
  |none =>
   cases u:s.cm.contains b.1.1 with
   |true =>
    have e:cG (n+1) b.1.1 s=(.error 12,s.meet b.1.1):=by
     show eY _ _ _=_;unfold eY;rw[j];simp only;rw[ag u]
    rw[e]at l ⊢;refine(Gt W p b s L h g y j u hlen).mono ?_;rintro e z⟨x,rfl,h1,h2⟩;refine⟨x,rfl,h1,h2,?_,l⟩;show gh (s.meet b.1.1)<=gh s;unfold LS.meet;split
    ·exact Nat.le_of_eq (rz rfl rfl rfl)
    exact af _
   |false =>
    have D:(dE (cG n) b.1.1 {s with cm:=s.cm++[b.1.1]}).2.cm=s.cm++[b.1.1]:=(zH (px n) b.1.1 {s with cm:=s.cm++[b.1.1]}).cm;have e:cG (n+1) b.1.1 s=((dE (cG n) b.1.1 {s with cm:=s.cm++[b.1.1]}).1,{(dE (cG n) b.1.1 {s with cm:=s.cm++[b.1.1]}).2 with cm:=s.cm,done:=bY.put (dE (cG n) b.1.1 {s with cm:=s.cm++[b.1.1]}).2.done b.1.1 (dE (cG n) b.1.1 {s with cm:=s.cm++[b.1.1]}).1}):=by
     show eY _ _ _=_;unfold eY;rw[j];simp only;rw[ae (by rw[u];exact Td),D];simp
    rw[e]at l ⊢;refine(Gv n W p b B s L h g hd y m j u).mono ?_;rintro e z⟨x,rfl,h1,h2,C⟩;exact⟨x,rfl,h1,h2,Gu n b.1.1 s m.kb j C _ _,l⟩
end
section
open bY
open Tryz
variable{j n p:Nat}{s:LS}{L:Nat->Prop}
def LP.Mx{w:Xa}{r y vn u:Xb}(h:LP w j s L n p r y vn u)(g:G w):cO w j L {s with cY:=[]} (w.setCell ⟨j,3,none⟩ (.slice none 0 0)):=by
 have m:Tn 9 w w none:=rq (VM _ _);refine h.turned 9 none m (.inr (.inl rfl)) S4 S4 S4 S4 (λb n=>by cases n) (λk=>False) (λk l=>l.elim) g 3 _ rfl rfl rfl h.cm ⟨rfl,.inl ⟨rfl,rfl⟩⟩ h.du h.jr (λk l=>?_) (λk l e=>by cases e) (λ_=>rfl);rcases l with l|l|l|l
 ·exact .inl (h.dQ k (.inl l))
 ·cases l
 ·exact .inl (h.dQ k (.inr (.inr (.inl l))))
 exact .inl (h.dQ k (.inr (.inr (.inr l))))
def LP.OM{w:Xa}{m u vn r:Xb}(h:LP w j s L n p m u vn r)(g:G w):cO w j L {s with du:=[]} (w.setCell ⟨j,4,none⟩ (.slice none 0 0)):=by
 have l:Tn 9 w w none:=rq (VM _ _);refine h.turned 9 none l (.inr (.inl rfl)) S4 S4 S4 S4 (λb n=>by cases n) (λk=>False) (λk e=>e.elim) g 4 _ rfl rfl rfl h.cm h.cY ⟨rfl,.inl ⟨rfl,rfl⟩⟩ h.jr (λk e=>?_) h.apart h.oS;rcases e with e|e|e|e
 ·exact .inl (h.dQ k (.inl e))
 ·exact .inl (h.dQ k (.inr (.inl e)))
 ·cases e
 exact .inl (h.dQ k (.inr (.inr (.inr e))))
structure Fit(s:LS)(N:Nat):Prop where
 kb:KB s.ct
 cm:s.cm=[]
 len:s.ct.length<=40
 jr:(dc s.jr).length<=N
def Fit.pre{N:Nat}(h:Fit s N)(m:N<=70366744177664):Pre 42 s.fresh where
 kb:=h.kb
 un:=by have:=N7 s.fresh;have:s.fresh.ct.length<=40:=h.len;omega
 cm:=by show s.cm.length+42<=200;rw[h.cm];simp
 nf:=by have:=vT s.fresh;have:s.fresh.ct.length<=40:=h.len;show 0+1000*Rs s.fresh+1000*42<=_;omega
 du:=by have:=vT s.fresh;have:s.fresh.ct.length<=40:=h.len;show 0+Rs s.fresh+42<=_;omega
 Mq:=by
  have h1:=vT s.fresh;have h2:s.fresh.ct.length<=40:=h.len;have b:(dc s.fresh.jr).length<=N:=h.jr;have e:LM*Rs s.fresh<=LM*40:=RW _ R5;unfold gh;have l:LM*40=2000000000:=rfl;omega
def Dr(w:Xa)(base:Nat)(L:Nat->Prop)(v:Xb)(l:List (a_)):Prop :=(v=.slice none 0 0/\l=[])\/∃g c,v=.slice (some ⟨g,0,none⟩) l.length c/\base<=g/\¬L g/\w.ownsRow base 9 1 v l.length (l.map str)
def Ds{W:Xa}{G y vn I:Xb}(h:LP W j s L n p G y vn I)(u:s.cY.length<=200):Calls prog 51 #[y] W λe b=>∃v,e=.returned v/\Xc W b/\Dr b W.1.size L v s.cY/\∃o m c,v=.slice o m c:=by
 rcases h.cY.2 with⟨rfl,h2⟩|⟨g,B,J,rfl,_⟩
 ·refine(slices_Clone_string_nil 0 0 W).mono ?_;rintro e b⟨rfl,rfl⟩;exact⟨_,rfl,VM _ _,.inl ⟨rfl,RN h2⟩,_,_,_,rfl⟩
 have K:(vS s.cY).length=s.cY.length:=by unfold vS;rw[aH]
 have r:=sD h.cY 0;rw[aW]at r;refine(slices_Clone_string g 0 s.cY.length B (vS s.cY) W R5 R5 r).mono ?_;rintro e b⟨M,rfl,l,F,D⟩;obtain⟨C,z,rfl,E⟩:=Bh l F;rw[Ri R5,ET]at l;exact⟨_,rfl,D,.inr ⟨C,z,rfl,E,λu=>by have:=h.lt u;omega,l⟩,_,_,_,rfl⟩
def EX(w:Xa)(j:Nat)(L:Nat->Prop)(s:LS)(key:a_)(e:Ending)(w':Xa):Prop :=∃(v:Xb) (l:Int) (m:ba) (b:Nat->Prop),e=.returned (.tuple #[.string m,.int .i64 l,v])/\dC (s.ask key).1=.agg #[.int .i64 l,.string m] /\fI w' j (s.ask key).2 b/\(∀k,b k->L k\/w.1.size<=k)/\(∀k,L k->b k)/\vh j L w w'/\gh (s.ask key).2<=gh s.fresh /\Dr w' w.1.size b v (if l=12 then(s.ask key).2.cY else[])
def Dt(w j key)(g:G w)(m:key.size<=281474976710656)(r:dB key.1.1=false):Calls prog 22 #[ptr j,.string key] w λe u=>e=.returned (.tuple #[.string ⟨#[]⟩,.int .i64 1,.slice none 0 0])/\Xc w u:=by
 have b:=bZ (dT key w g m);rw[r]at b;unfold ptr;go_enter func22,ntmps22;go_wp2_with fail;refine b_ b.Z λy l=>?_;go_wp2;exact VN (v:=.tuple #[.string ⟨#[]⟩,.int .i64 1,.slice none 0 0]) Uo rfl ⟨rfl,l⟩
def My(w j key s L N)(h:fI w j s L)(g:G w)(hd:jY w)(y:key.size<=200)(hn:dB key.1.1=true)(B:Fit s N)(hN:N<=70366744177664):Calls prog 22 #[ptr j,.string key] w (EX w j L s key.1.1):=by
 have HN:=bZ (dT key w g R5);rw[hn]at HN;have ay:=bZ (And.intro h (And.intro g (And.intro hd B)));clear h g hd B hn;unfold ptr;go_enter func22,ntmps22;go_wp2_with fail;refine b_ HN.Z λw1 D=>?_;obtain⟨h,g,hd,B⟩:=ay.Z;have a4:fI w1 j s L:=h.st (λk y=>D.block k (h.cz k y).2.1) (eO.below D);have g1:=g.below D g.size;have d1:=hd.below D g.size;have ab:=a4;obtain⟨n,p,vb,vr,vn,vj,h1⟩:=a4;have c1:w1.cell? ⟨j,1,none⟩=some (.map (some p)):=cr h1.eb rfl;obtain⟨Z,bp,T,bc⟩:=h1.Mh 0;have E:=bc _ _ _ _ h1.eb;have f3:Z.cell? ⟨j,3,none⟩=some vr:=cr E rfl;have z3:Z.frozen? ⟨j,3,none⟩=false:=fq E;have f4:Z.cell? ⟨j,4,none⟩=some vn:=cr E rfl;have z4:Z.frozen? ⟨j,4,none⟩=false:=fq E;have P:=T.g ab g1;have d2:=T.uc ab g1 d1;obtain⟨L2,a5,br,bf⟩:=T.then;have ad:=a5;obtain⟨bD,bA,bH,bQ,bN,bK,h2⟩:=a5;have U:=h2.Mx P;have Q:=U.g ad P;have d3:=U.uc ad P d2;obtain⟨L3,a6,bt,bg⟩:=U.then;have ak:=a6;obtain⟨bE,bB,bI,bR,bO,bL,h3⟩:=a6;have V:=h3.OM Q;have g4:=V.g ak Q;have d4:=V.uc ak Q d3;obtain⟨L4,am,bu,bh⟩:=V.then;have a8:=vU j 42 _ _ L4 key am g4 d4 (B.pre hN) y;have bq:(s.ask key.1.1).2.cY.length<=200:=vW 42 key.1.1 s.fresh (by show s.cm.length+42<=200;rw[B.cm];simp) (by show 0<=200;omega);have bo:cG 42 key.1.1 ({s with done:=[],cY:=[],du:=[]}:LS)=s.ask key.1.1:=rfl
 have a3:Hid (∀s' u,cO _ j L4 s' u->cO w j L s' u):=bZ (λs' u hx=>cO.pre D (bf _ _ (bg _ _ (bh _ _ hx))));have aC:=bZ a8;have av:=bZ am;have a2:=bZ g4;clear a8 am g4 d4 Q d3 P d2 T U V bf bg bh br bt bu ab ad ak h1 h2 h3 bc E h g hd B g1 d1 ay HN;go_wp2_with fail;refine aC.Z.mono ?_;rintro e w5⟨x,rfl,Y,X,I,bn⟩;rw[bo]at Y X I;have g5:=X.g av.Z a2.Z;obtain⟨l,r,z,-⟩:=dw (s.ask key.1.1).1;have hT:=lJ w5 g5 Y;rw[z]at hT;obtain⟨O,b,J,K,F⟩:=a3.Z _ _ X;obtain⟨c,i,rfl,hi⟩:=Y.form;have HT:=bZ hT;have ax:=bZ (And.intro b (And.intro J (And.intro K (And.intro F I))));clear hT b J K F I X Y bn aC av a2 a3 g5 f3 z3 f4 z4 c1 bp;have M:Hid (∀(W u:Xa) (v:Xb),Xc w5 W->Xc W u->Dr u W.1.size O v (if l=12 then(s.ask key.1.1).2.cY else[])->EX w j L s key.1.1 (.returned (.tuple #[.string r,.int .i64 l,v])) u):=bZ (λW u v hB bl C=>by
  obtain⟨b,J,K,F,I⟩:=ax.Z;have ao:=hB.trans (bl.mono hB.size);refine⟨v,l,r,O,rfl,z,b.st (λk y=>ao.block k (b.cz k y).2.1) (eO.below ao),J,K,F.trans (vh.below (L:=O) ao) J K,I,?_⟩;have bd:w.1.size<=W.1.size:=ah F.size hB.size;rcases C with C|⟨g',c',r1,r2,r3,r4⟩
  ·exact .inl C
  ·exact .inr ⟨g',c',r1,ah bd r2,r3,mW r4 bd⟩)
 rcases hi with rfl|⟨ti,ai,rfl⟩
 all_goals
  go_wp2_with fail;refine b_ HT.Z λw6 a7=>?_;have S:Xc w5 (w6.alloc (.cells #[.int .i64 l,.string r] 59)):=a7.alloc a7.size _;by_cases aa:l=12
  ·subst aa;obtain⟨b,-⟩:=ax.Z;have bk:fI (w6.alloc (.cells #[.int .i64 12,.string r] 59)) j (s.ask key.1.1).2 O:=b.st (λk y=>S.block k (b.cz k y).2.1) (eO.below S);obtain⟨bF,bC,bJ,bj,bP,bM,R⟩:=bk;have q3:(w6.alloc (.cells #[.int .i64 12,.string r] 59)).cell? ⟨j,3,none⟩=some bj:=cr R.eb rfl;have bw:∃o m c,bj=.slice o m c:=by
    rcases R.cY.2 with⟨rfl,_⟩|⟨g,bx,bz,rfl,_⟩
    ·exact⟨_,_,_,rfl⟩
    exact⟨_,_,_,rfl⟩
   have a9:=Ds R bq;obtain⟨o7,m7,c7,rfl⟩:=bw;have a0:=bZ a9;have bv:r=⟨#[]⟩:=by
    cases C:(s.ask key.1.1).1 with
    |ok v=>rw[C]at z;cases z
    |error c=>rw[C]at z;cases z;rfl
   subst bv;clear a9 R b HT z;go_wp2_with fail;refine a0.Z.mono ?_;rintro e w8⟨v,rfl,bm,ap,o8,m8,c8,rfl⟩;have HF:=bZ (M.Z _ w8 _ S bm (by first|(rw[ag trivial];exact ap)|(rw[ag rfl];exact ap)));clear M a0 ap;go_wp2;exact VN (v:=.tuple #[.string ⟨#[]⟩,.int .i64 12,.slice o8 m8 c8]) Uo rfl HF.Z
  have bG:(l != 12)=true:=by simpa using aa
  have HF:=bZ (λk=>M.Z _ ((w6.alloc (.cells #[.int .i64 l,.string r] 59)).drewN k) (.slice none 0 0) S (below_drewN (VM _ _) k) (by rw[ae aa];exact .inl ⟨rfl,rfl⟩));clear M HT;go_wp2_with fail
  go_quiet (fail)
  go_wp2;exact VN (v:=.tuple #[.string r,.int .i64 l,.slice none 0 0]) Uo rfl (HF.Z _)
end
section
variable{b p:Nat}{s:bY.LS}{L:Nat->Prop}{cs:Array Xb}{th:bY.cC}{key:a_}
def fI.more{w:Xa}(h:fI w b s L)(m:8<=p)(n:w.1[p]?=some (.cells cs 124 (0,0))):fI w b s (λk=>L k\/k=p):=by
 obtain⟨r,l,y,B,vn,z,h1⟩:=h;have j:∀k,L k->(L k\/k=p):=λk e=>.inl e;exact⟨r,l,y,B,vn,z,{
  eb:=h1.eb
  here:=.inl h1.here
  ne:=h1.ne
  ct:=h1.ct.mono j
  done:=h1.done.mono j
  cm:=h1.cm
  cY:=h1.cY
  du:=h1.du
  jr:=h1.jr
  dQ:=λg u=>.inl (h1.dQ g u)
  apart:=h1.apart
  oS:=h1.oS
  cz:=λk e=>by
   rcases e with e|rfl
   ·exact h1.cz k e
   ·exact⟨m,.inr ⟨_,_,_,n,.inr (.inr (.inr (.inr (.inl rfl))))⟩⟩}⟩
def xz{w:Xa}(h:ft w L th p)(u:key.length<=200):(bY.ed key th).length<=200000:=by
 obtain⟨v,r,k,_,_,n,l,_⟩:=h;unfold bY.ed;rcases l with⟨j,_,m,_⟩|⟨t,a,j,_⟩
 ·rw[j];have:=lL (w:=w) (r:=.ok th.value) (.inl ⟨_,_,rfl,rfl,m⟩);have e:bY.gO (.ok th.value)=bY.wr 3 th.value:=rfl;rw[e]at this;simp;omega
 rw[j];simp;omega
def JQ{w:Xa}{m B:Nat}{N P vn O:Xb}(l:LP w b s L m B N P vn O)(hp:¬L p)(r:ft w (λk=>L k\/k=p) th p)(R:8<=p){key:ba}(X:key.size<=8)(hlen:s.ct.length<=40):∃j L3,(Instr.mapUpdate 104 (.map (some m)) (.string key) (ptr p)).run Tryz.prog w=.ok () j/\fI j b {s with ct:=bY.put s.ct key.1.1 th} L3/\ft j L3 th p/\(∀k,L3 k->(L k\/k=p)\/w.1.size<=k)/\(∀k,(L k\/k=p)->L3 k)/\eu (λk=>L k\/k=p) w j:=by
 have U:=r.block;obtain⟨_,cs,n⟩:=U;obtain⟨T,am,ap,ay,ax,av,h1⟩:=fI.more ⟨m,B,N,P,vn,O,l⟩ R n;have Q:T=m:=by
  have:=h1.eb;rw[l.eb]at this;cases this;rfl
 subst Q;have Y:key.1.1.length<=8:=by rw[<-size_data];exact X
 obtain⟨j,G,S,Z,D⟩:=h1.OB (kY:=key.1.1) (th:=th) (p:=p) r (λx q hx ⟨k,hl,I⟩=>by
  have E:bY.cv s.ct k=some x:=hl;obtain⟨J,ai,ad⟩:=l.ct.at E;have aa:k.length<=maxLen:=by
   obtain⟨ao,u,K,y,M,q5,q6⟩:=l.ct;have F:=bY.kj E;rw[u]at F;obtain⟨z,hz,ak⟩:=aE.1 F;have:=q5 z hz;have e:z.1=k:=congrArg Prod.fst ak;rw[e]at this;unfold maxLen;omega
  have:=ad false aa;simp only[Ss,Ry]at this;rw[this]at I;have ab:J=q:=by
   have C:(Result.ok (ptr J) w:Result Xb)=.ok (ptr q) w:=I;simp[ptr]at C;exact C
  subst ab;intro e;subst e;exact hp ai.block.1) Y R5
 rw[dG]at G;obtain⟨L3,u,K,y,M⟩:=S;refine⟨j,L3,G,u,?_,K,y,M⟩;exact(r.st ((D _ _ _ _ n).trans n.symm) (λk _ cs t fz V _=>D _ _ _ _ V) Z.stay).mono y
end
section
open bY
open Tryz
variable{L:Nat->Prop}{ct:List (a_×cC)}
def Mz{w:Xa}{b:Nat}(h:jc w L b ct)(ty):(Builtin.len_ #[104] ty #[.map (some b)]).run prog w=.ok (.int .i64 ct.length) w:=by
 obtain⟨e,h1,h2,_⟩:=h;have:=h2.len (ty:=ty) underlying104;rw[this,h1];simp
def Bn(w l p key s L th)(h:fI w l s L)(g:G w)(hd:jY w)(b:key.size<=8)(hp:¬L p)(Y:8<=p)(M:ft w (λk=>L k\/k=p) th p)(hlen:s.ct.length<=40)(hj:(dc s.jr).length<=70368744177664):Calls prog 53 #[ptr l,.string key,ptr p] w λe S=>e=.returned (.int .i64 ((s.iD key.1.1 th).1:Nat))/\eF w l (λk=>L k\/k=p) (s.iD key.1.1 th).2 S:=by
 have X:key.1.1.length<=maxLen:=Tr;have ak:key.1.1.length<=200:=by rw[<-size_data];omega
 have ad:=M.block;obtain⟨_,cs,ai⟩:=ad;have C:=fI.more h Y ai;obtain⟨hb,db,vb,vr,vn,vj,j⟩:=h;have c0:w.cell? ⟨l,0,none⟩=some (.map (some hb)):=cr j.eb rfl;have am:=Mz j.ct 3;obtain⟨T,L3,ao,I,N,K,R,y⟩:=JQ j hp M Y b hlen;have ay:=xz N ak;have u:G T:=EB C y g;have d1:jY T:=zA C y g hd;have hT:=xv T L3 th p key N u R5;have ap:str (ed key.1.1 th)=.string ⟨(ed key.1.1 th).toArray⟩:=rfl;rw[ap]at hT;have Q:∀m,Xc T m->Calls prog 59 #[ptr l,.string ⟨(ed key.1.1 th).toArray⟩] m λe S=>e=.returned (.tuple #[])/\eF w l (λk=>L k\/k=p) ({s with ct:=bY.put s.ct key.1.1 th}.write (ed key.1.1 th)) S:=λm z=>by
  have ab:fI m l {s with ct:=bY.put s.ct key.1.1 th} L3:=I.st (λk b=>z.block k (I.cz k b).2.1) (eO.below z);have av:(⟨(ed key.1.1 th).toArray⟩:ba).size=(ed key.1.1 th).length:=size_mk _;have Z:(⟨(ed key.1.1 th).toArray⟩:ba).1.1=ed key.1.1 th:=S5;have:=pT m l {s with ct:=bY.put s.ct key.1.1 th} L3 ⟨(ed key.1.1 th).toArray⟩ ab (u.below z u.size) (d1.below z u.size) (by rw[av];omega) (by
   rw[Z];show(dc (s.jr++[_])).length<=_;rw[eB,aj,jK];omega)
  rw[Z]at this;refine b_ this λS ⟨L4,q1,q2,q3,q4⟩=>?_;refine⟨rfl,L4,q1,λk b=>?_,λk b=>q3 k (R k b),y.trans ((eu.below (L:=L3) z).trans q4.toeu (λk b=>.inl b)) K⟩;rcases q2 k b with h|h
  ·exact K k h
  have:=z.size;have:=y.size;exact .inr R5
 by_cases n:(bY.cv s.ct key.1.1).isNone=true/\40<=s.ct.length
 ·have B:s.iD key.1.1 th=(5,s):=by unfold LS.iD;rw[ag n]
  rw[B];have r:bY.cv s.ct key.1.1=none:=Option.isNone_iff_eq_none.1 n.1;have D:=j.ct.vK r X;rw[dG]at D;have U:=n.2;have E:Hid (eF w l (λk=>L k\/k=p) s w):=bZ ⟨_,C,λk b=>.inl b,λk b=>b,eu.refl _ _⟩;clear n B r Q hT N I ao j C M y K R u d1;unfold ptr at *;go_enter func53,ntmps53;go_wp2;exact VN (v:=.int .i64 5) Uq rfl ⟨rfl,E.Z⟩
 have B:s.iD key.1.1 th=(0,{s with ct:=bY.put s.ct key.1.1 th}.write (ed key.1.1 th)):=by unfold LS.iD;rw[ae n]
 rw[B];have O:=bZ hT;have P:=bZ Q;cases r:bY.cv s.ct key.1.1 with
 |none =>
  have D:=j.ct.vK r X;rw[dG]at D;have U:¬40<=s.ct.length:=λU=>n ⟨by rw[r];rfl,U⟩;have ax:((s.ct.length:Int)<40):=R5;clear n B r Q hT N I j C M y K R u d1;unfold ptr at *;go_enter func53,ntmps53;go_wp2_with fail;refine b_ O.Z λm V=>?_;have F:=bZ (P.Z m V);clear O P;go_wp2_with fail;refine b_ F.Z λw3 J=>?_;have E:=bZ J;clear F J;go_wp2;exact VN (v:=.int .i64 0) Uq rfl ⟨rfl,E.Z⟩
 |some aC =>
  obtain⟨p0,_,aa⟩:=j.ct.at r;have D:=aa true X;rw[dG]at D;simp only[aO]at D;clear n B r Q hT N I j C M y K R u d1 aa am;unfold ptr at *;go_enter func53,ntmps53;go_wp2_with fail;refine b_ O.Z λm V=>?_;have F:=bZ (P.Z m V);clear O P;go_wp2_with fail;refine b_ F.Z λw3 J=>?_;have E:=bZ J;clear F J;go_wp2;exact VN (v:=.int .i64 0) Uq rfl ⟨rfl,E.Z⟩
end
