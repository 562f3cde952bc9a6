/- Out of N2. -/
import Derived.Test.YtpekpdimdelncaaGreatDoorP12
set_option linter.unusedVariables false
set_option linter.unusedSimpArgs false
set_option maxRecDepth 100000
set_option maxHeartbeats 3000000
set_option linter.defProp false
namespace Go.Proofs.YtpekpdimdelncaaGreatDoor
open Go.RowKit Go.Shelf
section
open bY
open Tryz
def Dv(n:Nat):Prop:=∀(s:ba) (w:Xa),G w->s.size<=281474976710656->Calls prog 86 #[.string s,.int .i64 n] w (lS w n (tU n s.1.1))
def jM(n:Nat)(l:a_):Option (V×a_):=match n with|0=>none|m+1=>oZ (tU m) l
def zK(n:Nat):Prop:=∀(s:ba) (w:Xa),G w->s.size<=281474976710656->Calls prog 128 #[.string s,.int .i64 n] w (lS w n (jM n s.1.1))
def Dw:zK 0:=by
 intro s w g e;have b:lS w 0 (jM 0 s.1.1) (.returned (.tuple #[.nilIface,.string ⟨#[]⟩,.bool false])) w:=⟨VM _ _,.inr ⟨_,_,rfl,rfl,.inl rfl⟩⟩;generalize lS w 0 _=R at b ⊢;go_enter func128,ntmps128;go_wp2;exact VN (v:=.tuple #[.nilIface,.string ⟨#[]⟩,.bool false]) TK rfl b
theorem Dx(n)(hi:zK n)(s w)(g:G w)(J:s.size<=281474976710656)(j:s.1.1.head?=some 123):Calls prog 86 #[.string s,.int .i64 n] w (lS w n (tU n s.1.1)):=by
 have C:Lib.hasPrefix s.1.1 [39]=false:=by rw[iQ,j];rfl
 have D:Lib.hasPrefix s.1.1 [123]=true:=by rw[iQ,j];rfl
 have h1:1<=s.size:=by
  rw[VO];cases hd:s.1.1 with
  |nil=>rw[hd]at j;cases j
  |cons c t=>simp
 have E:tU n s.1.1=jM n (s.extract 1 s.size).1.1:=by
  rw[py];unfold tU jM;rw[ae (by rw[j];intro e;cases e),ag j];cases n<;>rfl
 have m:=bZ (hi _ w g (by rw[pW s 1 s.size (af _) h1];omega));rw[E];generalize z:lS w n _=R at m ⊢;have B:∀e l,R e l->∃y,∃r:ba,∃b,e=.returned (.tuple #[y,.string r,.bool b]):=λe l h=>by
  rw[<-z]at h;rcases h.2 with⟨_,y,_,_,r,_,h2,_⟩|⟨y,r,_,h2,_⟩
  ·exact⟨y,r,true,h2⟩
  exact⟨y,r,false,h2⟩
 go_enter func86,ntmps86;go_wp2_with(first|(go_at_call 126;refine b_ (strings_HasPrefix _ _ _) λl F=>?_;obtain rfl:=F.symm;try rw[C];try rw[D]));refine m.Z.mono ?_;intro e I p;obtain⟨y,r,b,rfl⟩:=B e I p;have u:=bZ p;go_wp2;exact VN (v:=.tuple #[y,.string r,.bool b]) Ug rfl u.Z
def yk(n)(hi:zK n):Dv n:=by
 intro s w g b
 grind [Du,Dx,Gx]
structure Il(w:Xa)(m:Nat)(fin:Option (V×a_))(t:ba)(v:Xb)(ys:List Xb)(acc:List V)(wr:Xa):Prop where
 mT:nH wr w.1.size v ys
 qy:jg wr m acc ys
 len:acc.length<=12
 eD:Xc w wr
 rest:iW (tU m) (12-acc.length) t.1.1 acc=fin
 size:t.size<=281474976710656
def Dy(m)(hm:m<=2)(ih:Dv m):zK (m+1):=by
 intro s w g hs;have IH:=bZ ih;generalize hR:lS w (m+1) (jM (m+1) s.1.1)=R;have bd:∀wr,Xc w wr->jM (m+1) s.1.1=none->R (.returned (.tuple #[.nilIface,.string ⟨#[]⟩,.bool false])) wr:=λwr hB h=>by
  rw[<-hR];exact⟨hB,.inr ⟨_,_,h,rfl,.inl rfl⟩⟩
 by_cases G:s.1.1.head?=some 125
 ·have hp:Lib.hasPrefix s.1.1 [125]=true:=by rw[iQ,G];rfl
  have h1:1<=s.size:=by
   rw[VO];cases hd:s.1.1 with
   |nil=>rw[hd]at G;cases G
   |cons c t=>simp
  have hq:jM (m+1) s.1.1=some (vl [],(s.extract 1 s.size).1.1):=by
   rw[py];show oZ _ _=_;unfold oZ;rw[ag G]
  have bf:∀(wr:Xa) (b:Nat),Xc w wr->wr.1[b]?=some (.cells #[] 111 (0,0))->R (.returned (.tuple #[.iface 248 (.slice (some ⟨b,0,none⟩) 0 0),.string (s.extract 1 s.size),.bool true])) wr:=λwr b hB hb=>by
   rw[<-hR];exact⟨hB,.inl ⟨vl [],_,_,_,_,hq,rfl,rfl,.inr ⟨[],_,[],rfl,rfl,.inr ⟨b,0,#[],(0,0),rfl,af _,hb,af _,λi hi=>by simp at hi⟩,rfl,by simp,λi u y hu=>by cases hu⟩⟩⟩
  have X:=bZ bf;go_enter func128,ntmps128;go_wp2_with(first|(go_at_call 126;refine b_ (strings_HasPrefix _ _ _) λw' hw=>?_;obtain rfl:=hw.symm;try rw[hp]))
  go_region_with fail
  all_goals
   go_wp2;exact VN (v:=.tuple #[.iface 248 (.slice (some ⟨w.1.size,0,none⟩) 0 0),.string (s.extract 1 s.size),.bool true]) TK rfl (X.Z _ _ (((VM _ w).drew).alloc (af _) _) (heap_alloc_new _ _))
 have hp:Lib.hasPrefix s.1.1 [125]=false:=by rw[iQ];exact az.2 G
 have hq:jM (m+1) s.1.1=iW (tU m) 12 s.1.1 []:=by
  show oZ _ _=_;unfold oZ;rw[ae G]
 have HS:Hid (Il w m (jM (m+1) s.1.1) s (.slice none 0 0) [] [] w):=bZ ⟨.inl ⟨rfl,rfl⟩,⟨rfl,λi u y hu=>by cases hu⟩,by simp,VM _ _,hq.symm,hs⟩;have O:=bZ bd;have HR:=bZ hR;go_enter func128,ntmps128;go_wp2_with(first|(go_at_call 126;refine b_ (strings_HasPrefix _ _ _) λw' hw=>?_;obtain rfl:=hw.symm;try rw[hp]))
 go_loopw [0,7] (λtx v wr=>∃(t:ba) (p:List Xb) (l:List V),tx=.string t/\Hid (Il w m (jM (m+1) s.1.1) t v p l wr)) (λtx v _=>12-(match v with|.slice _ k _=>k|_=>0))
 case atStart=>exact⟨s,[],[],rfl,HS⟩
 case round =>
  obtain⟨t,p,l,rfl,j⟩:=hrel;have ai:l.length=p.length:=j.Z.qy.1;obtain⟨oa,ca,rfl⟩:=j.Z.mT.row.len;by_cases bn:p.length<12
  ·have HC:=bZ (IH.Z t wr (g.below j.Z.eD g.size) j.Z.size);go_wp2_with fail;refine HC.Z.mono ?_;rintro e w3⟨P,⟨I,y,C,B,r,M,rfl,rfl,hv⟩|⟨y,r,M,rfl,D⟩⟩
   ·have aa:=j.Z.eD.trans (P.mono j.Z.eD.size);obtain⟨k,T⟩:∃k,12-l.length=k+1:=⟨11-l.length,by omega⟩;by_cases hr:r.1.1=[]
    ·have L:jM (m+1) s.1.1=none:=by
      have h:=j.Z.rest;rw[T]at h;unfold iW at h;rw[M,hr]at h;exact h.symm
     have bg:r=⟨#[]⟩:=by rw[<-Lib.mk_data r,hr]
     subst bg;have J:=bZ (O.Z w3 aa L);go_wp2;exact VN (v:=.tuple #[.nilIface,.string ⟨#[]⟩,.bool false]) TK rfl J.Z
    obtain⟨c,E,N⟩:∃c E,r.1.1=c::E:=by
     cases hd:r.1.1 with
     |nil=>exact(hr hd).elim
     |cons c E=>exact⟨c,E,rfl⟩
    have bj:1<=r.size:=by rw[VO,N];simp
    have bm:r.toList.isEmpty=false:=by rw[VP,N];rfl
    have a8:r.1.1[0]?=some c:=by rw[N];rfl
    have Q:Xc w3 (w3.alloc (Obj.cells #[.iface C B] 111)):=(VM _ w3).alloc (af _) _;have ak:=bZ ((j.Z.mT.same (cT.below P)).same (cT.below Q));have a4:=bZ ((j.Z.qy.keeps (cT.below P)).keeps (cT.below Q));have a5:=bZ (hv.keeps (cT.below Q));have am:=aa.trans (Q.mono aa.size);have a7:(w3.alloc (Obj.cells #[.iface C B] 111)).cell? ((⟨w3.1.size,0,none⟩:Addr).add 0)=some (.iface C B):=cell_one_new _ _ _ 0 _ rfl;have a0:w.1.size<=(w3.alloc (Obj.cells #[.iface C B] 111)).1.size:=am.size;have a2:=bZ j.Z.rest;have a3:=bZ j.Z.size;have F:jM (m+1) s.1.1=if c=125 then some (vl (l++[I]),E)else if c=44 then iW (tU m) k E (l++[I])else none:=by
     have h:=a2.Z;rw[T]at h;unfold iW at h;rw[M,N]at h;exact h.symm
    have bl:∀h:0<r.size,(r[0]'h)=c:=λh=>by
     have h1:r.1.1[0]?=some (r[0]'h):=by
      rw[aq TP];rfl
     rw[a8]at h1;exact(aB h1).symm
    have aC:(r.extract 1 r.size).1.1=E:=by rw[py,N];rfl
    have bh:(r.extract 1 r.size).size<=281474976710656:=by
     have h6:=AH m _ _ _ M;have h7:=congrArg List.length h6.2;rw[aj]at h7;have h8:=a3.Z;rw[VO]at h8;have h9:=pW r 1 r.size (af _) bj;have bk:=VO r;omega
    have U:Hid (∀(z:Xa) (v':Xb),nH z w.1.size v' (p++[.iface C B])->(w3.alloc (Obj.cells #[.iface C B] 111)).grownBy z (Value.slice oa p.length ca).ownBlock->(∀n u x,cZ (w3.alloc (Obj.cells #[.iface C B] 111)) n u x->cZ z n u x)->Xc w z/\jg z m (l++[I]) (p++[.iface C B])):=bZ (λz v' q2 q3 q5=>⟨am.grown q3 a0 (λb hb=>(ak.Z.lt hb).2),by
     refine⟨by simp[ai],λi u y hu D=>?_⟩;rcases Ro i l.length with hi|hi
     ·rw[aP hi]at hu;rw[aP R5]at D;exact q5 _ _ _ (a4.Z.2 i u y hu D)
     ·rw[aX hi]at hu;rw[aX R5]at D;have av:i-l.length=0:=by
       have:=(aA.1 hu).1;simp at this;omega
      rw[av]at hu;rw[<-ai,av]at D;simp at hu D;subst hu D;exact q5 _ _ _ a5.Z⟩)
    go_wp2_with(at_builtin;refine my rfl _ _ 248 underlying248 rfl w.1.size _ p rfl ak.Z ⟨w3.1.size,0,none⟩ _ (.iface C B) rfl a7 rfl R5 a0 ?_;intro v' z h2 Y h4 Z;obtain⟨o5,c5,rfl⟩:=h2.row.len)
    ·rename_i ax ab;obtain⟨K,S⟩:=U.Z z _ h2 Y Z;have a6:c=125:=by
      have h7:(c.toNat:Int)=125:=by simpa using ab
      have:c.toNat=125:=R5;exact Rp.1 this
     rw[ag a6]at F;rw[aj]at h2;have X:Hid (R (.returned (.tuple #[.iface 248 (.slice o5 (p.length+1) c5),.string (r.extract 1 r.size),.bool true])) z):=bZ (by
      rw[<-HR.Z];exact⟨K,.inl ⟨vl (l++[I]),_,_,_,_,by rw[F,aC],rfl,rfl,.inr ⟨l++[I],_,p++[.iface C B],rfl,rfl,h2.row,by simp[ai],by simp;omega,S.2⟩⟩⟩)
     exact VN (v:=.tuple #[.iface 248 (.slice o5 (p.length+1) c5),.string (r.extract 1 r.size),.bool true]) TK rfl X.Z
    ·rename_i ax ad ab;obtain⟨K,S⟩:=U.Z z _ h2 Y Z;have ao:c=44:=by
      have h7:(c.toNat:Int)=44:=by simpa using ab
      have:c.toNat=44:=R5;exact Rp.1 this
     rw[ae (by rw[ao];decide),ag ao]at F;rw[aj]at h2;refine⟨⟨_,p++[.iface C B],l++[I],rfl,bZ ⟨h2,S,by simp;omega,K,?_,bh⟩⟩,?_⟩
     ·rw[aC,F]
      congr 1
      simp;omega
     show 12-(p.length+1)<12-p.length;omega
    rename_i ax ad ap;obtain⟨K,S⟩:=U.Z z _ h2 Y Z;have a9:c≠125:=λe=>by
     rw[e]at ad;exact absurd ad S4
    have bc:c≠44:=λe=>by
     rw[e]at ap;exact absurd ap S4
    rw[ae a9,ae bc]at F;exact VN (v:=.tuple #[.nilIface,.string ⟨#[]⟩,.bool false]) TK rfl (O.Z z K F)
   have L:jM (m+1) s.1.1=none:=by
    have h:=j.Z.rest;obtain⟨k,T⟩:∃k,12-l.length=k+1:=⟨11-l.length,by omega⟩;rw[T]at h;unfold iW at h;rw[M]at h;exact h.symm
   have J:=bZ (O.Z w3 (j.Z.eD.trans (P.mono j.Z.eD.size)) L);go_wp2;exact VN (v:=.tuple #[.nilIface,.string ⟨#[]⟩,.bool false]) TK rfl J.Z
  have L:jM (m+1) s.1.1=none:=by
   have h:=j.Z.rest;rw[show 12-l.length=0 by omega]at h;exact h.symm
  have J:=bZ (O.Z wr j.Z.eD L);go_wp2;exact VN (v:=.tuple #[.nilIface,.string ⟨#[]⟩,.bool false]) TK rfl J.Z
def yl:∀n,n<=3->Dv n
 |0,_=>yk 0 Dw
 |n+1,h=>yk (n+1) (Dy n R5 (yl n R5))
def JU(s w)(g:G w)(J:s.size<=281474976710656):Calls prog 52 #[.string s] w λe b=>Xc w b/\((∃v t a,sY s.1.1=some v/\e=.returned (.tuple #[.iface t a,.bool true])/\cZ b 3 v (.iface t a))\/(sY s.1.1=none/\e=.returned (.tuple #[.nilIface,.bool false]))):=by
 have B:=bZ (yl 3 (af _) s w g J);generalize z:(λ(e:Ending) (b:Xa)=>Below _ w b/\((∃v t a,sY _=some v/\e=.returned _/\cZ b 3 v _)\/(sY _=none/\e=.returned _)))=R;have E:∀b,Below _ w b->sY _=none->R _ b:=λb m h=>by
  rw[<-z];exact⟨m,.inr ⟨h,rfl⟩⟩
 have F:∀b v t a,Below _ w b->sY _=some v->cZ b 3 v _->R _ b:=λb v t a m h p=>by
  rw[<-z];exact⟨m,.inl ⟨v,t,a,h,rfl,p⟩⟩
 have u:=bZ E;have C:=bZ F;go_enter func52,ntmps52;go_wp2_with fail;refine B.Z.mono ?_;rintro e w3⟨n,⟨v,y,K,D,r,l,rfl,rfl,p⟩|⟨y,r,l,rfl,M⟩⟩
 ·cases hd:r.1.1 with
  |nil =>
   have I:r=⟨#[]⟩:=by rw[<-Lib.mk_data r,hd]
   subst I;have j:=bZ (C.Z w3 v K D n (by unfold sY;rw[l]) p);go_wp2;exact j.Z
  |cons c N =>
   have L:r.toList.isEmpty=false:=by rw[VP,hd];rfl
   have j:=bZ (u.Z w3 n (by unfold sY;rw[l,hd]));go_wp2;exact j.Z
 have j:=bZ (u.Z w3 n (by unfold sY;rw[l]));go_wp2;exact j.Z
end
section
open bY
open Tryz
variable{s:ba}{r:bY.RT}{t:a_}{us:List bY.T}
def nQ(s b i e l t)(u:s.size<=200)(m:8<=b)(r)(H:Bp s 89 b e l i r)(n:∀j p,r=.ok (j,p)->j<=s.size):∀w,G w->iI w s b i e l->Calls prog 294 #[.pointer (some ⟨b,0,none⟩),.string ⟨t.toArray⟩] w (dt s b e l w.1.size w (dh r (eX s.1.1 t))) :=λw g h=>by
  have:=mX s b i e l ⟨t.toArray⟩ w g h R5 m r H n;simpa using this
theorem zP{i k:Nat}(m:t≠[])(l:∀j e,r=.ok (j,e)->i<=j/\j<=s.size)(h:dh r (eX s.1.1 t)=.ok (k,us)):i+1<=k/\k<=s.size:=by
 rcases r with x|⟨j,e⟩
 ·cases h
 have a:=l j e rfl;have h2:bY.cD s.1.1 t j=.ok k:=by
  rw[<-lz _ t j e,show eX _ t j e=.ok _ from h];rfl
 have b:=fP h2 m (by simpa using a.2);have c:k<=s.size:=by simp_all
 omega
theorem DH(s)(p n b l i k:Nat)(u)(z:((k=13\/k=14)/\l=u)\/((k=15\/k=16)/\l+1=u))(V:s.size<=200)(B:8<=p)(hi:i<=s.size)(hd:b<=20)(ad:u<=b)(ao:8*(s.size-i)+4<=n)(H:∀m,m<=n->tN s p m 0 89)(w)(g:G w)(h:iI w s p i b l):Calls prog 263 #[.pointer (some ⟨p,0,none⟩),.int .i64 k] w (dF s p b l w (fA s.1.1 n b l k i)):=by
 rcases z with⟨z,rfl⟩|⟨z,rfl⟩
 case' inl=>let u:Nat:=l
 case' inr=>let u:Nat:=l+1
 all_goals
  have hr:fA s.1.1 n b l k i=dh (eX s.1.1 [40] i []) λj _=>dh (dh (PT s.1.1 n 0 b l j []) (eX s.1.1 [44])) λj Y=>dh (dh (PT s.1.1 n 0 b u j []) (eX s.1.1 [41])) λj us=>.ok (j,Y++us):=by
   rcases z with rfl|rfl<;>rfl
  have I:=nu s p i b l ⟨#[40]⟩ w g h R5 hi;rw[hr];rcases ym _ [40] i with⟨hx,X⟩|⟨j,hx,X⟩
  all_goals rw[X]
  ·generalize ((3,i):Nat×Nat)=x at hx;show Calls _ _ _ _ _;have O:=hx;have E:=bZ I;have F:=bZ O;rcases z with rfl|rfl
   all_goals
    go_enter func263,ntmps263;go_wp2_with fail;refine E.Z.mono ?_;rintro e w1⟨f1,_,h3⟩;have I:=h3 x F.Z;subst I;exact⟨rfl,dF.fy f1⟩
  have S:=fP hx S5 Tt;have ap:=S.1;have L:j<=s.size:=by simpa using S.2
  have h1:=H n (af _) b l j L hd R5 Tk;have O:=hx;have hu:=nQ s p j b l [44] V B _ h1 (λP Q y=>(oM rfl y L).2);have U:=λk us=>zP (s:=s) (t:=[44]) (i:=j) (k:=k) (us:=us) (r:=PT _ n 0 b l j []) S5 (λP Q y=>oM rfl y L);show Calls _ _ _ _ (dF s p b l w (dh _ λj Y=>dh _ λj us=>.ok _));generalize dh _ _=r2 at hu U;have E:=bZ I;have F:=bZ O;have R:=bZ hu;rcases r2 with x|⟨C,Z⟩
  ·show Calls _ _ _ _ (dF s p b l w (.error x));rcases z with rfl|rfl
   all_goals
    go_enter func263,ntmps263;go_wp2_with fail;refine E.Z.mono ?_;rintro e w1⟨f1,h2,_⟩;obtain⟨rfl,M⟩:=h2 j F.Z;go_wp2_with fail;refine(R.Z _ (g.fr f1 B) M).mono ?_;rintro e w2 D;obtain⟨f2,rfl⟩:=dt.err D;exact⟨rfl,dF.fy (Fr.trans f1 f2)⟩
  obtain⟨av,J⟩:=U C Z rfl
  first|have K:=H n (af _) b l C J hd ad Tk|have K:=H n (af _) b (l+1) C J hd R5 Tk
  first|have N:=nQ s p C b l [41] V B _ K (λP Q y=>(oM rfl y J).2)|have N:=λw g h=>Bs s p C b l w g h R5 B R5 _ K (λP Q y=>(oM rfl y J).2)
  show Calls _ _ _ _ (dF s p b l w (dh (dh (PT s.1.1 n 0 b u C []) (eX s.1.1 [41])) λj us=>.ok (j,Z++us)));generalize dh (PT s.1.1 n 0 b u C []) (eX s.1.1 [41])=r3 at N;have HV:=bZ N;rcases z with rfl|rfl
  all_goals
   go_enter func263,ntmps263;go_wp2_with fail;refine E.Z.mono ?_;rintro e w1⟨f1,h2,_⟩;obtain⟨rfl,M⟩:=h2 j F.Z;go_wp2_with fail;refine(R.Z _ (g.fr f1 B) M).mono ?_;rintro e w2 D;obtain⟨f2,⟨q2,t2,rfl,rfl,ak⟩,T⟩:=dt.ok D;have aa:=bZ ak;go_wp2_with fail;refine(HV.Z _ ((g.fr f1 B).fr f2 B) T).mono ?_;rintro e w3 D;rcases r3 with x|⟨j,a0⟩
   ·obtain⟨f3,rfl⟩:=dt.err D;exact⟨rfl,dF.fy (Fr.trans (Fr.trans f1 f2) f3)⟩
   obtain⟨f3,⟨q3,t3,rfl,rfl,am⟩,ai⟩:=dt.ok D;have ab:=bZ am;go_wp2;go_ret;have ax:=f1.size;have ay:=f2.size;have aC:=f3.size;exact dF.kP (Fr.alloc (Fr.trans (Fr.trans f1 f2) f3) _) (ai.alloc _) (qh.lay 2 rfl ((TL.one ((aa.Z.keeps (T.kp f3)).mono R5)).append (TL.one (ab.Z.mono R5))) R5)
theorem GA(s u n b l i)(S:s.size<=200)(z:8<=u)(hi:i<=s.size)(hd:b<=20)(E:l<=b)(ad:8*(s.size-i)+4<=n)(H:∀m,m<=n->tN s u m 0 89)(Y:tN s u n 3 212)(w)(g:G w)(h:iI w s u i b l):Calls prog 263 #[.pointer (some ⟨u,0,none⟩),.int .i64 9] w (dF s u b l w (fA s.1.1 n b l 9 i)):=by
 have hr:fA _ n b l 9 i=dh _ λj ts=>dh _ λj us=>dh (PT s.1.1 n 3 b l j []) λj M=>.ok _:=rfl;rw[hr];have h1:=H n (af _) b l i hi hd E ad;have hu:=nQ s u i b l [116,104,101,110] S z _ h1 (λK L y=>(oM rfl y hi).2);have Q:=λk us=>zP (s:=s) (t:=[116,104,101,110]) (i:=i) (k:=k) (us:=us) (r:=PT _ n 0 b l i []) S5 (λK L y=>oM rfl y hi);generalize dh _ _=r1 at hu Q;have D:=bZ hu;rcases r1 with x|⟨j,U⟩
 ·show Calls _ _ _ _ _;go_enter func263,ntmps263;go_wp2_with fail;refine(D.Z _ g h).mono ?_;rintro e X p;obtain⟨f1,rfl⟩:=dt.err p;exact⟨rfl,dF.fy f1⟩
 obtain⟨ap,F⟩:=Q j U rfl;have h2:=H n (af _) b l j F hd E Tk;have T:=nQ s u j b l [101,108,115,101] S z _ h2 (λK L y=>(oM rfl y F).2);have R:=λk us=>zP (s:=s) (t:=[101,108,115,101]) (i:=j) (k:=k) (us:=us) (r:=PT _ n 0 b l j []) S5 (λK L y=>oM rfl y F);show Calls _ _ _ _ (dF s u b l w (dh _ λj us=>dh _ λj M=>.ok _));generalize dh (PT s.1.1 n 0 b l j []) (eX s.1.1 [101,108,115,101])=r2 at T R;have O:=bZ T;rcases r2 with x|⟨C,V⟩
 ·show Calls _ _ _ _ (dF s u b l w (.error x));go_enter func263,ntmps263;go_wp2_with fail;refine(D.Z _ g h).mono ?_;rintro e X p;obtain⟨f1,⟨q1,t1,rfl,rfl,J⟩,B⟩:=dt.ok p;have N:=bZ J;go_wp2_with fail;refine(O.Z _ (g.fr f1 z) B).mono ?_;rintro e w2 p;obtain⟨f2,rfl⟩:=dt.err p;exact⟨rfl,dF.fy (Fr.trans f1 f2)⟩
 obtain⟨av,ai⟩:=R C V rfl;have P:=Y b l C ai hd E Tk;show Calls _ _ _ _ (dF s u b l w (dh (PT s.1.1 n 3 b l C []) λj M=>.ok (j,U++(V++M))));generalize PT s.1.1 n 3 b l C []=r3 at P;have Z:=bZ P;go_enter func263,ntmps263;go_wp2_with fail;refine(D.Z _ g h).mono ?_;rintro e X p;obtain⟨f1,⟨q1,t1,rfl,rfl,J⟩,B⟩:=dt.ok p;have N:=bZ J;go_wp2_with fail;refine(O.Z _ (g.fr f1 z) B).mono ?_;rintro e w2 p;obtain⟨f2,⟨q2,t2,rfl,rfl,am⟩,I⟩:=dt.ok p;have aa:=bZ am;go_wp2_with fail;refine(Z.Z _ ((g.fr f1 z).fr f2 z) I).mono ?_;rintro e w3 p;rcases r3 with x|⟨j,a0⟩
 ·obtain⟨f3,rfl⟩:=dt.err p;exact⟨rfl,dF.fy (Fr.trans (Fr.trans f1 f2) f3)⟩
 obtain⟨f3,⟨q3,t3,rfl,rfl,ao⟩,ak⟩:=dt.ok p;have ab:=bZ ao;go_wp2;go_ret;have ax:=f1.size;have ay:=f2.size;have aC:=f3.size;exact dF.kP (Fr.alloc (Fr.trans (Fr.trans f1 f2) f3) _) (ak.alloc _) (qh.lay 3 rfl ((TL.one (((N.Z.keeps (B.kp f2)).keeps (I.kp f3)).mono (af _))).append ((TL.one ((aa.Z.keeps (I.kp f3)).mono R5)).append (TL.one (ab.Z.mono R5)))) R5)
theorem Bu(s)(j n b e i k:Nat)(l:k=2\/k=3\/k=4)(w)(h:iI w s j i b e):Calls prog 263 #[.pointer (some ⟨j,0,none⟩),.int .i64 k] w (dF s j b e w (fA s.1.1 n b e k i)):=by
 have m:fA s.1.1 n b e k i=.ok (i,[]):=by
  rcases l with rfl|rfl|rfl<;>rfl
 rw[m];rcases l with rfl|rfl|rfl
 all_goals
  go_enter func263,ntmps263;go_wp2;go_ret;exact dF.kP (VQ _ _) h (qh.nil _ _ _)
end
section
open bY
open Tryz
variable{l:a_}{ts:List bY.T}{sl:Xb}{s:ba}
attribute [local go_sem] im
theorem Bv:∀n l k,eN n l=some k->k+1<=n
 |0,_,_,h=>by grind [eN]
 |n+1,[],_,h=>by grind [eN]
 |n+1,c::r,k,h=>by
  unfold eN at h;split at h
  ·grind
  split at h
  ·cases b:eN n r with
   |none=>rw[b]at h;cases h
   |some m=>rw[b]at h;cases h;have:=Bv n r m b;show m+1+1<=n+1;omega
  cases h
def vD(h:(bY.tok l).1=3):(bY.tok l).2<=32:=by
 cases l with
 |nil=>simp[bY.tok]at h
 |cons c r =>
  rw[gy _ c r rfl]at h ⊢;by_cases h1:dH c=true
  ·rw[ag h1]at h;split at h<;>cases h
  rw[ae h1]at h ⊢;by_cases h2:eE c=true
  ·rw[ag h2]at h;split at h
   ·cases h
   split at h<;>cases h
  rw[ae h2]at h ⊢;by_cases b:c=39
  ·rw[ag b];have j:dS (c::r)=eN 31 r:=by
    show(if c=39 then eN 31 r else none)=_;rw[ag b]
   rw[j];cases e:eN 31 r with
   |none=>simp[fh]
   |some k=>have:=Bv 31 r k e;simp[fh];omega
  rw[ae b]at h;split at h<;>cases h
theorem GB(l w):hC w (nG l) (pL l):=by
 by_cases h2:(bY.tok l).1=2
 ·have j:nG l=some (vn ((d_ (l.take (bY.tok l).2)).getD 0)):=by grind [nG]
  have m:pL l=.iface 219 (.int .i64 ((d_ (l.take (bY.tok l).2)).getD 0)):=by grind [pL]
  rw[j,m];refine .inr ⟨_,rfl,cZ.leaf (.inl ⟨_,rfl,rfl,?_⟩)⟩;cases b:d_ _ with
  |none=>exact⟨by decide,by decide⟩
  |some v =>
   unfold d_ at b;split at b
   ·rename_i r p;split at b
    ·cases b;have:=Lib.parseIntB_bounds p;have e:((2^(64-1):Nat):Int)=9223372036854775808:=S4;rw[e]at this;simp only[Option.getD_some];omega
    cases b
   cases b
 by_cases n:(bY.tok l).1=3
 ·have j:nG l=some (vw ((l.drop 1).take ((bY.tok l).2-2))):=by grind [nG]
  have m:pL l=.iface 215 (.string ⟨((l.drop 1).take ((bY.tok l).2-2)).toArray⟩):=by grind [pL]
  rw[j,m];refine .inr ⟨_,rfl,cZ.leaf (.inr ⟨_,rfl,rfl,?_⟩)⟩;have:=vD n;show(List.toArray _).size<=30
  grind
 have j:nG l=none:=by
  grind [nG]
 have m:pL l=.nilIface:=by
  grind [pL]
 rw[j,m];exact .inl ⟨rfl,rfl⟩
def JW(s:ba)(i):s.extract i (i+(bY.tok (s.1.1.drop i)).2)=⟨(tx s.1.1 i).toArray⟩:=by
 have h:=ot s i;generalize s.extract i _=x at h;rw[<-h]
theorem xA(t w):Calls prog 262 #[.string t] w λe b=>e=.returned (.int .u8 (bY.byteOf t.toList))/\w=b:=by
 go_enter func262,ntmps262;go_wp2_with fail
 all_goals first
  |(exfalso;simp_all;done)
  |(go_ret;refine⟨?_,rfl⟩;simp_all [bY.byteOf];done)
def EZ{j b:Nat}{w:Xa}(h:qh j none w ts sl)(r:b<j)(o v):qh j none (w.setCell ⟨b,o,none⟩ v) ts sl :=h.move (λk u _ n t p m _=>(VX w ⟨b,o,none⟩ v k (by show k≠b;omega)).trans m) (λk e=>by cases e)
def OO(i)(b:s.size<=200):(tx s.1.1 i).length<=200:=by
 unfold tx;rw[Rf,aV];have:s.1.1.length=s.size:=S5;omega
theorem sF{w w2 w3:Xa}{j:Nat}{A:Obj}{cu op:Nat}{name:a_}{is:Option V}{i b x:Xb}(f3:((w2.alloc A).alloc (.cells #[.int .i64 cu,.int .u8 op,.string ⟨name.toArray⟩,i,b] 263)).grownBy w3 (some j))(z:j<w2.1.size)(B:w.1.size<=w2.1.size)(hi:∀w,hC w is i)(y:name.length<=200)(n:qh ((w2.alloc A).alloc (.cells #[.int .i64 cu,.int .u8 op,.string ⟨name.toArray⟩,i,b] 263)).1.size none w3 ts sl):TF w.1.size none ((w3.setCell ⟨w2.1.size+1,4,none⟩ sl).setCell ⟨j,5,none⟩ x) ⟨cu,op,name,is,ts⟩ ⟨w2.1.size+1,0,none⟩:=by
 have m:=f3.block (w2.1.size+1) S5 (λe=>by injection e;omega);have u:((w2.alloc A).alloc (.cells #[.int .i64 (cu:Int),.int .u8 (op:Int),.string ⟨name.toArray⟩,i,b] 263)).1[w2.1.size+1]?=some (.cells #[.int .i64 (cu:Int),.int .u8 (op:Int),.string ⟨name.toArray⟩,i,b] 263):=by
  have:=heap_alloc_new (w2.alloc A) (.cells #[.int .i64 (cu:Int),.int .u8 (op:Int),.string ⟨name.toArray⟩,i,b] 263)
  simp_all
 rw[u]at m;have p:=iA m 4 sl;have r:((w2.alloc A).alloc (.cells #[.int .i64 (cu:Int),.int .u8 (op:Int),.string ⟨name.toArray⟩,i,b] 263)).1.size=w2.1.size+2:=S5;rw[r]at n;refine TF.node (fz:=(0,0)) (i:=i) (s:=sl) ((VX _ ⟨j,5,none⟩ x _ (by show w2.1.size+1≠j;omega)).trans p) R5 (λe=>by cases e) hi y ?_;exact(EZ (EZ n R5 4 sl) R5 5 x).mono R5
theorem DI(s)(e n b j i k:Nat)(z:2<=k/\k<=16)(C:s.size<=200)(B:8<=e)(hi:i<=s.size)(hd:b<=20)(u:j+1<=b)(r:8*(s.size-i)+4<=n)(H:∀m,m<=n->tN s e m 0 89)(p:tN s e n 3 212)(w)(g:G w)(h:iI w s e i b j):Calls prog 263 #[.pointer (some ⟨e,0,none⟩),.int .i64 k] w (dF s e b j w (fA s.1.1 n b j k i)):=by
 have y:j<=b:=R5;by_cases k1:k=2\/k=3\/k=4
 ·grind [Bu]
 by_cases D:k=5
 ·grind [zN]
 by_cases E:k=6
 ·grind [zO]
 by_cases F:k=7
 ·grind [DF]
 by_cases I:k=8
 ·grind [Bt]
 by_cases J:k=9
 ·grind [GA]
 grind [DG,DH]
theorem zQ(s m j b i)(r:bY.cu s.1.1 i b=0):Bp s 212 m j b i (.error (3,i)):=by
 intro w g h;have n:=nr s m i j b w h;rw[r]at n;have p:=bZ n;go_enter func212,ntmps212;go_wp2_with fail;refine p.Z.mono ?_;rintro e u⟨rfl,rfl⟩;go_wp2_with fail;refine(nj s m i j b 3 _ h).mono ?_;rintro e u⟨rfl,rfl⟩;exact⟨rfl,dt.fy (x:=(3,i)) (VQ _ _)⟩
theorem zR(s j b i)(p:bY.cu s.1.1 i b≠0):Bp s 212 j 20 b i (.error (4,i)):=by
 intro w g h;have m:=nr s j i 20 b w h;generalize bY.cu _ i b=k at m p;obtain⟨u,y,z,B,C,D,E,F⟩:=h.cells;have n:=bZ m;go_enter func212,ntmps212;go_wp2_with fail;refine n.Z.mono ?_;rintro e r⟨rfl,rfl⟩;go_wp2_with fail;refine(nj s j i 20 b 4 _ h).mono ?_;rintro e r⟨rfl,rfl⟩;exact⟨rfl,dt.fy (x:=(4,i)) (VQ _ _)⟩
def DK(s u deep C i k)(hs:s.size<=200)(I:8<=u)(hi:i<=s.size)(hd:deep<=19)(ai:2<=k/\k<=16)(Z:bY.cu s.1.1 i C=k)(r)(Y:∀w,G w->iI w s u (fX s.1.1 i) (deep+1) C->Calls prog 263 #[.pointer (some ⟨u,0,none⟩),.int .i64 k] w (dF s u (deep+1) C w r)):Bp s 212 u deep C i (dh r λj ts=>.ok (j,[iB s.1.1 k i ts])):=by
 intro w g h;have T:=nr s u i deep C w h;rw[Z]at T;obtain⟨c0,c1,c2,c3,c4,c5,c6,cf⟩:=h.cells;have ab:=h.deep (deep+1);have S:w.grownBy (w.setCell ⟨u,5,none⟩ (.int .i64 ((deep+1:Nat):Int))) _:=Fr.set (VQ _ _) _ _;have ht:=mM s u i _ C _ (g.fr S I) ab R5 hi;have ad:=ht;have K:=bZ T;have M:=bZ ad;have L:=bZ Y;have J:=bZ S;have B:=ux (s.1.1.drop i);have z:=bZ (GB (s.1.1.drop i));have N:=JW s i;by_cases k3:k=3
 ·subst k3;go_enter func212,ntmps212;go_wp2_with fail;refine K.Z.mono ?_;rintro e O⟨rfl,rfl⟩;go_wp2_with fail;refine b_ M.Z λX ⟨h2,f2⟩=>?_;have b:=Fr.trans J.Z f2;have n:=h2.lt;unfold oO;rw[N];generalize pL _=v at B z;rcases B with rfl|⟨t,x,rfl⟩
  all_goals
   go_wp2_with fail;refine(L.Z _ (g.fr (Fr.alloc (Fr.alloc b _) _) I) ((h2.alloc _).alloc _)).mono ?_;rintro e w3 p
  all_goals rcases r with y|⟨j,ts⟩
  all_goals try
   obtain⟨f3,rfl⟩:=dF.err p;exact⟨rfl,dt.fy (Fr.trans (Fr.alloc (Fr.alloc b _) _) f3)⟩
  all_goals
   obtain⟨f3,⟨a,V,c,rfl,F⟩,m⟩:=dF.ok p;obtain⟨Q,R⟩:=ll f3 n;obtain⟨d0,d1,d2,d3,d4,d5,d6,P⟩:=m.cells;have E:=Fr.trans (Fr.alloc (Fr.alloc b _) _) f3;have D:=bZ (sF (w:=w) (x:=.int .i64 (deep:Int)) (cu:=3) (op:=0) (name:=tx s.1.1 i) f3 n b.size z.Z (OO i hs) F);go_wp2;go_ret;refine dt.kP (Fr.set (Fr.new E Ur _ _) _ _) ((m.other R5 _ _).deep deep) ?_;exact D.Z
 by_cases U:k=13
 ·subst U;go_enter func212,ntmps212;go_wp2_with fail;refine K.Z.mono ?_;rintro e O⟨rfl,rfl⟩;go_wp2_with fail;refine b_ M.Z λX ⟨h2,f2⟩=>?_;have b:=Fr.trans J.Z f2;have n:=h2.lt;unfold oO;rw[N];generalize pL (s.1.1.drop i)=v at B z;rcases B with rfl|⟨t,x,rfl⟩
  all_goals
   go_wp2_with(go_at_call 262;refine(xA _ _).mono ?_;rintro e O ⟨rfl,rfl⟩);refine(L.Z _ (g.fr (Fr.alloc (Fr.alloc b _) _) I) ((h2.alloc _).alloc _)).mono ?_;rintro e w3 p
  all_goals rcases r with y|⟨j,ts⟩
  all_goals try
   obtain⟨f3,rfl⟩:=dF.err p;exact⟨rfl,dt.fy (Fr.trans (Fr.alloc (Fr.alloc b _) _) f3)⟩
  all_goals
   obtain⟨f3,⟨a,V,c,rfl,F⟩,m⟩:=dF.ok p;obtain⟨Q,R⟩:=ll f3 n;obtain⟨d0,d1,d2,d3,d4,d5,d6,P⟩:=m.cells;have E:=Fr.trans (Fr.alloc (Fr.alloc b _) _) f3;have D:=bZ (sF (w:=w) (x:=.int .i64 (deep:Int)) (cu:=13) (op:=bY.byteOf (tx s.1.1 i)) (name:=[]) f3 n b.size z.Z (ar _) F);go_wp2;go_ret;refine dt.kP (Fr.set (Fr.new E Ur _ _) _ _) ((m.other R5 _ _).deep deep) ?_;exact D.Z
 have e3:((k:Int)==3)=false:=Tj;have aa:∀ts,iB s.1.1 k i ts=⟨k,0,[],nG (s.1.1.drop i),ts⟩:=λts=>by
  simp[iB,k3,U]
 simp only[aa];go_enter func212,ntmps212;go_wp2_with fail;refine K.Z.mono ?_;rintro e O⟨rfl,rfl⟩;go_wp2_with fail;refine b_ M.Z λX ⟨h2,f2⟩=>?_;have b:=Fr.trans J.Z f2;have n:=h2.lt;unfold oO;rw[N];generalize pL (s.1.1.drop i)=v at B z;rcases B with rfl|⟨t,x,rfl⟩
 all_goals
  go_wp2_with fail;refine(L.Z _ (g.fr (Fr.alloc (Fr.alloc b _) _) I) ((h2.alloc _).alloc _)).mono ?_;rintro e w3 p
 all_goals rcases r with y|⟨j,ts⟩
 all_goals try
  obtain⟨f3,rfl⟩:=dF.err p;exact⟨rfl,dt.fy (Fr.trans (Fr.alloc (Fr.alloc b _) _) f3)⟩
 all_goals
  obtain⟨f3,⟨a,V,c,rfl,F⟩,m⟩:=dF.ok p;obtain⟨Q,R⟩:=ll f3 n;obtain⟨d0,d1,d2,d3,d4,d5,d6,P⟩:=m.cells;have E:=Fr.trans (Fr.alloc (Fr.alloc b _) _) f3;have D:=bZ (sF (w:=w) (x:=.int .i64 (deep:Int)) (cu:=k) (op:=0) (name:=[]) f3 n b.size z.Z (ar _) F);go_wp2;go_ret;refine dt.kP (Fr.set (Fr.new E Ur _ _) _ _) ((m.other R5 _ _).deep deep) ?_;exact D.Z
theorem zS(s e n)(z:s.size<=200)(y:8<=e)(H:∀m,m<=n->tN s e m 0 89)(B:tN s e n 3 212):tN s e (n+1) 3 212:=by
 intro p b i hi hd I G;have F:PT _ (n+1) 3 p b i []=if bY.cu _ i b=0 then .error (3,i)else if p=20 then .error (4,i)else dh _ λj ts=>.ok (j,[iB s.1.1 (bY.cu s.1.1 i b) i ts]):=rfl
 rw[F];by_cases r:bY.cu s.1.1 i b=0
 ·grind [zQ]
 rw[ae r];by_cases C:p=20
 ·grind [zR]
 rw[ae C];have u:=(nw _ i b).resolve_left r;have J:=gu (qM r);have E:fX s.1.1 i<=s.size:=by have:=fu s.1.1 i Tt;simpa using this
 have D:8*(s.size-fX s.1.1 i)+4<=n:=R5;exact DK s e p b i _ z y hi R5 u rfl _ (λw g h=>DI s e n (p+1) b _ _ u z y E R5 R5 D H B w g h)
end
section
open Tryz
def Bw(s b)(u:s.size<=200)(l:8<=b):∀n,tN s b n 0 89/\tN s b n 1 131/\tN s b n 2 173/\tN s b n 3 212:=by
 have p:s.size<=281474976710656:=R5;intro n
 induction n using Nat.strongRecOn with
 |ind n y =>
  cases n with
  |zero =>
   refine⟨?_,?_,?_,?_⟩
   all_goals
    intro z C i hi hd B r;simp[bY.nd]at r
  |succ n =>
   have j:∀m,m<=n->_:=λm e=>y m R5;exact⟨DB s b n p l (j n (af _)).2.1,Gy s b n p l (λm e=>(j m e).2.2.1),DC s b n p l (λm e=>(j m e).2.2.2),zS s b n u l (λm e=>(j m e).1) (j n (af _)).2.2.2⟩
def bY.mY(l:a_):Option bY.T :=if 200<l.length then none
 else match bY.PT l (8*l.length+5) 0 0 0 (bY.skip l 0) [] with
  |.ok (j,b)=>if(bY.tok (l.drop j)).1=0 then b.head? else none
  |.error _=>none
def vZ(w:Xa)(o:Option bY.T)(c i:Nat)(e:Ending)(w':Xa):Prop :=(∃q,e=.returned (.tuple #[.pointer q,.int .i64 (c:Int),.int .i64 (i:Int)])/\∀t,o=some t->c=0/\i=0/\∃a,q=some a/\Dz w' t a)/\Xc w w'
theorem Bz(s w)(b:200<s.size)(l:s.size<=9223372036854775807):Calls prog 54 #[.string s] w (vZ w (bY.mY s.1.1) (bY.check s.1.1).1 (bY.check s.1.1).2):=by
 have h1:bY.mY s.1.1=none:=by rw[bY.mY,ag TB]
 have h2:bY.check s.1.1=(2,0):=by rw[bY.check,ag TB]
 rw[h1,h2];refine(CA s w b l).mono ?_;rintro e n⟨⟨q,rfl⟩,j⟩;exact⟨⟨q,rfl,λt m=>by cases m⟩,j⟩
def tu(w0 w b c i j)(t2:j[2]?.getD undef=.pointer (some ⟨b,0,none⟩))(t3:j[3]?.getD undef=.pointer (some ⟨b+1,0,none⟩))(t4:j[4]?.getD undef=.pointer (some ⟨b+1+1,0,none⟩))(q l m)(z:b+1+1<w.1.size)(n:w.cell? ⟨b,0,none⟩=some (.pointer q))(p:w.cell? ⟨b+1,0,none⟩=some (.int .i64 l))(r:w.cell? ⟨b+1+1,0,none⟩=some (.int .i64 m))(D:w.frozen? ⟨b,0,none⟩=false)(E:w.frozen? ⟨b+1,0,none⟩=false)(F:w.frozen? ⟨b+1+1,0,none⟩=false)(u:Xc w0 w)(B:w0.1.size<=b):Leaves prog f54 j (vZ w0 none c i) [{target:=Target.fn (Fn.func 87) #[.pointer (some ⟨b,0,none⟩),.pointer (some ⟨b+1,0,none⟩),.pointer (some ⟨b+1+1,0,none⟩)],args:=#[]}] (.panicking [{v:=.iface 179 (.agg #[.int .i64 c,.int .i64 i]),recovered:=false}]) w:=by
 refine leaves_cons (f:=87) (args:=#[.pointer (some ⟨b,0,none⟩),.pointer (some ⟨b+1,0,none⟩),.pointer (some ⟨b+1+1,0,none⟩)]) S5 Ty ?_;refine(Aw b c i w _ ⟨q,rfl⟩ l m z n p r D E F).mono ?_;rintro e G I⟨rfl,rfl,d0,d1,d2,y⟩;refine⟨.tuple #[.pointer none,.int .i64 _,.int .i64 (i:Int)],?_,⟨none,rfl,λt C=>by cases C⟩,u.trans (y.mono B)⟩;simp[results,results54,go_sem,t2,t3,t4,d0,d1,d2]
def DL(w0 w)(b c i:Nat)(j)(t2:j[2]?.getD undef=.pointer (some ⟨b,0,none⟩))(t3:j[3]?.getD undef=.pointer (some ⟨b+1,0,none⟩))(t4:j[4]?.getD undef=.pointer (some ⟨b+1+1,0,none⟩))(q t)(u:Dz w t q)(l:w.cell? ⟨b,0,none⟩=some (.pointer (some q)))(m:w.cell? ⟨b+1,0,none⟩=some (.int .i64 c))(n:w.cell? ⟨b+1+1,0,none⟩=some (.int .i64 i))(p:Xc w0 w)(r:c=0)(hi:i=0):Leaves prog f54 j (vZ w0 (some t) c i) [{target:=Target.fn (Fn.func 87) #[.pointer (some ⟨b,0,none⟩),.pointer (some ⟨b+1,0,none⟩),.pointer (some ⟨b+1+1,0,none⟩)],args:=#[]}] .returning w:=by
 refine leaves_cons (f:=87) (args:=#[.pointer (some ⟨b,0,none⟩),.pointer (some ⟨b+1,0,none⟩),.pointer (some ⟨b+1+1,0,none⟩)]) S5 Ty ?_;refine(Cz _ _ _ w).mono ?_;rintro e B C⟨rfl,rfl,rfl⟩;refine⟨.tuple #[.pointer _,.int .i64 _,.int .i64 _],?_,⟨some q,rfl,λz y=>by cases y;exact⟨r,hi,q,rfl,u⟩⟩,p⟩;simp[results,results54,go_sem,t2,t3,t4,l,m,n]
theorem zT(s w)(g:G w)(hs:s.size<=200):Calls prog 54 #[.string s] w (vZ w (bY.mY s.1.1) (bY.check s.1.1).1 (bY.check s.1.1).2):=by
 have a3:∀(T:Fn) (first S:Array Xb) (w:Xa),(Instr.makeFunc T first S).run prog w=.ok (.func T first S) w:=λ_ _ _ _=>rfl;have U:Xc w (((w.alloc (Obj.cells #[Value.pointer none] 121)).alloc (Obj.cells #[Value.int IntKind.i64 0] 39)).alloc (Obj.cells #[Value.int IntKind.i64 0] 3)):=(((VM _ _).alloc (af _) _).alloc S5 _).alloc Tc _;have g0:=g.below U g.size;have I:bY.skip s.1.1 0<=s.size:=by have:=bY.pI s.1.1 0 (ar _);simpa using this
 have l:bY.check s.1.1=bY.xE s.1.1 (bY.P s.1.1 (8*s.1.1.length+5) 0 0 0 (bY.skip s.1.1 0)):=by
  rw[bY.check,ae Tc]
 generalize Y:bY.skip s.1.1 0=n at I l;have m:bY.mY s.1.1=match bY.PT s.1.1 (8*s.1.1.length+5) 0 0 0 (bY.skip s.1.1 0) [] with
   |.ok (j,z)=>if(bY.tok (s.1.1.drop j)).1=0 then z.head? else none
   |.error _=>none:=by
  rw[bY.mY,ae Tc]
 rw[Y]at m;have Z:=λpb C=>(Bw s pb hs C (8*s.1.1.length+5)).1 0 0 n I R5 (af _) Tk;have ai:=bZ Y;rw[<-bY.pj s.1.1 _ _ _ _ _ []]at l;generalize av:bY.PT s.1.1 (8*s.1.1.length+5) 0 0 0 n []=r at l Z m;have ax:∀j z,r=.ok (j,z)->j<=s.size:=λj z hj=>(oM rfl (av.trans hj) I).2;generalize bY.check s.1.1=B at l;generalize bY.mY s.1.1=ru at m;have R:=bZ m;clear m;have Q:=bZ l;have ak:=bZ Z
 go_enter_defers func54,ntmps54
 go_wp2_with fail;refine(sV s 0 0 _ rfl g0 R5 (ar _)).mono ?_;rw[ai.Z];rintro e b⟨rfl,E⟩;obtain⟨y,F⟩:=oq E;have hz:w.1.size+1+1<b.1.size:=by have:=E.size;simp at this;omega
 have V:Xc w b:=U.trans (E.mono Tc);have n0:b.cell? ⟨w.1.size,0,none⟩=some (.pointer none):=by rw[y _ _ Tc];simp[go_sem]
 have n1:b.cell? ⟨w.1.size+1,0,none⟩=some (.int .i64 0):=by rw[y _ _ S5];simp[go_sem]
 have n2:b.cell? ⟨w.1.size+1+1,0,none⟩=some (.int .i64 0):=by rw[y _ _ S5];simp[go_sem]
 have m0:b.frozen? ⟨w.1.size,0,none⟩=false:=by rw[F _ _ Tc];simp[go_sem]
 have m1:b.frozen? ⟨w.1.size+1,0,none⟩=false:=by rw[F _ _ S5];simp[go_sem]
 have m2:b.frozen? ⟨w.1.size+1+1,0,none⟩=false:=by rw[F _ _ S5];simp[go_sem]
 have C:8<=b.1.size:=TI;have hP:∀v,pL (s.1.1.drop n)=v->iI (b.alloc (.cells #[.string s,.int .i64 ((bY.tok (s.1.1.drop n)).1:Int),.string (s.extract n (n+(bY.tok (s.1.1.drop n)).2)),.int .i64 (n:Int),v,.int .i64 0,.int .i64 0] 183)) s b.1.size n 0 0:=λv M=>by
  subst M;exact heap_alloc_new _ _
 have HP:=bZ hP;have X:=ux (s.1.1.drop n);unfold oO;generalize M:pL (s.1.1.drop n)=v at X;have HV:=bZ M;rcases X with rfl|⟨t,x,rfl⟩
 all_goals
  go_wp2_with fail;refine(ak.Z _ C _ ((g.below V g.size).below ((VM _ _).alloc (af _) _) C) (HP.Z _ HV.Z)).mono ?_;rintro e p L;have f2:=L.1;have a4:b.1.size<p.1.size:=by have:=f2.size;simp at this;omega
  have u:Xc b p:=⟨f2.os,f2.tape,f2.output,by omega,λk J=>(f2.block k Tc (λe=>by injection e;omega)).trans (VR _ _ k J)⟩;have D:Xc w p:=V.trans (u.mono R5);have N:p.cell? ⟨w.1.size,0,none⟩=some (.pointer none):=(u.cell (p:=⟨w.1.size,0,none⟩) (by show w.1.size<_;omega)).trans n0;have O:p.cell? ⟨w.1.size+1,0,none⟩=some (.int .i64 0):=(u.cell (p:=⟨w.1.size+1,0,none⟩) (by show w.1.size+1<_;omega)).trans n1;have P:p.cell? ⟨w.1.size+1+1,0,none⟩=some (.int .i64 0):=(u.cell (p:=⟨w.1.size+1+1,0,none⟩) hz).trans n2;have aa:p.frozen? ⟨w.1.size,0,none⟩=false:=(u.frozen (p:=⟨w.1.size,0,none⟩) (by show w.1.size<_;omega)).trans m0;have ab:p.frozen? ⟨w.1.size+1,0,none⟩=false:=(u.frozen (p:=⟨w.1.size+1,0,none⟩) (by show w.1.size+1<_;omega)).trans m1;have ad:p.frozen? ⟨w.1.size+1+1,0,none⟩=false:=(u.frozen (p:=⟨w.1.size+1+1,0,none⟩) hz).trans m2
 all_goals rcases r with x|⟨j,z⟩
 all_goals try
   obtain⟨_,rfl⟩:=dt.err L;have l:B=x:=Q.Z;have m:ru=none:=R.Z;subst l;subst m;exact tu w p w.1.size B.1 B.2 _ rfl rfl rfl none 0 0 R5 N O P aa ab ad D (af _)
 all_goals
   obtain⟨_,⟨q,t,rfl,rfl,ay⟩,h2⟩:=dt.ok L;have aC:=ax j _ rfl;have ap:¬w.1.size=b.1.size:=R5;obtain⟨d0,d1,d2,d3,d4,d5,d6,df⟩:=h2.cells;have l:B=if(bY.tok (s.1.1.drop j)).1=0 then(0,0) else(3,j):=Q.Z;have m:ru=if(bY.tok (s.1.1.drop j)).1=0 then some t else none:=R.Z;have a2:b.1.size+1<=(b.alloc (Obj.cells #[] 183)).1.size:=S5;have am:=bZ ay;by_cases K:(bY.tok (s.1.1.drop j)).1=0
   ·rw[ag K]at l m;subst l;subst m;have ao:(((bY.tok (s.1.1.drop j)).1:Int) != 0)=false:=by rw[K];rfl
    go_wp2_with fail;refine DL w _ w.1.size 0 0 _ rfl rfl rfl q t ?_ (by simp[go_sem,N]) (by simp[go_sem,O]) (by simp[go_sem,P]) ?_ rfl rfl
    ·have ht:=am.Z;refine(ht _ ?_);intro k J _ cs t' fz y _;have a0:b.1.size+1<=k:=by simpa using J
     repeat' first|exact y|refine(VX _ _ _ k (by show k≠_;simp;omega)).trans ?_
    repeat' (first|exact D|exact af _|exact aI _ _|exact ah (aI _ 1) (aI _ 1)|apply Below.setCell)
   rw[ae K]at l m;subst l;subst m;have ao:(((bY.tok (s.1.1.drop j)).1:Int) != 0)=true:=TC;go_wp2_with fail;refine(nj s b.1.size j 0 0 3 _ (h2.other ap _ _)).mono ?_;rintro e w3⟨rfl,rfl⟩;exact tu w _ w.1.size 3 j _ rfl rfl rfl (some q) 0 0 Ub (by simp[go_sem,N]) (by simp[go_sem,O]) (by simp[go_sem,P]) (by simp[go_sem,aa]) (by simp[go_sem,ab]) (by simp[go_sem,ad]) (D.setCell (p:=⟨w.1.size,0,none⟩) (af _) _) (af _)
def v7(s w)(g:G w)(b:s.size<=9223372036854775807):Calls prog 54 #[.string s] w (vZ w (bY.mY s.1.1) (bY.check s.1.1).1 (bY.check s.1.1).2):=by
 grind [Bz,zT]
end
