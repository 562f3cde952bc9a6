/- Out of V3. -/
import Derived.Test.YtpekpdimdelncaaGreatDoorP03
import Derived.Lib.ItoaLen
import Derived.Deep.LoopGhost
import Derived.Lib.AppendZeros
import Derived.Laws.AppendOwnNone
set_option maxRecDepth 100000
set_option maxHeartbeats 800000
set_option linter.defProp false
namespace Go.Proofs.YtpekpdimdelncaaGreatDoor
open Go.RowKit
section
open bY
open Tryz
variable{n:Nat}{v u:V}{x y:Xa}
attribute [local go_sem] nT nV nW nX nY nZ n_ oc oe
def kg(i):-9223372036854775808<=bY.wrap i/\bY.wrap i<=9223372036854775807:=by
 unfold bY.wrap;omega
def qF(i):bY.wrap i=wrap64 i:=by
 unfold bY.wrap wrap64;rfl
def uc{w:QV}(i)(b:-9223372036854775808<=i)(h1:i<=9223372036854775807):cT w n (vn i) (.iface 219 (.int .i64 i)) :=.leaf (.inl ⟨i,rfl,rfl,b,h1⟩)
def oG{w:QV}{m:Nat}(hx:cT w n v x)(hy:cT w m u y):(∃i j,v=vn i/\u=vn j/\x=.iface 219 (.int .i64 i)/\y=.iface 219 (.int .i64 j)/\-9223372036854775808<=i/\i<=9223372036854775807/\-9223372036854775808<=j/\j<=9223372036854775807) \/((∀f,mr v u f=.error 9)/\∀W:QV,Calls prog 316 #[.agg #[x,y]] W λe w'=>e=gE 9/\Xb W w'):=by
 rcases hx.fP with⟨i,rfl,rfl,hi⟩|⟨b,rfl,rfl,_⟩|⟨_,l,s,ys,_,rfl,rfl,_⟩
 ·rcases hy.fP with⟨j,rfl,rfl,hj⟩|⟨b,rfl,rfl,_⟩|⟨_,l,s,ys,_,rfl,rfl,_⟩
  ·exact .inl ⟨i,j,rfl,rfl,rfl,rfl,hi.1,hi.2,hj.1,hj.2⟩
  ·exact .inr ⟨λ_=>rfl,λW=>mW _ _ _ _ W (.inl ⟨rfl,_,rfl⟩) (.inr (.inl rfl)) (.inr RZ)⟩
  exact .inr ⟨λ_=>rfl,λW=>mW _ _ _ _ W (.inl ⟨rfl,_,rfl⟩) (.inr (.inr rfl)) (.inr RZ)⟩
 ·have r:∃t b,y=.iface t b/\((t=219/\∃i,b=.int .i64 i)\/t=215\/t=248):=by
   rcases hy.fP with⟨j,rfl,rfl,hj⟩|⟨b,rfl,rfl,_⟩|⟨_,l,s,ys,_,rfl,rfl,_⟩
   ·exact⟨_,_,rfl,.inl ⟨rfl,_,rfl⟩⟩
   ·exact⟨_,_,rfl,.inr (.inl rfl)⟩
   exact⟨_,_,rfl,.inr (.inr rfl)⟩
  obtain⟨t,c,rfl,p⟩:=r;exact .inr ⟨λ_=>rfl,λW=>mW _ _ _ _ W (.inr (.inl rfl)) p (.inl RZ)⟩
 have r:∃t b,y=.iface t b/\((t=219/\∃i,b=.int .i64 i)\/t=215\/t=248):=by
  rcases hy.fP with⟨j,rfl,rfl,hj⟩|⟨b,rfl,rfl,_⟩|⟨_,l,s,ys,_,rfl,rfl,_⟩
  ·exact⟨_,_,rfl,.inl ⟨rfl,_,rfl⟩⟩
  ·exact⟨_,_,rfl,.inr (.inl rfl)⟩
  exact⟨_,_,rfl,.inr (.inr rfl)⟩
 obtain⟨t,c,rfl,p⟩:=r;exact .inr ⟨λ_=>rfl,λW=>mW _ _ _ _ W (.inr (.inr rfl)) p (.inl RZ)⟩
def ET(w)(hx:cT w 3 v x)(hy:cT w 3 u y):Calls prog 304 #[.agg #[x,y]] w (PV w (mr v u λi j=>.ok (vn (bY.wrap (i-j))))):=by
 obtain⟨t1,a1,ex⟩:=hx.one;obtain⟨t2,r,l⟩:=hy.one;rcases oG hx hy with⟨i,j,rfl,rfl,rfl,rfl,z,h1,h2,B⟩|⟨m,hc⟩
 ·clear ex l hx hy;go_enter func304,ntmps304;go_wp2_with(go_at_call 316;refine(jU _ _ _).mono ?_;rintro e w' ⟨rfl,b⟩);go_ret;exact PV.ok (((Uz _ _).alloc (af _) _).trans (b.mono R2)) (show cT _ 3 _ (.iface 219 (.int .i64 (wrap64 (i-j))))from by rw[<-qF];exact uc _ (kg _).1 (kg _).2)
 rw[m];subst ex l;have p:=bZ hc;clear hc m hx hy;go_enter func304,ntmps304;go_wp2_with fail;refine(p.Z _).mono ?_;rintro e w'⟨rfl,b⟩;exact⟨rfl,PV.err (((Uz _ _).alloc (af _) _).trans (b.mono R2))⟩
def EU(w)(hx:cT w 3 v x)(hy:cT w 3 u y):Calls prog 305 #[.agg #[x,y]] w (PV w (mr v u λi j=>.ok (vn (bY.wrap (i*j))))):=by
 obtain⟨t1,a1,ex⟩:=hx.one;obtain⟨t2,r,l⟩:=hy.one;rcases oG hx hy with⟨i,j,rfl,rfl,rfl,rfl,z,h1,h2,B⟩|⟨m,hc⟩
 ·clear ex l hx hy;go_enter func305,ntmps305;go_wp2_with(go_at_call 316;refine(jU _ _ _).mono ?_;rintro e w' ⟨rfl,b⟩);go_ret;exact PV.ok (((Uz _ _).alloc (af _) _).trans (b.mono R2)) (show cT _ 3 _ (.iface 219 (.int .i64 (wrap64 (i*j))))from by rw[<-qF];exact uc _ (kg _).1 (kg _).2)
 rw[m];subst ex l;have p:=bZ hc;clear hc m hx hy;go_enter func305,ntmps305;go_wp2_with fail;refine(p.Z _).mono ?_;rintro e w'⟨rfl,b⟩;exact⟨rfl,PV.err (((Uz _ _).alloc (af _) _).trans (b.mono R2))⟩
def EV(w)(hx:cT w 3 v x)(hy:cT w 3 u y):Calls prog 309 #[.agg #[x,y]] w (PV w (mr v u λi j=>.ok (vn (min i j)))):=by
 obtain⟨t1,a1,ex⟩:=hx.one;obtain⟨t2,r,l⟩:=hy.one;rcases oG hx hy with⟨i,j,rfl,rfl,rfl,rfl,z,h1,h2,B⟩|⟨m,hc⟩
 ·clear ex l hx hy;go_enter func309,ntmps309;go_wp2_with(go_at_call 316;refine(jU _ _ _).mono ?_;rintro e w' ⟨rfl,b⟩);go_ret;exact PV.ok (((Uz _ _).alloc (af _) _).trans (b.mono R2)) (show cT _ 3 _ (.iface 219 (.int .i64 (min i j)))from uc _ RM RM)
 rw[m];subst ex l;have p:=bZ hc;clear hc m hx hy;go_enter func309,ntmps309;go_wp2_with fail;refine(p.Z _).mono ?_;rintro e w'⟨rfl,b⟩;exact⟨rfl,PV.err (((Uz _ _).alloc (af _) _).trans (b.mono R2))⟩
def GR(w)(hx:cT w 3 v x)(hy:cT w 3 u y):Calls prog 310 #[.agg #[x,y]] w (PV w (mr v u λi j=>.ok (vn (max i j)))):=by
 obtain⟨t1,a1,ex⟩:=hx.one;obtain⟨t2,r,l⟩:=hy.one;rcases oG hx hy with⟨i,j,rfl,rfl,rfl,rfl,z,h1,h2,B⟩|⟨m,hc⟩
 ·clear ex l hx hy;go_enter func310,ntmps310;go_wp2_with(go_at_call 316;refine(jU _ _ _).mono ?_;rintro e w' ⟨rfl,b⟩);go_ret;exact PV.ok (((Uz _ _).alloc (af _) _).trans (b.mono R2)) (show cT _ 3 _ (.iface 219 (.int .i64 (max i j)))from uc _ RM RM)
 rw[m];subst ex l;have p:=bZ hc;clear hc m hx hy;go_enter func310,ntmps310;go_wp2_with fail;refine(p.Z _).mono ?_;rintro e w'⟨rfl,b⟩;exact⟨rfl,PV.err (((Uz _ _).alloc (af _) _).trans (b.mono R2))⟩
def GS(w)(hx:cT w 3 v x)(hy:cT w 3 u y):Calls prog 306 #[.agg #[x,y]] w (PV w (mr v u λi j=>if j=0 then .error 8 else .ok (vn (bY.wrap (i.tdiv j))))):=by
 obtain⟨t1,a1,ex⟩:=hx.one;obtain⟨t2,r,l⟩:=hy.one;rcases oG hx hy with⟨i,j,rfl,rfl,rfl,rfl,z,h1,h2,B⟩|⟨m,hc⟩
 ·clear ex l hx hy;by_cases hj:j=0
  ·show Calls _ _ _ _ (PV w (if j=0 then .error 8 else .ok (vn (bY.wrap (i.tdiv j)))));rw[ag hj];subst hj;go_enter func306,ntmps306;go_wp2_with(go_at_call 316;refine(jU _ _ _).mono ?_;rintro e w' ⟨rfl,b⟩);exact⟨rfl,PV.err (((Uz _ _).alloc (af _) _).trans (b.mono R2))⟩
  show Calls _ _ _ _ (PV w (if j=0 then .error 8 else .ok (vn (bY.wrap (i.tdiv j)))));rw[ae hj];go_enter func306,ntmps306;go_wp2_with(go_at_call 316;refine(jU _ _ _).mono ?_;rintro e w' ⟨rfl,b⟩);go_ret;exact PV.ok (((Uz _ _).alloc (af _) _).trans (b.mono R2)) (show cT _ 3 _ (.iface 219 (.int .i64 (wrap64 (i.tdiv j))))from by rw[<-qF];exact uc _ (kg _).1 (kg _).2)
 rw[m];subst ex l;have p:=bZ hc;clear hc m hx hy;go_enter func306,ntmps306;go_wp2_with fail;refine(p.Z _).mono ?_;rintro e w'⟨rfl,b⟩;exact⟨rfl,PV.err (((Uz _ _).alloc (af _) _).trans (b.mono R2))⟩
end
section
open bY
open Tryz
variable{n:Nat}{l:a_}{b:ba}{s y x:Xa}{ys:List Xa}{o:Option Addr}{v:V}
attribute [local go_sem] nT nV nW nX nY nZ n_ oc oe
def M6{w:QV}(b)(h:b.size<=30):cT w n (vw b.1.1) (.iface 215 (.string b)) :=.leaf (.inr ⟨b,rfl,rfl,h⟩)
def qG(b:ba):b.1.1.length=b.size:=R2
def Kz(a b w)(h:a.size+b.size<=30):Calls prog 314 #[.string a,.string b] w λe w'=>e=.returned (.iface 215 (.string (a++b)))/\w'=w:=by
 go_enter func314,ntmps314;go_wp2;go_ret;exact⟨rfl,rfl⟩
def KA(a b w)(j:a.size<=30)(hb:b.size<=30)(h:30<a.size+b.size):Calls prog 314 #[.string a,.string b] w λe w'=>e=gE 10/\w'=w:=by
 go_enter func314,ntmps314;go_wp2;exact⟨rfl,rfl,rfl⟩
def PV.num{w w':QV}{i j:Int}(m:Xb w w')(h:j=i)(e:-9223372036854775808<=i)(h1:i<=9223372036854775807):PV w (.ok (vn i)) (.returned (.iface 219 (.int .i64 j))) w':=by
 subst h;exact PV.ok m (uc _ e h1)
def PV.word{w w':QV}(j:Xb w w')(h:b.1.1=l)(e:b.size<=30):PV w (.ok (vw l)) (.returned (.iface 215 (.string b))) w':=by
 subst h;exact PV.ok j (M6 _ e)
def fX.len{w:QV}(h:fX w s ys):∃o c,s=.slice o ys.length c:=by
 rcases h with⟨rfl,rfl⟩|⟨b,e,cs,fz,rfl,_⟩
 ·exact⟨_,_,rfl⟩
 exact⟨_,_,rfl⟩
def fX.cell{w:QV}{c:Nat}(h:fX w (.slice o n c) ys){i:Nat}(hi:ys[i]?=some y):∃b,o=some ⟨b,0,none⟩/\w.cell? ⟨b,i,none⟩=some y:=by
 have m:i<ys.length:=by
  rcases Qh i _ with h'|h'
  ·exact h'
  simp[RN h']at hi
 rcases h with⟨h1,rfl⟩|⟨b,p,cs,fz,h1,h2,e,r,j⟩
 ·simp at hi
 cases h1;refine⟨b,rfl,?_⟩;simp[World.cell?,e,j i m,hi]
def GU(w)(hx:cT w 3 v x):Calls prog 283 #[x] w (PV w (bY.size v)):=by
 rcases hx.fP with⟨i,rfl,rfl,hi⟩|⟨b,rfl,rfl,hb⟩|⟨m,l,s,ys,p,rfl,rfl,e,hl,j,hv⟩
 ·go_enter func283,ntmps283;go_wp2;exact⟨rfl,PV.err (Uz _ _)⟩
 ·go_enter func283,ntmps283;go_wp2;go_ret;exact PV.num (Uz _ _) R2 R2 R5
 obtain⟨o,c,rfl⟩:=e.len;go_enter func283,ntmps283;go_wp2;go_ret;exact PV.num (Uz _ _) RM RM RM
def Cc(w)(g:G w)(hx:cT w 3 v x):Calls prog 285 #[x] w (PV w (ia v)):=by
 rcases hx.fP with⟨i,rfl,rfl,hi⟩|⟨b,rfl,rfl,hb⟩|⟨m,l,s,ys,u,rfl,rfl,p,hl,r,hv⟩
 ·have hlen:(Lib.itoa i).length<=30:=by have:=Lib.itoa_length_le i hi.1 hi.2;omega
  go_enter func285,ntmps285;go_wp2_with(go_at_call 171;refine(iA i _ g hi.1 hi.2).mono ?_;rintro e w' ⟨rfl,j⟩);go_ret;exact PV.word j rfl (by simp[ByteArray.size];exact hlen)
 ·go_enter func285,ntmps285;go_wp2;go_ret;exact PV.word (Uz _ _) rfl hb
 obtain⟨o,c,rfl⟩:=p.len;go_enter func285,ntmps285;go_wp2;exact⟨rfl,PV.err (Uz _ _)⟩
def KD(w)(hx:cT w 3 v x):Calls prog 284 #[x] w (PV w (jM v)):=by
 rcases hx.fP with⟨i,rfl,rfl,hi⟩|⟨b,rfl,rfl,hb⟩|⟨m,l,s,ys,N,rfl,rfl,C,hl,K,hv⟩
 ·go_enter func284,ntmps284;go_wp2_with fail;refine(k_ _ _ _ (.inr rfl)).mono ?_;rintro e w'⟨rfl,rfl⟩;exact⟨rfl,PV.err (Uz _ _)⟩
 ·go_enter func284,ntmps284;go_wp2_with fail;refine(k_ _ _ _ (.inl rfl)).mono ?_;rintro e w'⟨rfl,rfl⟩;exact⟨rfl,PV.err (Uz _ _)⟩
 obtain⟨o,c,rfl⟩:=C.len;show Calls _ _ _ _ (PV w (fx 0 l));generalize I:fx 0 l=fin;have D:=bZ I;go_enter func284,ntmps284;go_wp2_with(go_at_call 278;refine(px _ _ _ _).mono ?_;rintro e w' ⟨rfl,rfl⟩)
 go_loop [3,9] (λa i=>∃(k:Nat) (r:Int),k<=l.length/\i=.int .i64 k/\a=.int .i64 r/\-9223372036854775808<=r/\r<=9223372036854775807/\Hid (fx r (l.drop k)=fin)) (λ_ i=>ys.length-(intOf i).toNat)
 case atStart=>exact⟨0,0,au _,rfl,rfl,by omega,by omega,D⟩
 case round =>
  obtain⟨k,r,L,rfl,rfl,F,G,B⟩:=hrel;by_cases J:k<ys.length
  ·obtain⟨y,hy⟩:∃y,ys[k]?=some y:=⟨_,aq J⟩;obtain⟨u,hu⟩:∃u,l[k]?=some u:=⟨_,aq RM⟩;obtain⟨b,rfl,hc⟩:=C.cell hy;have p:=B.Z;have hd:l.drop k=u :: l.drop (k+1):=by
    rw[aR RM];rw[aq RM]at hu;cases hu;rfl
   rw[hd]at p;rcases(hv k u y hu hy).fP with⟨j,rfl,rfl,hj⟩|⟨d,rfl,rfl,hb⟩|⟨R,Q,S,T,O,rfl,rfl,P,M,_,_⟩
   ·have E:=p;go_wp2_with(go_at_call 280;refine(eD _ _).mono ?_;rintro e w2 ⟨rfl,rfl⟩);exact⟨⟨k+1,bY.wrap _,by omega,by go_num,by rw[qF],(kg _).1,(kg _).2,E⟩,by simp[intOf];omega⟩
   ·have z:=p.symm;subst z;go_wp2_with fail;refine(gf _ _ _ (.inl rfl)).mono ?_;rintro e w'⟨rfl,rfl⟩;exact⟨rfl,PV.err (Uz _ _)⟩
   have z:=p.symm;subst z;go_wp2_with fail;refine(gf _ _ _ (.inr rfl)).mono ?_;rintro e w'⟨rfl,rfl⟩;exact⟨rfl,PV.err (Uz _ _)⟩
  have p:=B.Z;rw[aQ RM]at p;have z:=p.symm;subst z;go_wp2_with fail;go_ret;exact PV.num (Uz _ _) rfl F G
end
section
open bY
open Tryz
variable{v u:V}{x y:Xa}
attribute [local go_sem] nT nV nW nX nY nZ n_ oc oe
def cT.mX{w:QV}{n:Nat}(h:cT w n v x):(∃i,v=vn i/\x=.iface 219 (.int .i64 i)/\-9223372036854775808<=i/\i<=9223372036854775807) \/((∀i,v≠vn i)/\∃t a,x=.iface t a/\(t=215\/t=248)):=by
 rcases h.fP with h|⟨b,rfl,rfl,hb⟩|⟨p,m,r,z,j,rfl,rfl,l,e,_,_⟩
 ·exact .inl h
 ·exact .inr ⟨λi hi=>(by cases hi),_,_,rfl,.inl rfl⟩
 exact .inr ⟨λi hi=>(by cases hi),_,_,rfl,.inr rfl⟩
def GV(i j):bY.less (vn i) (vn j)=.ok (vn (if i<j then 1 else 0)):=by
 simp[bY.less,vn,bY.bit]
def EW(a b):bY.less (vw a) (vw b)=.ok (vn (if GM a b then 1 else 0)):=rfl
def la(h:(∃i,v=vn i)/\(∀j,u≠vn j)\/(∃b,v=vw b)/\(∀b,u≠vw b)\/∃l,v=vl l):bY.less v u=.error 9:=by
 rcases u with⟨j|b|m⟩
 all_goals rcases h with⟨⟨i,rfl⟩,h⟩|⟨⟨a,rfl⟩,h⟩|⟨l,rfl⟩
 all_goals first|rfl|exact absurd rfl (h _)
def GW(w)(hx:cT w 3 v x)(hy:cT w 3 u y):Calls prog 307 #[.agg #[x,y]] w (PV w (bY.less v u)):=by
 have n:∀o,Xb w (w.alloc o):=λo=>(Uz _ _).alloc (af _) _;rcases hx.fP with⟨i,rfl,rfl,hi⟩|⟨b,rfl,rfl,hb⟩|⟨m,l,s,ys,B,rfl,rfl,r,hl,z,hv⟩
 ·rcases hy.mX with⟨j,rfl,rfl,hj⟩|⟨p,t,a,rfl,C⟩
  ·clear hx hy;rw[GV];go_enter func307,ntmps307;go_wp2_with(first|(go_at_call 280;refine(eD _ _).mono ?_;rintro e w2 ⟨rfl,rfl⟩)|(go_at_call 317;refine(rI _ _).mono ?_;rintro e w2 ⟨rfl,rfl⟩))
   all_goals go_ret
   all_goals exact PV.num (n _) rfl RM RM
  rw[la (.inl ⟨⟨_,rfl⟩,p⟩)];clear hx hy p;go_enter func307,ntmps307;go_wp2_with fail;refine(gf _ _ _ C).mono ?_;rintro e w2⟨rfl,rfl⟩;exact⟨rfl,PV.err (n _)⟩
 ·rcases hy.fP with⟨j,rfl,rfl,hj⟩|⟨c,rfl,rfl,hc⟩|⟨m,l,s,ys,B,rfl,rfl,r,hl,z,hv⟩
  ·rw[la (.inr (.inl ⟨⟨_,rfl⟩,λb h=>Sa⟩))];clear hx hy;go_enter func307,ntmps307;go_wp2_with fail;exact⟨rfl,PV.err (n _)⟩
  ·rw[EW,GM,<-UC,<-UC];clear hx hy;go_enter func307,ntmps307;go_wp2_with(go_at_call 317;refine(rI _ _).mono ?_;rintro e w2 ⟨rfl,rfl⟩)
   all_goals go_ret
   all_goals exact PV.num (n _) rfl RM RM
  rw[la (.inr (.inl ⟨⟨_,rfl⟩,λb h=>Sa⟩))];clear hx hy;go_enter func307,ntmps307;go_wp2_with fail;exact⟨rfl,PV.err (n _)⟩
 rw[la (.inr (.inr ⟨_,rfl⟩))];obtain⟨t,a,rfl⟩:=hy.one;obtain⟨o,c,rfl⟩:=r.len;clear hx hy;go_enter func307,ntmps307;go_wp2_with fail;exact⟨rfl,PV.err (n _)⟩
def yu{w:QV}{b o:Nat}(h:w.cell? ⟨b,o,none⟩=some x):b<w.1.size:=by
 rcases Qh b w.1.size with h'|h'
 ·exact h'
 simp[World.cell?,QH h']at h
def tg(h:(∃i,v=vn i)\/(∀j,u≠vn j)):gd v u=.error 9:=by
 rcases u with⟨j|b|m⟩
 ·rcases h with⟨i,rfl⟩|h
  ·rfl
  exact absurd rfl (h _)
 ·rfl
 rfl
def M7(w)(hx:cT w 3 v x)(hy:cT w 3 u y):Calls prog 311 #[.agg #[x,y]] w (PV w (gd v u)):=by
 have z:∀o,Xb w (w.alloc o):=λo=>(Uz _ _).alloc (af _) _;rcases hy.mX with⟨j,rfl,rfl,hj⟩|⟨F,t,a,rfl,I⟩
 ·rcases hx.fP with⟨i,rfl,rfl,hi⟩|⟨b,rfl,rfl,hb⟩|⟨m,l,s,ys,L,rfl,rfl,r,hl,J,hv⟩
  ·rw[tg (.inl ⟨_,rfl⟩)];clear hx hy;go_enter func311,ntmps311;go_wp2_with(go_at_call 280;refine(eD _ _).mono ?_;rintro e w2 ⟨rfl,rfl⟩);exact⟨rfl,PV.err (z _)⟩
  ·clear hx hy;cases n:bY.place j b.size with
   |ok k =>
    have r:gd (vw b.1.1) (vn j)=.ok (vw ((b.1.1.drop k).take 1)):=by
     simp only[gd,vw,vn,qG,n]
    rw[r];obtain⟨rfl,E⟩:=zZ n;clear r;go_enter func311,ntmps311;go_wp2_with(first|(go_at_call 280;refine(eD _ _).mono ?_;rintro e w2 ⟨rfl,rfl⟩)|(go_at_call 318;refine(wW _ _ _ _ n).mono ?_;rintro e w2 ⟨rfl,rfl⟩));go_ret;exact PV.word (z _) (by rw[UG,Qx]) (by have:=ml b k (k+1);omega)
   |error c =>
    obtain⟨h1,rfl⟩:=py n;have r:gd (vw b.1.1) (vn j)=.error 7:=by
     simp only[gd,vw,vn,qG,n]
    rw[r];clear r;go_enter func311,ntmps311;go_wp2_with(go_at_call 280;refine(eD _ _).mono ?_;rintro e w2 ⟨rfl,rfl⟩);refine(wX _ _ _ h1).mono ?_;rintro e w2⟨rfl,rfl⟩;exact⟨rfl,PV.err (z _)⟩
  obtain⟨o,c,rfl⟩:=r.len;cases n:bY.place j ys.length with
  |ok k =>
   have B:gd (vl l) (vn j)=.ok (l[k]?.getD (vn 0)):=by
    simp only[gd,vl,vn,hl,n]
   rw[B];obtain⟨rfl,E⟩:=zZ n;obtain⟨y,hy⟩:∃y,ys[k]?=some y:=⟨_,aq E⟩;obtain⟨u,hu⟩:∃u,l[k]?=some u:=⟨_,aq RM⟩;obtain⟨b,rfl,hc⟩:=r.cell hy;have hval:=hv k u y hu hy;obtain⟨t2,D,rfl⟩:=hval.one;rw[hu];have G:=bZ (cT.le hval (show m<=3 by omega));have C:=z (Obj.cells #[Value.iface 248 (Value.slice (some { block:=b,off:=0,spot:=none }) ys.length c),Value.iface 219 (Value.int IntKind.i64 (k:Int))] 370);have K:(w.alloc (Obj.cells #[Value.iface 248 (Value.slice (some { block:=b,off:=0,spot:=none }) ys.length c),Value.iface 219 (Value.int IntKind.i64 (k:Int))] 370)).cell? ⟨b,k,none⟩=some (.iface t2 D):=(C.cell (p:=⟨b,k,none⟩) (yu hc)).trans hc;clear B hv hx r hval hu hy;go_enter func311,ntmps311;go_wp2_with(first|(go_at_call 280;refine(eD _ _).mono ?_;rintro e w2 ⟨rfl,rfl⟩)|(go_at_call 318;refine(wW _ _ _ _ n).mono ?_;rintro e w2 ⟨rfl,rfl⟩));go_ret;exact PV.ok C (G.Z.keeps (cK.below C))
  |error c2 =>
   obtain⟨h1,rfl⟩:=py n;have B:gd (vl l) (vn j)=.error 7:=by
    simp only[gd,vl,vn,hl,n]
   rw[B];clear B hv hx hy r;go_enter func311,ntmps311;go_wp2_with(go_at_call 280;refine(eD _ _).mono ?_;rintro e w2 ⟨rfl,rfl⟩);refine(wX _ _ _ h1).mono ?_;rintro e w2⟨rfl,rfl⟩;exact⟨rfl,PV.err (z _)⟩
 rw[tg (.inr F)];obtain⟨t2,D,rfl⟩:=hx.one;clear hx hy F;go_enter func311,ntmps311;go_wp2_with fail;refine(gf _ _ _ I).mono ?_;rintro e w2⟨rfl,rfl⟩;exact⟨rfl,PV.err (z _)⟩
end
section
open Tryz
attribute [local go_sem] nT nV nW nX nY nZ n_ oc oe
def EX(i w):Calls prog 338 #[.int .i64 i] w λe w'=>e=.returned (.int .i64 0)/\w'=w:=by
 go_enter func338,ntmps338;go_wp2;go_ret;exact⟨rfl,rfl⟩
def EY(b w):Calls prog 337 #[.string b] w λe w'=>e=.returned (.int .i64 0)/\w'=w:=by
 go_enter func337,ntmps337;go_wp2;go_ret;exact⟨rfl,rfl⟩
def je(n:Nat)(l:List bY.V)(a:Nat):Nat:=l.foldl (λa u=>max a (bY.p8 n u)) a
def KE(n i):bY.p8 n (bY.vn i)=0:=Sb
def GX(n b):bY.p8 n (bY.vw b)=0:=Sb
def GY(n l):bY.p8 (n+1) (bY.vl l)=je n l 0+1:=rfl
def pz{n B:Nat}(h:∀u,bY.p8 n u<=B):∀l a,a<=B->je n l a<=B
 |[],_,b=>b
 |u :: l,a,b=>pz h l (max a (bY.p8 n u)) (by have:=h u;omega)
def yv:∀n v,bY.p8 n v<=n
 |0,⟨.inl _⟩=>af _
 |0,⟨.inr (.inl _)⟩=>af _
 |0,⟨.inr (.inr _)⟩=>af _
 |n+1,⟨.inl _⟩=>au _
 |n+1,⟨.inr (.inl _)⟩=>au _
 |n+1,⟨.inr (.inr l)⟩=>by
  show je n l 0+1<=n+1;have:=pz (λu=>yv n u) l 0 (au _);omega
def GZ(a w) : (method 499 219 a "larder/values.nest").run prog w = .ok (338, a) w := by kernel_rfl
def G0(a w) : (method 499 215 a "larder/values.nest").run prog w = .ok (337, a) w := by kernel_rfl
def G1(a w) : (method 499 248 a "larder/values.nest").run prog w = .ok (302, a) w := by kernel_rfl
attribute [local go_sem] GZ G0 G1
def ud(n:Nat):Prop :=∀(l:List bY.V) (s:Xa) (ys:List Xa) (w:QV),fX w s ys->l.length=ys.length->l.length<=1000->(∀(i:Nat) u y,l[i]?=some u->ys[i]?=some y->cT w n u y) ->Calls prog 302 #[s] w λe w'=>e=.returned (.int .i64 ((je n l 0+1:Nat):Int))/\w'=w
def ue(n)(S:n<=100)(E:∀m,n=m+1->ud m):ud n:=by
 intro l s ys w D hl V hv;obtain⟨o,c,rfl⟩:=D.len;generalize G:je n l 0=fin;have C:=bZ G;have Z:fin<=100:=by
  rw[<-G];exact pz (λu=>ah (yv n u) S) l 0 (au _)
 clear G;go_enter func302,ntmps302;go_wp2_with fail
 go_loop [3,8] (λa i=>∃(k p:Nat),k<=l.length/\i=.int .i64 k/\a=.int .i64 p/\p<=100/\Hid (je n (l.drop k) p=fin)) (λ_ i=>ys.length-(intOf i).toNat)
 case atStart=>exact⟨0,0,au _,rfl,rfl,by omega,C⟩
 case round =>
  obtain⟨k,p,Y,rfl,rfl,X,B⟩:=hrel;by_cases Q:k<ys.length
  ·obtain⟨y,hy⟩:∃y,ys[k]?=some y:=⟨_,aq Q⟩;obtain⟨u,hu⟩:∃u,l[k]?=some u:=⟨_,aq RM⟩;obtain⟨b,rfl,hc⟩:=D.cell hy;have r:=B.Z;have hd:l.drop k=u :: l.drop (k+1):=by
    rw[aR RM];rw[aq RM]at hu;cases hu;rfl
   rw[hd]at r;have z:Hid (je n (l.drop (k+1)) (max p (bY.p8 n u))=fin):=r;have J:=yv n u;rcases(hv k u y hu hy).fP with⟨j,rfl,rfl,hj⟩|⟨d,rfl,rfl,hb⟩|⟨M,L,T,U,R,rfl,rfl,I,P,h2,K⟩
   ·rw[KE]at z;clear r B C hd hv hu hy D E;go_wp2_with(go_at_call 338;refine(EX _ _).mono ?_;rintro e w2 ⟨rfl,rfl⟩);exact⟨⟨k+1,max p 0,by omega,by go_num,by simp,by omega,z⟩,by simp[intOf];omega⟩
   ·rw[GX]at z;clear r B C hd hv hu hy D E;go_wp2_with(go_at_call 337;refine(EY _ _).mono ?_;rintro e w2 ⟨rfl,rfl⟩);exact⟨⟨k+1,max p 0,by omega,by go_num,by simp,by omega,z⟩,by simp[intOf];omega⟩
   subst R;have F:=E M rfl L T U w I P RM K;rw[GY]at z J;obtain⟨o2,c2,rfl⟩:=I.len;generalize je M L 0+1=q at z F J;have N:=bZ F;clear r B C hd hv hu hy D E F K I;go_wp2_with(go_at_call 302;refine N.Z.mono ?_;rintro e w2 ⟨rfl,rfl⟩);exact⟨⟨k+1,max p q,by omega,by go_num,by congr 1;omega,by omega,z⟩,by simp[intOf];omega⟩
  have r:=B.Z;rw[aQ RM]at r;have O:fin=p:=r.symm;subst O;clear r B C;go_wp2_with fail;go_ret;exact⟨rfl,rfl⟩
def wY:∀n,n<=100->ud n
 |0,h=>ue 0 h (λm b=>by omega)
 |n+1,h=>ue (n+1) h (λm b=>by
  obtain rfl:n=m:=RM;exact wY n RM)
def p9(n k):∀l a,je n l a<=k↔a<=k/\∀u∈l,bY.p8 n u<=k
 |[],a=>by simp[je]
 |u :: l,a=>by
  show je n l (max a (bY.p8 n u))<=k↔_;rw[p9 n k l];simp only[aP,forall_eq_or_imp,<-and_assoc];have:max a (bY.p8 n u)<=k↔a<=k/\bY.p8 n u<=k:=RM;rw[this]
def tj:∀n v,bY.mj n v=true->∀k,(bY.mj k v=true↔bY.p8 n v<=k)
 |n,⟨.inl i⟩,_,k=>by
  have h1:bY.mj k ⟨.inl i⟩=true:=by cases k<;>rfl
  have h2:bY.p8 n ⟨.inl i⟩=0:=Sb;simp[h1,h2]
 |n,⟨.inr (.inl i)⟩,_,k=>by
  have h1:bY.mj k ⟨.inr (.inl i)⟩=true:=by cases k<;>rfl
  have h2:bY.p8 n ⟨.inr (.inl i)⟩=0:=Sb;simp[h1,h2]
 |0,⟨.inr (.inr l)⟩,h,_=>by cases h
 |n+1,⟨.inr (.inr l)⟩,h,k=>by
  have b:∀u∈l,bY.mj n u=true:=by
   have h':l.all (bY.mj n)=true:=h;simpa using h'
  show _↔je n l 0+1<=k;cases k with
  |zero=>exact⟨λh=>Sa,λh=>RM⟩
  |succ k =>
   show l.all (bY.mj k)=true↔_;rw[Nat.succ_le_succ_iff,p9];simp only[P_,au,true_and];constructor
   ·intro h u hu;exact(tj n u (b u hu) k).1 (h u hu)
   intro h u hu;exact(tj n u (b u hu) k).2 (h u hu)
def cT.mj{w:QV}:∀{n:Nat} {v:bY.V} {x:Xa},cT w n v x->bY.mj n v=true:=by
 intro n
 induction n with
 |zero =>
  intro v x h;rcases h with⟨i,rfl,_⟩|⟨b,rfl,_⟩
  ·rfl
  rfl
 |succ n e =>
  intro v x h;rcases h with(⟨i,rfl,_⟩|⟨b,rfl,_⟩)|⟨l,s,ys,rfl,_,_,hl,_,hv⟩
  ·rfl
  ·rfl
  show l.all (bY.mj n)=true;rw[P_];intro u hu;obtain⟨i,hi,rfl⟩:=QW hu;exact e (hv i _ _ (aq hi) (aq RM))
def cT.down{w:QV}:∀{n k:Nat} {v:bY.V} {x:Xa},cT w n v x->bY.mj k v=true->cT w k v x:=by
 intro n
 induction n with
 |zero=>intro k v x h _;exact .leaf h
 |succ n p =>
  intro k v x h b;rcases h with h|⟨l,s,ys,rfl,h2,e,hl,j,hv⟩
  ·exact .leaf h
  cases k with
  |zero=>cases b
  |succ k =>
   have m:∀u∈l,bY.mj k u=true:=by
    have h':l.all (bY.mj k)=true:=b;simpa using h'
   exact .inr ⟨l,s,ys,rfl,h2,e,hl,j,λi u y hu hy=>p (hv i u y hu hy) (m u (aL hu))⟩
end
section
open Tryz
variable{v:Xa}{ys:List Xa}
def tt:(prog.info? 111).map (λi=>(i.zero,i.size,i.bytes))=some (some .nilIface,1,16):=RO
def Ok(t)(e:prog.underlying t=some (.slice 111))(w a n c n' b):(binOp .eql t (.slice a n c) (.slice none n' b)).run prog w=.ok (.bool a.isNone) w :=Lib.run_eql_slice_nil w _ _ a n c n' b e
def fX.G2{w:QV}{e n:Nat}(h:w.ownsRow e 111 1 v n ys):fX w v ys:=by
 obtain⟨hl,h⟩:=h;rw[Qd]at hl;rcases h with⟨rfl,rfl⟩|⟨g,j,l,rfl,_,h2,p,r,m,b⟩
 ·exact .inl ⟨rfl,QN hl⟩
 rw[Qd]at m b;refine .inr ⟨g,j,l,(0,0),by rw[hl],by omega,h2,by omega,λi hi=>?_⟩;rw[<-b,Rt,ag RM];simp
def EZ(s ys w)(C:fX w s ys)(I:ys.length<=100000)(h1:∀u∈ys,u.oneCell'=true):Calls prog 301 #[s] w λe w'=>∃v,e=.returned v/\fX w' v ys/\Xb w w':=by
 have K:=Ok 247 underlying247;rcases C with⟨rfl,rfl⟩|⟨b,l,cs,fz,rfl,h2,m,n,p⟩
 ·go_enter func301,ntmps301;go_wp2;go_ret;exact⟨_,rfl,.inl ⟨rfl,rfl⟩,Uz _ _⟩
 have hc:∀j u,ys[j]?=some u->w.cell? ⟨b,0+j,none⟩=some u:=λj u hj=>by
  obtain⟨b',e,h⟩:=fX.cell (.inr ⟨b,l,cs,fz,rfl,h2,m,n,p⟩) hj;cases e;rw[aI];exact h
 obtain⟨G,y,D,E,F⟩:=UJ tt;have A:Aside (∀j u,ys[j]?=some u->w.cell? ⟨b,0+j,none⟩=some u):=hc;clear hc m n p;go_enter func301,ntmps301;go_wp2_with(at_builtin;refine US _ rfl _ _ 247 rfl w.1.size 111 G _ 1 16 underlying247 y D E F rfl RZ _ _ _ rfl (World.ownsRow_made w #[] 0 (af _) (au _) R2) ⟨b,0,none⟩ ys.length l ys rfl ?qc1 ?qc2 ?qc3 ?qc4 ?qc5 ?qc6 ?_)
 case qc1=>rw[Qd]
 case qc2 =>
  intro j u hj;rw[Addr.add_lit];exact Lib.cell?_alloc_some _ (A.out j u hj)
 case qc3=>exact h1
 case qc4=>unfold maxLen;omega
 case qc5=>omega
 case qc6=>simp
 intro v' w1 B r J;go_wp2;go_ret;exact⟨v',rfl,fX.G2 (by simpa using B),((Uz _ w).alloc (af _) _).grown r R2 (by intro k z;simp[Value.ownBlock]at z;omega)⟩
end
section
open bY
open Tryz
variable{n c:Nat}{l:List V}{ys:List Xa}{o:Option Addr}
attribute [local go_sem] nT nV nW nX nY nZ n_ oc oe
def iW(w:QV)(n:Nat)(l:List V)(ys:List Xa):Prop :=l.length=ys.length/\∀(i:Nat) u y,l[i]?=some u->ys[i]?=some y->cT w n u y
def iW.keeps{w w':QV}(h:iW w n l ys)(b:cK w w'):iW w' n l ys :=⟨h.1,λi u y hu hy=>(h.2 i u y hu hy).keeps b⟩
def iW.one{w:QV}(h:iW w n l ys):∀y∈ys,y.oneCell'=true:=by
 intro y hy;obtain⟨i,hi,rfl⟩:=QW hy;obtain⟨t,a,h⟩:=(h.2 i _ _ (aq (by rw[h.1];exact hi)) (aq hi)).one;rw[h];rfl
def PL(w:QV)(r:Except Nat V)(e:Ending)(w':QV):Prop :=Xb w w'/\(∀v,r=.ok v->∃o n c,e=.returned (.slice o n c)/\cT w' 3 v (.iface 248 (.slice o n c)))/\(∀c,r=.error c->e=gE c)
def PL.ok{w w':QV}{v:V}(b:Xb w w')(h:cT w' 3 v (.iface 248 (.slice o n c))):PL w (.ok v) (.returned (.slice o n c)) w' :=⟨b,λu hu=>(by cases hu;exact⟨o,n,c,rfl,h⟩),λc hc=>(by cases hc)⟩
def PL.err{w w':QV}(b:Xb w w'):PL w (.error c) (gE c) w' :=⟨b,λu hu=>(by cases hu),λc hc=>(by cases hc;rfl)⟩
def mY(l s ys w)(E:fX w s ys)(hv:iW w 3 l ys)(M:l.length<=1000):Calls prog 279 #[s] w (PL w (dX l)):=by
 have hc:=EZ s ys w E (by rw[<-hv.1];omega) hv.one;obtain⟨o,c,rfl⟩:=E.len;have m:=bZ hc;have D:=λ(w':QV) (v:Xa) (K:cK w w') (P:fX w' v ys)=>wY 3 RM l v ys w' P hv.1 M (hv.keeps K).2;have p:=bZ D;have hl:=hv.1;have C:(je 3 l 0<=2)↔l.all (bY.mj 2)=true:=by
  rw[p9];simp only[au,true_and,P_];have r:∀u∈l,bY.mj 3 u=true:=λu hu=>by
   obtain⟨i,hi,rfl⟩:=QW hu;exact(hv.2 i _ _ (aq hi) (aq RM)).mj
  exact⟨λh u hu=>(tj 3 u (r u hu) 2).2 (h u hu),λh u hu=>(tj 3 u (r u hu) 2).1 (h u hu)⟩
 have B:=bZ hv;have L:je 3 l 0<=3:=pz (λu=>yv 3 u) l 0 (au _);generalize N:je 3 l 0=q at D p C L;clear hc D hv E N;by_cases J:12<l.length
 ·have z:dX l=.error 10:=by rw[dX,ag (.inl J)]
  rw[z];go_enter func279,ntmps279;go_wp2_with(go_at_call 301;refine m.Z.mono ?_;rintro e w1 ⟨v,rfl,b,j⟩;(obtain⟨F,c1,rfl⟩:=b.len));exact⟨rfl,PL.err j⟩
 have Q:((ys.length:Int))<=12:=RM;by_cases hb:l.all (bY.mj 2)=true
 ·have z:dX l=.ok (vl l):=by rw[dX,ae (by rw[hb];simp;omega)]
  rw[z];have O:=C.2 hb;go_enter func279,ntmps279;go_wp2_with(go_at_call 301;refine m.Z.mono ?_;rintro e w1 ⟨v,rfl,b,j⟩;(obtain⟨F,c1,rfl⟩:=b.len));refine(p.Z _ _ (cK.below j) b).mono ?_;rintro e w2⟨rfl,rfl⟩;have G:=B.Z.keeps (cK.below j);have r:∀u∈l,bY.mj 2 u=true:=Sq;have hval:cT w2 3 (vl l) (.iface 248 (.slice F ys.length c1)):=.inr ⟨l,_,ys,rfl,rfl,b,hl,by omega,λi u y hu hy=>(G.2 i u y hu hy).down (r u (aL hu))⟩;have I:=bZ hval;clear m p B G r hval b;go_wp2_with fail;go_ret;exact PL.ok j I.Z
 have z:dX l=.error 10:=by rw[dX,ag (.inr Sq)]
 rw[z];have O:3<=q:=by
  rcases Qh q 3 with h|h
  ·exact absurd (C.1 RM) hb
  exact h
 go_enter func279,ntmps279;go_wp2_with(go_at_call 301;refine m.Z.mono ?_;rintro e w1 ⟨v,rfl,b,j⟩;(obtain⟨F,c1,rfl⟩:=b.len));refine(p.Z _ _ (cK.below j) b).mono ?_;rintro e w2⟨rfl,rfl⟩;clear m p B b;go_wp2_with fail;exact⟨rfl,PL.err j⟩
end
section
open Tryz
variable{ops:Array Oper}{Q:Exit->Act->QV->Prop}{v:Xa}{xs:List Xa}
attribute [local go_sem] nT nV nW nX nY nZ n_ oc oe
def G3(n:Nat)(w)(m:0<n)(B:n<=1000):Calls prog 319 #[.slice none 0 0,.int .i64 n] w λe w'=>∃v,e=.returned v/\w'.ownsRow w.1.size 111 1 v 0 []/\Xb w w':=by
 obtain⟨z,r,u,C,y⟩:=UJ tt;have b:=Lib.run_append_nil_zeros (P:=prog) w 248 3 248 111 z .nilIface .i64 .i64 underlying248 underlying3 r u n m RM RM SI;have p:=grownCap_ge w n 0 111;have j:=UU w n 0 111 R6;generalize grownCap w n 0 111=l at b p j;go_enter func319,ntmps319;go_wp2_with(at_builtin;refine Lib.wpList_append_run _ rfl _ _ 248 3 rfl _ _ rfl rfl _ _ b ?_);go_ret;refine⟨_,rfl,⟨rfl,.inr ⟨w.1.size,l,_,rfl,af _,heap_alloc_new w _,au _,j,?_,by simp⟩⟩,((Uz _ w).alloc (af _) _).drew⟩;simp[size_zeroCells];omega
def E1(w):Calls prog 319 #[.slice none 0 0,.int .i64 0] w λe w'=>e=.returned (.slice none 0 0)/\w'=w:=by
 go_enter func319,ntmps319;go_wp2;go_ret;exact⟨rfl,rfl⟩
def G4(n:Nat)(w)(j:n<=1000):Calls prog 319 #[.slice none 0 0,.int .i64 n] w λe w'=>∃v,e=.returned v/\w'.ownsRow w.1.size 111 1 v 0 []/\Xb w w':=by
 rcases Nat.eq_zero_or_pos n with rfl|b
 ·refine(E1 w).mono ?_;rintro e w'⟨rfl,rfl⟩;exact⟨_,rfl,⟨rfl,.inl ⟨rfl,rfl⟩⟩,Uz _ _⟩
 exact G3 n w b j
def lS{w:QV}{rest:List Oper}{o:Oper}{a:Act}(y:o.guard=none)(s x t)(B:prog.underlying t=some (.slice 111))(m:o.op=.call { callee:=.builtin .append,args:=#[s,x],argTypes:=#[t,t] })(l v n xs)(hs:a.eval s=v)(p:w.ownsRow l 111 1 v n xs)(D ys)(hx:a.eval x=D)(K:fX w D ys)(h1:∀u∈ys,u.oneCell'=true)(O:n+ys.length<=100000)(I:l<=w.1.size)(h:∀v' w',w'.ownsRow l 111 1 v' (n+ys.length) (xs++ys)->w.grownBy w' v.ownBlock->wpList prog ops Q rest (a.put o.dst v') w'):wpList prog ops Q (o :: rest) a w:=by
 obtain⟨C,z,L,M,N⟩:=UJ tt;rcases K with⟨rfl,rfl⟩|⟨b,r,cs,fz,rfl,h2,E,F,G⟩
 ·exact wpList_append_own_none y s x t m l 111 C 1 B z v n xs hs p hx (h v w SC (UD _ _))
 refine US _ y s x t m l 111 C _ 1 16 B z L M N rfl RZ v n xs hs p ⟨b,0,none⟩ _ r ys hx (by rw[Qd]) (λj u hj=>?_) h1 R6 RM I (λv' w' m J _=>h v' w' m J);obtain⟨b',e,hc⟩:=fX.cell (.inr ⟨b,r,cs,fz,rfl,h2,E,F,G⟩) hj;cases e;rw[Addr.add_lit,aI];exact hc
def z7{w w':QV}{b n:Nat}(m:w.ownsRow b 111 1 v n xs)(h:w.grownBy w' v.ownBlock){w0:QV}(j:Below b w0 w)(hb:b<=w.1.size):Below b w0 w':=by
 refine j.grown h hb (λk e=>?_);obtain⟨_,⟨rfl,_⟩|⟨g,p,r,rfl,l,_⟩⟩:=m
 ·cases e
 cases e;exact l
def Cd(E F l n b fz w)(hb:w.1[b]?=some (.cells #[E,F] 248 fz))(h1:fX w E l)(h2:fX w F n)(P:l.length<=100)(R:n.length<=100)(I:∀u∈l,u.oneCell'=true)(J:∀u∈n,u.oneCell'=true):Calls prog 315 #[.slice (some ⟨b,0,none⟩) 2 2] w λe w'=>∃v,e=.returned v/\fX w' v (l++n)/\Xb w w':=by
 obtain⟨N,c1,rfl⟩:=h1.len;obtain⟨O,c2,rfl⟩:=h2.len;have D:=cj hb;have C:∀w',Below _ w w'->w'.cell? ⟨b,0,none⟩=some (.slice N l.length c1)/\w'.cell? ⟨b,1,none⟩=some (.slice O n.length c2):=λw' j =>
  ⟨(j.cell (p:=⟨b,0,none⟩) D).trans (by simp[World.cell?,hb]),(j.cell (p:=⟨b,1,none⟩) D).trans (by simp[World.cell?,hb])⟩
 obtain⟨e1,e2⟩:=C w (Uz _ _);have r:=bZ C;go_enter func315,ntmps315;go_wp2_with fail
 go_loop [3,11] (λa i=>(i=.int .i64 0/\a=.int .i64 0)\/(i=.int .i64 1/\a=.int .i64 (l.length:Int))\/(i=.int .i64 2/\a=.int .i64 ((l.length+n.length:Nat):Int))) (λ_ i=>2-(intOf i).toNat)
 case atStart=>exact .inl ⟨rfl,rfl⟩
 case round =>
  rcases hrel with⟨rfl,rfl⟩|⟨rfl,rfl⟩|⟨rfl,rfl⟩
  ·clear r;go_wp2_with fail;exact⟨.inr (.inl ⟨rfl,by simp⟩),by simp[intOf]⟩
  ·clear r;go_wp2_with fail;exact⟨.inr (.inr ⟨rfl,by simp⟩),by simp[intOf]⟩
  go_wp2_with(go_at_call 319;refine(G4 _ _ RM).mono ?_;rintro e w1 ⟨v1,rfl,K,G⟩)
  go_loopw [6,27] (λv i wr=>Below _ w wr/\((i=.int .i64 0/\wr.ownsRow _ 111 1 v 0 [])\/(i=.int .i64 1/\wr.ownsRow _ 111 1 v _ l)\/(i=.int .i64 2/\wr.ownsRow _ 111 1 v _ _))) (λ_ i _=>2-(intOf i).toNat)
  case atStart=>exact⟨G,.inl ⟨rfl,K⟩⟩
  case round =>
   obtain⟨j,hrel⟩:=hrel;obtain⟨e1,e2⟩:=r.Z _ j;have y:=j.size;rcases hrel with⟨rfl,m⟩|⟨rfl,m⟩|⟨rfl,m⟩
   ·have L:=h1.keeps (cK.below j);go_wp2_with(at_builtin;refine lS rfl _ _ 248 underlying248 rfl _ _ _ _ rfl m _ l rfl L I RM y ?_;intro v' w' B z);exact⟨⟨z7 m z j y,.inr (.inl ⟨rfl,by simpa using B⟩)⟩,by simp[intOf]⟩
   ·have M:=h2.keeps (cK.below j);go_wp2_with(at_builtin;refine lS rfl _ _ 248 underlying248 rfl _ _ _ _ rfl m _ n rfl M J RM y ?_;intro v' w' B z);exact⟨⟨z7 m z j y,.inr (.inr ⟨rfl,B⟩)⟩,by simp[intOf]⟩
   clear r;go_wp2_with fail;go_ret;exact⟨_,rfl,fX.G2 m,j⟩
end
section
open bY
open Tryz
variable{n:Nat}{l:List V}{ys:List Xa}
attribute [local go_sem] nT nV nW nX nY nZ n_ oc oe
def jV{v u:V}(h:(∃i,v=vn i)/\(∀j,u≠vn j)\/(∃b,v=vw b)/\(∀b,u≠vw b)\/(∃l,v=vl l)/\(∀l,u≠vl l)):plus v u=.error 9:=by
 rcases u with⟨j|b|m⟩
 all_goals rcases h with⟨⟨i,rfl⟩,h⟩|⟨⟨a,rfl⟩,h⟩|⟨⟨l,rfl⟩,h⟩
 all_goals first|rfl|exact absurd rfl (h _)
def iW.up{w:QV}(h:iW w n l ys):iW w (n+1) l ys :=⟨h.1,λi u y hu hy=>(h.2 i u y hu hy).up⟩
def iW.append{w:QV}{m:List V}{zs:List Xa}(h:iW w n l ys)(h':iW w n m zs):iW w n (l++m) (ys++zs):=by
 refine⟨by simp[h.1,h'.1],λi u y hu hy=>?_⟩;rcases Qh i l.length with hi|hi
 ·rw[aU hi]at hu;rw[aU (by rw[<-h.1];exact hi)]at hy;exact h.2 i u y hu hy
 rw[aY hi]at hu;rw[aY (by rw[<-h.1];exact hi),<-h.1]at hy;exact h'.2 _ u y hu hy
def G5{v u:V}{x y:Xa}(w)(hx:cT w 3 v x)(hy:cT w 3 u y):Calls prog 303 #[.agg #[x,y]] w (PV w (plus v u)):=by
 have p:∀o,Xb w (w.alloc o):=λo=>(Uz _ _).alloc (af _) _;rcases hx.fP with⟨i,rfl,rfl,hi⟩|⟨b,rfl,rfl,hb⟩|⟨m,l,s,ys,hm,rfl,rfl,C,hl,aa,hv⟩
 ·rcases hy.mX with⟨j,rfl,rfl,hj⟩|⟨S,t,a,rfl,ht⟩
  ·clear hx hy;show Calls _ _ _ _ (PV w (.ok (vn (bY.wrap (i+j)))));go_enter func303,ntmps303;go_wp2_with(go_at_call 280;refine(eD _ _).mono ?_;rintro e w2 ⟨rfl,rfl⟩);go_ret;exact PV.num (p _) (by rw[qF]) (kg _).1 (kg _).2
  rw[jV (.inl ⟨⟨_,rfl⟩,S⟩)];clear hx hy S;go_enter func303,ntmps303;go_wp2_with fail;refine(gf _ _ _ ht).mono ?_;rintro e w2⟨rfl,rfl⟩;exact⟨rfl,PV.err (p _)⟩
 ·rcases hy.fP with⟨j,rfl,rfl,hj⟩|⟨c,rfl,rfl,hc⟩|⟨m,l,s,ys,hm,rfl,rfl,C,hl,aa,hv⟩
  ·rw[jV (.inr (.inl ⟨⟨_,rfl⟩,λb h=>Sa⟩))];clear hx hy;go_enter func303,ntmps303;go_wp2_with fail;exact⟨rfl,PV.err (p _)⟩
  ·clear hx hy;by_cases F:30<b.size+c.size
   ·have r:plus (vw b.1.1) (vw c.1.1)=.error 10:=by
     simp only[plus,vw,qG];rw[ag F]
    rw[r];go_enter func303,ntmps303;go_wp2_with fail;refine(KA _ _ _ hb hc F).mono ?_;rintro e w2⟨rfl,rfl⟩;exact⟨rfl,PV.err (p _)⟩
   have r:plus (vw b.1.1) (vw c.1.1)=.ok (vw (b.1.1++c.1.1)):=by
    simp only[plus,vw,qG];rw[ae F]
   rw[r];go_enter func303,ntmps303;go_wp2_with(go_at_call 314;refine(Kz _ _ _ RM).mono ?_;rintro e w2 ⟨rfl,rfl⟩);go_ret;exact PV.word (p _) R2 R5
  rw[jV (.inr (.inl ⟨⟨_,rfl⟩,λb h=>Sa⟩))];clear hx hy;go_enter func303,ntmps303;go_wp2_with fail;exact⟨rfl,PV.err (p _)⟩
 obtain⟨o,c,rfl⟩:=C.len;rcases hy.fP with⟨j,rfl,rfl,hj⟩|⟨c,rfl,rfl,hc⟩|⟨m2,D,s2,z,am,rfl,rfl,K,R,ak,M⟩
 ·rw[jV (.inr (.inr ⟨⟨_,rfl⟩,λb h=>Sa⟩))];clear hx hy hv;go_enter func303,ntmps303;go_wp2_with fail;refine(k_ _ _ _ (.inr rfl)).mono ?_;rintro e w2⟨rfl,rfl⟩;exact⟨rfl,PV.err (p _)⟩
 ·rw[jV (.inr (.inr ⟨⟨_,rfl⟩,λb h=>Sa⟩))];clear hx hy hv;go_enter func303,ntmps303;go_wp2_with fail;refine(k_ _ _ _ (.inl rfl)).mono ?_;rintro e w2⟨rfl,rfl⟩;exact⟨rfl,PV.err (p _)⟩
 obtain⟨Y,c2,rfl⟩:=K.len;obtain rfl:m=2:=RM;obtain rfl:m2=2:=RM;show Calls _ _ _ _ (PV w (dX (l++D)));generalize r:dX (l++D)=res;have Z:=bZ r;clear r;go_enter func303,ntmps303;go_wp2_with(go_at_call 278;refine(px _ _ _ _).mono ?_;rintro e w2 ⟨rfl,rfl⟩);generalize X:(w.alloc (Obj.cells #[Value.iface 248 (Value.slice o ys.length c),Value.iface 248 (Value.slice Y z.length c2)] 370))=E;have ad:Xb w E:=by rw[<-X];exact p _
 have ai:E.1.size=w.1.size+1:=by rw[<-X];simp
 have G:Xb w (E.alloc (Obj.cells #[Value.slice o ys.length c,Value.slice Y z.length c2] 248)):=ad.alloc RM _;have J:=cK.below G;refine(Cd _ _ ys z (w.1.size+1) (0,0) _ (by rw[<-ai];exact heap_alloc_new E _) (C.keeps J) (K.keeps J) RM RM (iW.one ⟨hl,hv⟩) (iW.one ⟨R,M⟩)).mono ?_;rintro e w2⟨v3,rfl,L,P⟩;have B:Xb w w2:=G.trans (P.mono R5);have U:iW w2 3 (l++D) (ys++z):=iW.append (iW.up (iW.keeps ⟨hl,hv⟩ (cK.below B))) (iW.up (iW.keeps ⟨R,M⟩ (cK.below B)));have I:=mY (l++D) v3 (ys++z) w2 L U R5;obtain⟨o3,c3,rfl⟩:=L.len;rw[aj,Z.Z]at I;have N:=bZ I;clear I U L P J G hv M hx hy C K;go_wp2_with fail;refine N.Z.mono ?_;rintro e w3⟨ab,T,Q⟩;have O:Xb w w3:=B.trans (ab.mono B.size);cases res with
 |error c => 
  obtain rfl:=Q c rfl;exact⟨rfl,PV.err O⟩
 |ok v =>
  obtain⟨o4,n4,c4,rfl,hval⟩:=T v rfl;have HV:=bZ hval;clear hval T Q N;go_wp2_with fail;go_ret;exact PV.ok O HV.Z
end
