/- Out of RBeg. -/
import Derived.Test.YtpekpdimdelncaaGreatDoorP12
set_option maxRecDepth 100000
set_option maxHeartbeats 2000000
set_option linter.defProp false
namespace Go.Proofs.YtpekpdimdelncaaGreatDoor
open Go.RowKit
section
open bY
namespace Ref
variable{r t:a_}
def EK:∀m r n,eG m r=some n->n<m/\∃h:n<r.length,r[n]=39/\∀j (hj:j<n),r[j]' RM≠39:=by
 intro m
 induction m with
 |zero=>intro r n h;simp[eG]at h
 |succ m u =>
  intro r n h;cases r with
  |nil=>simp[eG]at h
  |cons c t =>
   have eq:eG (m+1) (c :: t)=if c=39 then some 0 else if fH c=true then(eG m t).map _ else none:=rfl
   rw[eq]at h;by_cases hc:c=39
   ·rw[ag hc]at h;cases h;exact⟨by omega,by simp,hc,λj hj=>by omega⟩
   rw[ae hc]at h;split at h
   ·cases b:eG m t with
    |none=>rw[b]at h;cases h
    |some k =>
     rw[b]at h;have p:n=k+1:=by simpa using h.symm
     subst p;obtain⟨h1,h2,e,l⟩:=u t k b;refine⟨by omega,by simpa using h2,e,λj hj=>?_⟩;cases j with
     |zero=>exact hc
     |succ j=>exact l j RM
   cases h
def B6{n:Nat}(b:dM (39 :: r)=some n):dN ((39 :: r).take (n+2))=true:=by
 have e1:dM (39 :: r)=eG 31 r:=by simp[dM]
 obtain⟨h1,h2,e,m⟩:=EK 31 r n (e1.symm.trans b);have p:Oj (39 :: r) (n+1):=λj hj u y=>by
  cases j with
  |zero=>omega
  |succ j=>exact m j RM
 have hx:=Dy (l:=39 :: r) (k:=n+1) rfl p RM (by simpa using h2) RM e;rw[b]at hx;by_cases hb:dN ((39 :: r).take (n+1+1))=true
 ·exact hb
 rw[ae hb]at hx;cases hx
def kZ(l t)(p:t=l.take (jq l)):((bY.tok l).1=2/\(dJ t).isSome=true) \/((bY.tok l).1=3/\dJ t=none/\dN t=true) \/((bY.tok l).1=4/\dJ t=none/\dN t=false/\jw t=true/\gU t=false/\∃c r,t=c :: r/\eo c=true) \/((bY.tok l).1=5/\dJ t=none/\dN t=false/\jw t=false/\gU t=true) \/((bY.tok l).1=6/\dJ t=none/\dN t=false/\jw t=false/\∃c,t=[c]/\jl c=true) \/((bY.tok l).1<=1/\dJ t=none/\dN t=false/\jw t=false/\known t=false):=by
 subst p;cases l with
 |nil=>refine Or.inr (Or.inr (Or.inr (Or.inr (Or.inr ⟨by simp[bY.tok],rfl,?_,?_,?_⟩))))<;>rfl
 |cons c r =>
  have B:(bY.tok (c :: r)).1<=1->known ((c :: r).take (jq (c :: r)))=false:=by
   intro b;cases E:known _ with
   |false=>rfl
   |true =>
    exfalso;have h1:=(tS _ _ E).1 rfl;have O:(bY.tok (c :: r)).2=0:=by
     have m:=fZ _ c r rfl;rw[m]at b ⊢;split at b
     ·split at b
      ·simp at b
      rename_i h1 h2;rw[ag h1,ae h2]
     rename_i h1;rw[ae h1];split at b
     ·rename_i h2;rw[ag h2];split at b
      ·simp at b
      rename_i e;rw[ae e];split at b
      ·rename_i z;rw[ag z]
      simp at b
     rename_i h2;rw[ae h2];split at b
     ·rename_i e;rw[ag e];cases y:dM _ with
      |none=>rfl
      |some n=>rw[y]at b;simp[fa]at b
     rename_i e;rw[ae e];split at b
     ·simp at b
     rename_i z;rw[ae z]
    rw[O,List.take_zero]at h1;rw[<-h1]at E
    revert E;decide
  rcases rE c r with⟨h1,e,m⟩|⟨h1,e,m⟩|⟨h1,e,m⟩|⟨h1,z,K,e,m⟩
  ·obtain⟨t,p⟩:=jP _ c r h1;have N:=GF _ (zP _ _) (by rw[p];simp);have F:=zQ (Or.inr h1);have G:eo c=false:=by
    cases hl:eo c with
    |false=>rfl
    |true=>rw[lO hl]at h1;cases h1
   by_cases j:(dT ((c :: r).take (dC dA (c :: r)))).isSome=true
   ·refine Or.inl ⟨by rw[m,ag j],?_⟩;rw[e,N];exact j
   have b:(bY.tok (c :: r)).1<=1:=by rw[m,ae j];exact af _
   refine Or.inr (Or.inr (Or.inr (Or.inr (Or.inr ⟨b,?_,?_,?_,B b⟩))))
   ·rw[e];have:(dJ ((c :: r).take (dC dA (c :: r)))).isSome=false:=by rw[N];simpa using j
    simpa using this
   ·rw[e,p];exact iK F
   rw[e,p];exact mT G
  ·obtain⟨t,p⟩:=jP eF c r (by rw[qA,h1];rfl);have F:=zQ (Or.inl h1);have C:=lO h1;have I:dJ ((c :: r).take (jq (c :: r)))=none:=by rw[e,p];exact iB C
   have J:dN ((c :: r).take (jq (c :: r)))=false:=by rw[e,p];exact iK F
   have hlen:((c :: r).take (dC eF (c :: r))).length=dC eF (c :: r):=by
    rw[P7];have:=mN eF (c :: r);omega
   have R:nS ((c :: r).take (dC eF (c :: r))) 0=true:=by
    unfold nS;rw[aW,P_];exact zP _ _
   have Q:=ko eF c r (by rw[qA,h1];rfl);have P:((c :: r).take (dC eF (c :: r))).head?.map eo=some true:=by rw[p];simp[h1]
   by_cases j:gU ((c :: r).take (dC eF (c :: r)))=true
   ·refine Or.inr (Or.inr (Or.inr (Or.inl ⟨by rw[m,ag j],I,J,?_,by rw[e];exact j⟩)));rw[e];unfold jw;rw[j];simp
   have M:gU ((c :: r).take (dC eF (c :: r)))=false:=by simpa using j
   by_cases L:8<dC eF (c :: r)
   ·have b:(bY.tok (c :: r)).1<=1:=by rw[m,ae j,ag L];exact af _
    refine Or.inr (Or.inr (Or.inr (Or.inr (Or.inr ⟨b,I,J,?_,B b⟩))));rw[e];unfold jw;rw[aF (by rw[hlen];omega)];rfl
   refine Or.inr (Or.inr (Or.inl ⟨by rw[m,ae j,ae L],I,J,?_,by rw[e];exact M,c,t,by rw[e,p],h1⟩));rw[e];unfold jw;rw[aS ⟨by rw[hlen];exact Q,by rw[hlen];omega,P⟩,R,M];rfl
  ·subst h1;have C:dA 39=false:=RZ;have G:eo 39=false:=RZ;cases y:dM (39 :: r) with
   |some n =>
    have D:fw (39 :: r)=n+2:=by unfold fw;rw[y]
    have b:=po y;obtain⟨t,p⟩:∃t,(39 :: r).take (n+2)=39 :: t:=⟨_,P5⟩;refine Or.inr (Or.inl ⟨by rw[m,y];rfl,?_,?_⟩)
    ·rw[e,D,show max (n+2) 1=n+2 by omega,p];exact iB C
    rw[e,D,show max (n+2) 1=n+2 by omega];exact B6 y
   |none =>
    have D:fw (39 :: r)=0:=by unfold fw;rw[y]
    have b:(bY.tok (39 :: r)).1<=1:=by rw[m,y];exact af _
    have u:(39 :: r).take (jq (39 :: r))=[39]:=by rw[e,D];rfl
    refine Or.inr (Or.inr (Or.inr (Or.inr (Or.inr ⟨b,?_,?_,?_,B b⟩))))
    ·rw[u];exact iB C
    ·rw[u];rfl
    rw[u];exact mT G
  have u:(c :: r).take (jq (c :: r))=[c]:=SG;by_cases j:jl c=true
  ·refine Or.inr (Or.inr (Or.inr (Or.inr (Or.inl ⟨by rw[m,ag j],?_,?_,?_,c,u,j⟩))))
   ·rw[u];exact iB h1
   ·rw[u];exact iK K
   rw[u];exact mT z
  have b:(bY.tok (c :: r)).1<=1:=by rw[m,ae j];exact af _
  refine Or.inr (Or.inr (Or.inr (Or.inr (Or.inr ⟨b,?_,?_,?_,B b⟩))))
  ·rw[u];exact iB h1
  ·rw[u];exact iK K
  rw[u];exact mT z
def om(t:a_):Bool :=t==[45]||t==[40]||t==[91]||t==[123]||t==[105,102]||t==[115,105,122,101]||t==[115,117,109]||t==[119,111,114,100]||t==[109,105,110]||t==[109,97,120]||t==[116,114,121]||t==[97,116]||t==[101,97,99,104]||t==[115,111,109,101]
def ke(t:a_)(b:Nat):Bool :=(dJ t).isSome||dN t||jw t||om t||(t==[105,116]&&decide (0<b))
def B7(h:om t=true):known t=true:=by
 simp only[om,Ql,P']at h;rcases h with((((((((((((h|h)|h)|h)|h)|h)|h)|h)|h)|h)|h)|h)|h)|h<;>subst h<;>decide
def EL(t b)(h:gU t=true):(fu t b≠0)↔(om t||(t==[105,116]&&decide (0<b)))=true:=by
 simp only[gU,Ql,P']at h;rcases h with(((((((((((h|h)|h)|h)|h)|h)|h)|h)|h)|h)|h)|h)|h<;>subst h
 all_goals first
  |(simp[fu,om];done)
  |(by_cases hi:0<b<;>simp[fu,om,hi])
def EM(c b)(h:jl c=true):(jL [c]≠0)↔(om [c]||([c]==[105,116]&&decide (0<b)))=true:=by
 rw[rF]at h;simp only[aP,RL,QL]at h;rcases h with rfl|rfl|rfl|rfl|rfl|rfl|rfl|rfl|rfl|rfl|rfl|rfl|rfl<;>simp[jL,om]
def zS(l i j):ke ((l.drop i).take (jq (l.drop i))) j=decide (cq l i j≠0):=by
 have p:2<=(bY.tok _).1->(l.drop i).take (jq (l.drop i))=tx l i:=λh=>by rw[kP _ h];rfl
 have m:cq l i j=kindOf (bY.tok _).1 _ j:=rfl;rcases kZ _ _ rfl with⟨h,a⟩|⟨h,a,b⟩|⟨h,a,b,c,_⟩|⟨h,a,b,c,d⟩|⟨h,a,b,c,u,d,e⟩|⟨h,a,b,c,d⟩
 ·rw[m,h];unfold ke;rw[a];simp[kindOf]
 ·rw[m,h];unfold ke;rw[b];simp[kindOf]
 ·rw[m,h];unfold ke;rw[c];simp[kindOf]
 ·have n:cq l i j=fu (tx l i) j:=by rw[m,h];simp[kindOf]
  rw[n];rw[p RM]at a b c d ⊢;have:=EL _ j d;unfold ke;rw[a,b,c];simp only[Rv,QK];rw[QE,QF,this]
 ·have n:cq l i j=jL (tx l i):=by rw[m,h];simp[kindOf]
  rw[n];rw[p RM]at a b c d ⊢;rw[d]at a b c ⊢;have:=EM u j e;unfold ke;rw[a,b,c];simp only[Rv,QK];rw[QE,QF,this]
 have n:cq l i j=0:=by
  rw[m];unfold kindOf;rw[ae RM,ae RM,ae RM,ae RM]
 rw[n];have y:om ((l.drop i).take (jq (l.drop i)))=false:=by
  cases hx:om _ with
  |false=>rfl
  |true=>rw[B7 hx]at d;cases d
 have hit:((l.drop i).take (jq (l.drop i))==[105,116])=false:=by
  cases hx:((l.drop i).take _==[105,116]) with
  |false=>rfl
  |true=>rw[eq_of_beq hx]at d;revert d;decide
 unfold ke;rw[a,b,c,y,hit];rfl
end Ref
end
section
open bY
open Tryz
namespace Ref
variable{s:ba}{i:Nat}{l:a_}
theorem B8(t y p w)(E:t.size<=1000)(C:w.cell? ⟨y,5,none⟩=some (.int .i64 p)):Calls prog 229 #[.pointer (some ⟨y,0,none⟩),.string t] w λe w'=>e=.returned (.bool (ke t.1.1 p))/\w=w':=by
 have hd:=eC t w RM;have u:=eJ t w RM;have r:=eg t w RM;have hb:ke t.1.1 p=((dJ t.1.1).isSome||dN t.1.1||jw t.1.1||om t.toList||(t.toList==[105,116]&&decide (0<p))):=by rw[UC];rfl
 rw[hb];generalize dJ t.1.1=D at hd hb;generalize dN t.1.1=B at u hb;generalize jw t.1.1=z at r hb;have b:=bZ hd;have m:=bZ u;have j:=bZ r;clear hd u r hb;cases D with
 |some n =>
  go_enter func229,ntmps229;go_wp2_with fail;refine b.Z.mono ?_;rintro e w'⟨rfl,rfl⟩;unfold gp;go_wp2_with(first|(go_at_call 144;refine m.Z.mono ?_;rintro e w' ⟨rfl,rfl⟩)|(go_at_call 108;refine j.Z.mono ?_;rintro e w' ⟨rfl,rfl⟩));go_ret;exact⟨hC R2,rfl⟩
 |none =>
  cases B with
  |true =>
   go_enter func229,ntmps229;go_wp2_with fail;refine b.Z.mono ?_;rintro e w'⟨rfl,rfl⟩;unfold gp;go_wp2_with(first|(go_at_call 144;refine m.Z.mono ?_;rintro e w' ⟨rfl,rfl⟩)|(go_at_call 108;refine j.Z.mono ?_;rintro e w' ⟨rfl,rfl⟩));go_ret;exact⟨hC R2,rfl⟩
  |false =>
   cases z with
   |true =>
    go_enter func229,ntmps229;go_wp2_with fail;refine b.Z.mono ?_;rintro e w'⟨rfl,rfl⟩;unfold gp;go_wp2_with(first|(go_at_call 144;refine m.Z.mono ?_;rintro e w' ⟨rfl,rfl⟩)|(go_at_call 108;refine j.Z.mono ?_;rintro e w' ⟨rfl,rfl⟩));go_ret;exact⟨hC R2,rfl⟩
   |false =>
    go_enter func229,ntmps229;go_wp2_with fail;refine b.Z.mono ?_;rintro e w'⟨rfl,rfl⟩;unfold gp;clear b;go_wp2_with(first|(go_at_call 144;refine m.Z.mono ?_;rintro e w' ⟨rfl,rfl⟩)|(go_at_call 108;refine j.Z.mono ?_;rintro e w' ⟨rfl,rfl⟩))
    all_goals clear m j C
    all_goals first
     |(exfalso;simp_all;done)
     |(go_ret;refine⟨hC ?_,rfl⟩;simp_all [om];done)
     |(go_ret;refine⟨hC ?_,rfl⟩;simp_all [om];omega)
def qC(s b i t)(place j c:Nat)(v w)(h:gX w s b i t 0 place j v):Calls prog 66 #[.pointer (some ⟨b,0,none⟩),.int .i64 c] w λe w'=>e=.returned (.tuple #[])/\gX w' s b i t c i j v/\w.grownBy w' (some b):=by
 obtain⟨m,c1,c2,n,p,r,u,cf⟩:=h.cells;go_enter func66,ntmps66;go_wp2_with fail
 go_end0
 exact⟨rfl,ig (ig h 3 (.int .i64 (c:Int))) 4 (.int .i64 (i:Int)),Fr.set (Fr.set (UD _ _) _ _) _ _⟩
def GK(hi:i<=s.size):i+(s.extract i (i+jq (s.1.1.drop i))).size<=s.size:=by
 rw[QD];omega
def Ko(l:a_)(i:Nat):a_:=(l.drop i).take (jq (l.drop i))
def kq(s:ba)(i):(s.extract i (i+jq (s.1.1.drop i))).1.1=Ko s.1.1 i:=by
 rw[UG,Qx];rfl
def mq(l i x)(hx:known x=true):Ko l i=x↔tx l i=x:=tS (l.drop i) x hx
def zT(hi:i<=s.size)(b:2<=(bY.tok (s.1.1.drop i)).1):bY.skip s.1.1 (i+(s.extract i (i+jq (s.1.1.drop i))).size)=fC s.1.1 i:=by
 have h1:=kP _ b;have h2:i+(bY.tok (s.1.1.drop i)).2<=s.size:=by
  have:=yl s.1.1 i Sc;simpa using this
 rw[QD,h1];unfold fC
 congr 1
 omega
def tT(s b i code place e v w)(h:MJ w s b i code place e v)(hs:s.size<=200)(hi:i<=s.size)(j:2<=(bY.tok (s.1.1.drop i)).1):Calls prog 64 #[.pointer (some ⟨b,0,none⟩)] w (DA w s b (fC s.1.1 i) code place e v):=by
 have:=zR s b i _ code place e v w h RM (GK hi);rw[zT hi j]at this;exact this
def jQ(h:tx l i≠[]):2<=(bY.tok (l.drop i)).1:=by
 have:=ma h;rcases kZ (l.drop i) _ rfl with⟨h,_⟩|⟨h,_⟩|⟨h,_⟩|⟨h,_⟩|⟨h,_⟩|⟨h,_⟩
 ·omega
 ·omega
 ·omega
 ·omega
 ·omega
 exfalso;cases hl:l.drop i with
 |nil=>rw[hl]at this;simp[bY.tok]at this
 |cons c r =>
  rw[hl]at this h;rw[fZ (c :: r) c r rfl]at this h;split at h
  ·split at h
   ·simp at h
   rename_i h1 h2;rw[ag h1,ae h2]at this;simp at this
  rename_i h1;rw[ae h1]at this;split at h
  ·rename_i h2;rw[ag h2]at this;split at h
   ·simp at h
   rename_i b;rw[ae b]at this;split at h
   ·rename_i e;rw[ag e]at this;simp at this
   simp at h
  rename_i h2;rw[ae h2]at this;split at h
  ·rename_i b;rw[ag b]at this;cases j:dM (c :: r) with
   |none=>rw[j]at this;simp[fa]at this
   |some n=>rw[j]at h;simp[fa]at h
  rename_i b;rw[ae b]at this;split at h
  ·simp at h
  rename_i e;rw[ae e]at this;simp at this
def dd(w:QV)(s:ba)(b m:Nat)(v:Xa)(r:Except (Nat×Nat) Nat)(e:Ending)(w':QV):Prop :=e=.returned (.tuple #[])/\w.grownBy w' (some b)/\(∀j,r=.ok j->∃p,MJ w' s b j 0 p m v)/\(∀x,r=.error x->MJ w' s b x.2 x.1 x.2 m v)
def GL(s n i place r v t w)(h:MJ w s n i 0 place r v)(hs:s.size<=200)(hi:i<=s.size)(p:known t.1.1=true):Calls prog 271 #[.pointer (some ⟨n,0,none⟩),.string t] w (dd w s n r v (bY.cv s.1.1 t.1.1 i)):=by
 obtain⟨z,c1,c2,B,C,D,E,cf⟩:=h.cells;have u:t.1.1≠[]:=by intro e;rw[e]at p;revert p;decide
 by_cases b:tx s.1.1 i=t.1.1
 ·have m:bY.cv s.1.1 t.1.1 i=.ok (fC s.1.1 i):=by rw[bY.cv,ag b]
  have hb:((s.extract i (i+jq (s.1.1.drop i))).toList==t.toList)=true:=by
   rw[UC,UC,kq,(mq _ _ _ p).2 b];simp
  have hx:=tT s n i 0 place r v w h hs hi (jQ (by rw[b];exact u));rw[m];have y:=bZ hx;clear hx m b u;go_enter func271,ntmps271;go_wp2_with fail;refine y.Z.mono ?_;rintro e w1⟨rfl,h1,f1⟩;go_wp2_with fail
  go_end0
  exact⟨rfl,f1,λj hj=>by cases hj;exact⟨_,h1⟩,λx hx=>by cases hx⟩
 have m:bY.cv s.1.1 t.1.1 i=.error (3,i):=by rw[bY.cv,ae b]
 have hb:((s.extract i (i+jq (s.1.1.drop i))).toList==t.toList)=false:=by
  rw[UC,UC,kq,aw];exact λe=>b ((mq _ _ _ p).1 e)
 rw[m];clear m b u;go_enter func271,ntmps271;go_wp2_with fail;refine(qC s n i _ place r 3 v _ h).mono ?_;rintro e w1⟨rfl,h1,f1⟩;go_wp2_with fail
 first|go_end0|refine UA (UO rfl _ _ _) rfl ?_
 exact⟨rfl,f1,λj hj=>SH,λx hx=>by cases hx;exact h1⟩
def EN(s b i t code place j v x w)(h:gX w s b i t code place j v)(hc:code≠0):Calls prog 271 #[.pointer (some ⟨b,0,none⟩),.string x] w λe w'=>e=.returned (.tuple #[])/\w=w':=by
 obtain⟨m,c1,c2,n,p,r,u,cf⟩:=h.cells;have y:((code:Int) != 0)=true:=Sm;go_enter func271,ntmps271;go_wp2_with fail
 first|go_end0|refine UA (UO rfl _ _ _) rfl ?_
 exact⟨rfl,rfl⟩
end Ref
end
