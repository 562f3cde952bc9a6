/- Out of H5. -/
import Derived.Test.YtpekpdimdelncaaGreatDoorP25
set_option linter.unusedVariables false
set_option linter.unusedSimpArgs false
set_option maxRecDepth 100000
set_option maxHeartbeats 4000000
set_option linter.defProp false
namespace Go.Proofs.YtpekpdimdelncaaGreatDoor
open Go.RowKit Go.Shelf
section
open Tryz
namespace jU
def Pa(p):(wU p).length=2:=rfl
def jS.at{w:Xa}{K:Nat}{T V:Xb}{U:Fin 3->Xb}{N:Nat}{B:Fin 3->List (Xb×Nat×Nat)}{H:Nat->Prop}(h:jS w K T V U N B H)(q:Fin 3){c m:Nat}(Q:c=3+q.val)(S:m=mA q):∃o n l,n=(B q).length/\w.cell? ⟨K,c,none⟩=some (.slice o n l)/\∀i,i<n->∃g e D r C,o=some ⟨g,0,none⟩/\g<w.1.size/\w.cell? ⟨g,i*2,none⟩=some (.slice e D r)/\w.cell? ⟨g,i*2+1,none⟩=some (.int .i64 (C:Nat))/\C<=N/\D<=1000/\∀k,k<D->∃b,e=some ⟨b,0,none⟩/\b<w.1.size/\∀j u,(Am q C)[j]?=some u->w.cell? ⟨b,k*m+j,none⟩=some u:=by
 subst S;obtain⟨o,l,J⟩:=Ref.dD (h.row q);have y:=h.eb;refine⟨o,_,l,rfl,?_,λi hi=>?_⟩
 ·rw[<-J];subst Q
  match q with
  |0=>simp[World.cell?,y]
  |1=>simp[World.cell?,y]
  |2=>simp[World.cell?,y]
 have z:=aq hi;generalize (B q)[i]=p at z;obtain⟨g,X,h1,h2,F⟩:=Ref.fK Pa S4 (h.row q) z;obtain⟨E,L,M⟩:=h.each q p (aJ z);obtain⟨e,r,I⟩:=Ref.dD E;rw[J]at h1;cases h1;refine⟨g,e,p.2.1,r,p.2.2,rfl,h2,?_,F 1 _ rfl,M,L,λk R=>?_⟩
 ·rw[<-I];exact F 0 _ rfl
 obtain⟨b,Y,G,O,P⟩:=Ref.fK (F:=λ_:Unit=>Am q p.2.2) (l:=List.replicate p.2.1 ()) (λ_=>uq _ _) (pE q q).2.2.2.2 (by rw[List.flatMap_replicate];exact E) (k:=k) (a:=()) (by rw[List.getElem?_replicate,ag R]);rw[I]at G;cases G;exact⟨b,rfl,O,P⟩
def QG(w d a s):(Op.equalIn (d+1+1) 59 (.agg #[.int .i64 a,.string s]) (.agg #[.int .i64 a,.string s])).run prog w=.ok true w:=by
 have hS:prog.underlying 59=some (.struct (prog.fieldsOf 59)):=S8;have b:prog.stoodInHeld 59=false:=S8;rw[run_equalIn_agg w (d+1) 59 _ _ hS b];simp only[Program.fieldsOf,underlying59];clear hS b;go_simp
attribute [local go_sem] QG
def QH(w a b c):(binOp .neq 66 (.agg #[.string a,.int .i64 b,.string c]) (.agg #[.string a,.int .i64 b,.string c])).run prog w=.ok (.bool false) w:=by
 have hS:prog.underlying 66=some (.struct (prog.fieldsOf 66)):=S8;have e:prog.stoodInHeld 66=false:=S8;rw[run_neq_struct,show(10000:Nat)=9997+1+1+1 from rfl,run_equalIn_agg w (9997+1+1) 66 _ _ hS e];simp only[Program.fieldsOf,underlying66];clear hS e;go_simp
def QI(w a b c d e f):(binOp .neq 61 (.agg #[.string a,.string b,.int .i64 c,.string d,.int .i64 e,.string f]) (.agg #[.string a,.string b,.int .i64 c,.string d,.int .i64 e,.string f])).run prog w=.ok (.bool false) w:=by
 have hS:prog.underlying 61=some (.struct (prog.fieldsOf 61)):=S8;have j:prog.stoodInHeld 61=false:=S8;rw[run_neq_struct,show(10000:Nat)=9997+1+1+1 from rfl,run_equalIn_agg w (9997+1+1) 61 _ _ hS j];simp only[Program.fieldsOf,underlying61];clear hS j;go_simp
def Pb(w x y xs b):(eqGuard .neq 66 x y (.agg xs) (.agg b)).run prog w=.ok () w:=run_eqGuard_agg w .neq 66 x y xs b S8
def Pc(w x y xs b):(eqGuard .neq 61 x y (.agg xs) (.agg b)).run prog w=.ok () w:=run_eqGuard_agg w .neq 61 x y xs b S8
attribute [local go_sem] QH QI Pb Pc
def NJ(w wb vL vR vN N hs H)(h:jS w wb vL vR vN N hs H)(hN:N<=100000000)(av:∀q,(hs q).length<=1000000000):Calls prog 43 #[.pointer (some ⟨wb,2,none⟩)] w λe w'=>e=.returned (.bool true)/\Xc w w':=by
 obtain⟨o0,n0,p0,l0,c0,D0⟩:=h.at 0 (c:=3) (m:=1) rfl rfl;obtain⟨o1,n1,p1,l1,c1,D1⟩:=h.at 1 (c:=4) (m:=3) rfl rfl;obtain⟨o2,n2,p2,l2,c2,D2⟩:=h.at 2 (c:=5) (m:=6) rfl rfl;have b0:n0<=1000000000:=by rw[l0];exact av 0
 have b1:n1<=1000000000:=by rw[l1];exact av 1
 have b2:n2<=1000000000:=by rw[l2];exact av 2
 have a3:=cj h.eb;have HC:=bZ (λwr (hB:Xc w wr)=>And.intro (cell_later hB c0) (And.intro (cell_later hB c1) (And.intro (cell_later hB c2) (aw a3 hB.size))));have ax:=bZ D0;have ao:=bZ D1;have ap:=bZ D2;clear h c0 c1 c2 D0 D1 D2 l0 l1 l2 av a3;go_enter func43,ntmps43;go_wp2
 go_loopw [3] (λF wr=>∃i:Nat,F=.int .i64 (i:Int)/\i<=n0/\Hid (Xc w wr)) (λF _=>n0-(intOf F).toNat)
 case atStart=>exact⟨0,rfl,ar _,bZ (VM _ _)⟩
 case round =>
  obtain⟨i,rfl,hi,b⟩:=hrel;obtain⟨R,S,T,U⟩:=HC.Z wr b.Z;by_cases ai:i<n0
  ·have Y:(i:Int)<(n0:Int):=R5;obtain⟨g,Q,l,P,I,rfl,hg,J,K,a0,a2,C⟩:=ax.Z i ai;replace J:=cell_later b.Z J;replace K:=cell_later b.Z K;have aa:g<wr.1.size:=aw hg b.Z.size;obtain⟨n,E⟩:∃x:ba,str (gp I)=.string x:=⟨_,rfl⟩;have D:=λw=>rQ I w R5;rw[E]at D;have O:=bZ D;have z:=bZ (And.intro C E);clear D C E ax ao ap
   go_upto_region 6 with(go_at_call 79;refine b_ (O.Z _) λp B=>?_)
   have ay:Xc w p:=(b.Z.alloc b.Z.size _).trans (B.mono (b.Z.alloc b.Z.size _).size);have j:=(B.block wr.1.size S5).trans (heap_alloc_new wr (.cells #[.slice Q l P,.int .i64 (I:Int)] 158));have z0:p.cell? ⟨wr.1.size,0,none⟩=some (.slice Q l P):=cr j rfl;have z1:=cj j;have M:=bZ ay;clear j B ay O J K R S T U aa;go_wp2
   go_loopw [6] (λG am=>∃k:Nat,G=.int .i64 (k:Int)/\k<=l/\p=am) (λG _=>l-(intOf G).toNat)
   case atStart=>exact⟨0,rfl,ar _,rfl⟩
   case round =>
    obtain⟨k,rfl,C,rfl⟩:=hrel;by_cases ak:k<l
    ·have ad:(k:Int)<(l:Int):=R5;obtain⟨g2,rfl,ab,hx⟩:=z.Z.1 k ak;have Z:=cell_later M.Z (hx 0 _ rfl);rw[z.Z.2,Rh,aR]at Z;have aC:g2<p.1.size:=aw ab M.Z.size;clear hx;go_wp2;refine⟨⟨k+1,by go_num,by omega,by first|rfl|trivial⟩,?_⟩;simp[intOf];omega
    have ad:¬(k:Int)<(l:Int):=R5;go_wp2;refine⟨⟨i+1,by go_num,by omega,M⟩,?_⟩;simp[intOf];omega
  have Y:¬(i:Int)<(n0:Int):=R5;clear ax;go_wp2
  go_loopw [7] (λF wr=>∃i:Nat,F=.int .i64 (i:Int)/\i<=n1/\Hid (Xc w wr)) (λF _=>n1-(intOf F).toNat)
  case atStart=>exact⟨0,rfl,ar _,b⟩
  case round =>
   clear b R S T U Y;obtain⟨i,rfl,hi,b⟩:=hrel;obtain⟨R,S,T,U⟩:=HC.Z wr b.Z;by_cases ai:i<n1
   ·have Y:(i:Int)<(n1:Int):=R5;obtain⟨g,Q,l,P,I,rfl,hg,J,K,a0,a2,C⟩:=ao.Z i ai;replace J:=cell_later b.Z J;replace K:=cell_later b.Z K;have aa:g<wr.1.size:=aw hg b.Z.size;obtain⟨n,E⟩:∃x:ba,str (gp I)=.string x:=⟨_,rfl⟩;have D:=λw=>wV I w R5;rw[E]at D;have O:=bZ D;have z:=bZ (And.intro C E);clear D C E ao ap
    go_upto_region 16 with(go_at_call 80;refine b_ (O.Z _) λp B=>?_)
    have V:=(b.Z.alloc b.Z.size _).trans (B.mono (b.Z.alloc b.Z.size _).size);have j:=(B.block wr.1.size S5).trans (heap_alloc_new wr (.cells #[.slice Q l P,.int .i64 (I:Int)] 160));have m:=heap_alloc_new p (.cells #[.string n,.int .i64 99,.string n] 66);have X:Xc p (p.alloc (.cells #[.string n,.int .i64 99,.string n] 66)):=(VM _ _).alloc (af _) _;have j:=(X.block _ (cj j)).trans j;have M:=bZ (V.trans (X.mono V.size));generalize p.alloc (.cells #[.string n,.int .i64 99,.string n] 66)=W2 at *;generalize wr.1.size=xb at *;generalize p.1.size=L at *;have y:=bZ (And.intro j m);clear j m V X B O J K R S T U aa;go_wp2
    go_loopw [10] (λG am=>∃k:Nat,G=.int .i64 (k:Int)/\k<=l/\Hid (Xc W2 am)) (λG _=>l-(intOf G).toNat)
    case atStart=>exact⟨0,rfl,ar _,bZ (VM _ _)⟩
    case round =>
     obtain⟨k,rfl,C,u⟩:=hrel;have j:=(u.Z.block _ (cj y.Z.1)).trans y.Z.1;have m:=(u.Z.block _ (cj y.Z.2)).trans y.Z.2;have z0:wr.cell? ⟨xb,0,none⟩=some (.slice Q l P):=cr j rfl;have z1:=cj j;have r:=bZ (M.Z.trans (u.Z.mono M.Z.size));by_cases ak:k<l
     ·have ad:(k:Int)<(l:Int):=R5;obtain⟨g2,rfl,ab,hx⟩:=z.Z.1 k ak;have Z:=cell_later r.Z (hx 0 _ rfl);have x1:=cell_later r.Z (hx 1 _ rfl);have x2:=cell_later r.Z (hx 2 _ rfl);rw[z.Z.2]at Z x2;rw[aR]at Z;have m0:wr.cell? ⟨L,0,none⟩=some (.string n):=cr m rfl;have m1:wr.cell? ⟨L,1,none⟩=some (.int .i64 99):=cr m rfl;have m2:wr.cell? ⟨L,2,none⟩=some (.string n):=cr m rfl;have aC:g2<wr.1.size:=aw ab r.Z.size;have a4:=cj m;clear hx j m z y
      go_upto_region 19 with fail
      go_quiet (fail)
      go_wp2;refine⟨⟨k+1,by go_num,by omega,bZ (by first|exact u.Z|exact u.Z.trans ((gH _ _).mono u.Z.size))⟩,?_⟩;simp[intOf];omega
     have ad:¬(k:Int)<(l:Int):=R5;clear j m z y;go_wp2;refine⟨⟨i+1,by go_num,by omega,r⟩,?_⟩;simp[intOf];omega
   have Y:¬(i:Int)<(n1:Int):=R5;go_wp2
   go_loopw [11] (λF wr=>∃i:Nat,F=.int .i64 (i:Int)/\i<=n2/\Hid (Xc w wr)) (λF _=>n2-(intOf F).toNat)
   case atStart=>exact⟨0,rfl,ar _,b⟩
   case round =>
    clear b R S T U Y;obtain⟨i,rfl,hi,b⟩:=hrel;obtain⟨R,S,T,U⟩:=HC.Z wr b.Z;by_cases ai:i<n2
    ·have Y:(i:Int)<(n2:Int):=R5;obtain⟨g,Q,l,P,I,rfl,hg,J,K,a0,a2,C⟩:=ap.Z i ai;replace J:=cell_later b.Z J;replace K:=cell_later b.Z K;have aa:g<wr.1.size:=aw hg b.Z.size;obtain⟨n,E⟩:∃x:ba,str (gp I)=.string x:=⟨_,rfl⟩;have D:=λw=>tD I w R5;rw[E]at D;have O:=bZ D;have z:=bZ (And.intro C E);clear D C E ao ap
     go_upto_region 26 with(go_at_call 81;refine b_ (O.Z _) λp B=>?_)
     have V:=(b.Z.alloc b.Z.size _).trans (B.mono (b.Z.alloc b.Z.size _).size);have j:=(B.block wr.1.size S5).trans (heap_alloc_new wr (.cells #[.slice Q l P,.int .i64 (I:Int)] 163));have m:=heap_alloc_new p (.cells #[.string n,.string n,.int .i64 99,.string ⟨#[]⟩,.int .i64 0,.string n] 61);have X:Xc p (p.alloc (.cells #[.string n,.string n,.int .i64 99,.string ⟨#[]⟩,.int .i64 0,.string n] 61)):=(VM _ _).alloc (af _) _;have j:=(X.block _ (cj j)).trans j;have M:=bZ (V.trans (X.mono V.size));generalize p.alloc (.cells #[.string n,.string n,.int .i64 99,.string ⟨#[]⟩,.int .i64 0,.string n] 61)=W2 at *;generalize wr.1.size=xb at *;generalize p.1.size=L at *;have y:=bZ (And.intro j m);clear j m V X B O J K R S T U aa;go_wp2
     go_loopw [14] (λG am=>∃k:Nat,G=.int .i64 (k:Int)/\k<=l/\Hid (Xc W2 am)) (λG _=>l-(intOf G).toNat)
     case atStart=>exact⟨0,rfl,ar _,bZ (VM _ _)⟩
     case round =>
      obtain⟨k,rfl,C,u⟩:=hrel;have j:=(u.Z.block _ (cj y.Z.1)).trans y.Z.1;have m:=(u.Z.block _ (cj y.Z.2)).trans y.Z.2;have z0:wr.cell? ⟨xb,0,none⟩=some (.slice Q l P):=cr j rfl;have z1:=cj j;have r:=bZ (M.Z.trans (u.Z.mono M.Z.size));by_cases ak:k<l
      ·have ad:(k:Int)<(l:Int):=R5;obtain⟨g2,rfl,ab,hx⟩:=z.Z.1 k ak;have Z:=cell_later r.Z (hx 0 _ rfl);have x1:=cell_later r.Z (hx 1 _ rfl);have x2:=cell_later r.Z (hx 2 _ rfl);have x3:=cell_later r.Z (hx 3 _ rfl);have x4:=cell_later r.Z (hx 4 _ rfl);have x5:=cell_later r.Z (hx 5 _ rfl);rw[z.Z.2]at Z x1 x5;rw[aR]at Z;have m0:wr.cell? ⟨L,0,none⟩=some (.string n):=cr m rfl;have m1:wr.cell? ⟨L,1,none⟩=some (.string n):=cr m rfl;have m2:wr.cell? ⟨L,2,none⟩=some (.int .i64 99):=cr m rfl;have m3:wr.cell? ⟨L,3,none⟩=some (.string ⟨#[]⟩):=cr m rfl;have m4:wr.cell? ⟨L,4,none⟩=some (.int .i64 0):=cr m rfl;have m5:wr.cell? ⟨L,5,none⟩=some (.string n):=cr m rfl;have aC:g2<wr.1.size:=aw ab r.Z.size;have a4:=cj m;clear hx j m z y
       go_upto_region 29 with fail
       go_quiet (fail)
       go_wp2;refine⟨⟨k+1,by go_num,by omega,bZ (by first|exact u.Z|exact u.Z.trans ((gH _ _).mono u.Z.size))⟩,?_⟩;simp[intOf];omega
      have ad:¬(k:Int)<(l:Int):=R5;clear j m z y;go_wp2;refine⟨⟨i+1,by go_num,by omega,r⟩,?_⟩;simp[intOf];omega
    have Y:¬(i:Int)<(n2:Int):=R5;go_wp2;go_ret;exact⟨rfl,b.Z⟩
end jU
end
