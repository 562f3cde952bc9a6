/- Out of W7. -/
import Derived.Test.YtpekpdimdelncaaGreatDoorP03
import Derived.Test.YtpekpdimdelncaaGreatDoorP05
set_option linter.unusedVariables false
set_option maxRecDepth 100000
set_option maxHeartbeats 1000000
set_option linter.defProp false
namespace Go.Proofs.YtpekpdimdelncaaGreatDoor
open Go.RowKit Go.ChangeMaps Go.MapKept
section
open Tryz
variable{l b:Nat}{cs:Array Xa}{m:Nat×Nat}{s:ba}
attribute [local go_sem] hY
def su(s x)(a:Nat)(w)(hx:x=(a:Int))(g:G w)(hs:s.size<=281474976710656)(j:a<=s.size):Calls prog 88 #[.string s,.int .i64 x] w λe w'=>e=.returned (l_ s (bY.skip s.1.1 a))/\Xb w w':=by
 subst hx;exact zL s a w g hs j
def GC(a b:Nat)(h:a+b<=281474976710656):IntKind.i64.wrap (a+b)=((a+b:Nat):Int):=by
 rw[IntKind.wrap_i64];omega
def after{w X w1:QV}(j:Xb w X)(h1:Xb X w1)(n:l<w.1.size)(cf:∀o,w.frozen? ⟨l,o,none⟩=false):Xb w w1/\(∀o,w1.cell? ⟨l,o,none⟩=w.cell? ⟨l,o,none⟩)/\(∀o,w1.frozen? ⟨l,o,none⟩=false):=by
 have e:=j.trans (h1.mono j.size);exact⟨e,λo=>e.cell (p:=⟨l,o,none⟩) n,λo=>(e.frozen (p:=⟨l,o,none⟩) n).trans (cf o)⟩
def ig{w:QV}{t:TypeId}(h:w.1[b]?=some (.cells cs t m))(o v):(w.setCell ⟨b,o,none⟩ v).1[b]?=some (.cells (cs.setIfInBounds o v) t m):=by
 simp[World.setCell,Qj,h]
def gS.other{w:QV}{l i deep its:Nat}(h:gS w s l i deep its)(hb:b≠l)(o v):gS (w.setCell ⟨b,o,none⟩ v) s l i deep its :=(UK w ⟨b,o,none⟩ v l (λe=>hb e.symm)).trans h
def gS.alloc{w:QV}{l i deep its:Nat}(h:gS w s l i deep its)(o):gS (w.alloc o) s l i deep its :=(UE w o l h.lt).trans h
def gS.below{w w':QV}{l i deep its B:Nat}(h:gS w s l i deep its)(e:Below B w w')(hb:l<B):gS w' s l i deep its :=(e.block l hb).trans h
def gS.step{w:QV}{l i deep its:Nat}(h:gS w s l i deep its)(j):gS ((((w.setCell ⟨l,1,none⟩ (.int .i64 ((bY.tok (s.1.1.drop j)).1:Int))).setCell ⟨l,2,none⟩ (.string (s.extract j (j+(bY.tok (s.1.1.drop j)).2)))).setCell ⟨l,3,none⟩ (.int .i64 j)).setCell ⟨l,4,none⟩ (ov (s.1.1.drop j))) s l j deep its:=by
 have h1:=ig (ig (ig (ig h 1 (.int .i64 ((bY.tok (s.1.1.drop j)).1:Int))) 2 (.string (s.extract j (j+(bY.tok (s.1.1.drop j)).2)))) 3 (.int .i64 (j:Int))) 4 (ov (s.1.1.drop j));exact h1
def gS.deep{w:QV}{l i deep its:Nat}(h:gS w s l i deep its)(d:Nat):gS (w.setCell ⟨l,5,none⟩ (.int .i64 d)) s l i d its:=ig h 5 _
def gS.its{w:QV}{l i deep its:Nat}(h:gS w s l i deep its)(d:Nat):gS (w.setCell ⟨l,6,none⟩ (.int .i64 d)) s l i deep d:=ig h 6 _
def Fr.trans{a w w':QV}{row:Option Nat}(h:a.grownBy w row)(k:w.grownBy w' row):a.grownBy w' row:=Lib.grownBy_trans h k
def Fr.set{a w:QV}(h:a.grownBy w (some l))(i v):a.grownBy (w.setCell ⟨l,i,none⟩ v) (some l):=Lib.grownBy_setB h i v
def Fr.new{a w:QV}{row:Option Nat}(h:a.grownBy w row)(hb:a.1.size<=b)(i v):a.grownBy (w.setCell ⟨b,i,none⟩ v) row :=⟨h.os,h.tape,h.output,by simpa[World.setCell]using h.size,λk e j=>(UK w ⟨b,i,none⟩ v k (by show k≠b;omega)).trans (h.block k e j)⟩
def Fr.below{a w w':QV}{row:Option Nat}(h:a.grownBy w row){B:Nat}(hb:Below B w w')(n:a.1.size<=B):a.grownBy w' row :=⟨hb.os.trans h.os,hb.tape.trans h.tape,hb.output.trans h.output,ah h.size hb.size,λk e j=>(hb.block k RM).trans (h.block k e j)⟩
def ju(s l i p B w)(g:G w)(h:gS w s l i p B)(hs:s.size<=281474976710656)(hi:i<=s.size):Calls prog 175 #[.pointer (some ⟨l,0,none⟩)] w λe w'=>e=.returned (l_ s i)/\gS w' s l (bY.fC s.1.1 i) p B/\w.grownBy w' (some l):=by
 obtain⟨J,c1,c2,K,L,M,N,cf⟩:=h.cells;have z:=h.lt;have C:i+(bY.tok (s.1.1.drop i)).2<=s.size:=by
  have:=bY.yl s.1.1 i Sc;simpa using this
 have P:(s.extract i (i+(bY.tok (s.1.1.drop i)).2)).size=(bY.tok (s.1.1.drop i)).2:=by
  rw[QD];omega
 go_enter func175,ntmps175;go_wp2_with fail;have u:Xb w (((w.alloc (Obj.cells #[Value.int IntKind.i64 0,Value.string { data:=#[] },Value.int IntKind.i64 0,Value.nilIface] 172)).alloc (Obj.cells #[Value.int IntKind.i64 ↑(bY.tok (List.drop i s.1.1)).fst,Value.string (s.extract i (i+(bY.tok (List.drop i s.1.1)).snd)),Value.int IntKind.i64 ↑i,ov (List.drop i s.1.1)] 172)).drew) :=(((Uz _ _).alloc (af _) _).alloc R2 _).drew;have r:=g.below u g.size
 go_region_with (go_at_call 88;refine(su s _ (i+(bY.tok (s.1.1.drop i)).2) _ ?_ r hs C).mono ?_;(· rw[GC _ _ RM]);rintro e w1 ⟨rfl,n⟩;(obtain⟨y,e1,f1⟩:=after u n z cf);unfold l_)
 all_goals(obtain⟨hc,hf⟩:=nQ n)
 all_goals(have Q:w.1.size+1<w1.1.size:=by have:=n.size;simp at this;omega)
 all_goals clear r g hi
 all_goals(have j:¬w.1.size=l:=by omega)
 all_goals(have O:¬l=w.1.size:=by omega)
 all_goals(have D:w1.cell? ⟨w.1.size,0,none⟩=some (.int .i64 0):=by rw[hc _ _ R5];simp[go_sem])
 all_goals(have E:w1.cell? ⟨w.1.size,1,none⟩=some (.string ⟨#[]⟩):=by rw[hc _ _ R5];simp[go_sem])
 all_goals(have F:w1.cell? ⟨w.1.size,2,none⟩=some (.int .i64 0):=by rw[hc _ _ R5];simp[go_sem])
 all_goals(have I:w1.cell? ⟨w.1.size,3,none⟩=some .nilIface:=by rw[hc _ _ R5];simp[go_sem])
 all_goals go_wp2_with fail
 all_goals refine UA (v:=l_ s i) (by simp[results,results175,go_sem,l_,D,E,F,I]) rfl ⟨rfl,((((gS.step (h.below y z) _).other j _ _).other j _ _).other j _ _).other j _ _,Fr.new (Fr.new (Fr.new (Fr.new (Fr.set (Fr.set (Fr.set (Fr.set (Fr.below (UD _ _) y (af _)) _ _) _ _) _ _) _ _) (af _) _ _) (af _) _ _) (af _) _ _) (af _) _ _⟩
end
section
open Tryz
variable{s:ba}{e:Ending}{x:Nat×Nat}{q:Option Addr}
def G.fr{w w':QV}{b:Nat}(g:G w)(h:w.grownBy w' (some b))(l:8<=b):G w' :=g.below (B:=8) ⟨h.os,h.tape,h.output,h.size,λk j=>h.block k Sz (λe=>by injection e;omega)⟩ (af _)
def Fr.alloc{a w:QV}{row:Option Nat}(h:a.grownBy w row)(o):a.grownBy (w.alloc o) row:=Lib.grownBy_allocR h o
def yq(s:ba)(b l m:Nat)(w:QV)(r:Except (Nat×Nat) Nat)(e:Ending)(w':QV):Prop :=w.grownBy w' (some b)/\(∀j,r=.ok j->(∃q,e=.returned (.pointer q))/\gS w' s b j l m)/\(∀x,r=.error x->e=refusal x.1 x.2)
def yq.ok{b l m j:Nat}{w w':QV}(h:yq s b l m w (.ok j) e w'):w.grownBy w' (some b)/\(∃q,e=.returned (.pointer q))/\gS w' s b j l m :=⟨h.1,h.2.1 j rfl⟩
def yq.err{b j l:Nat}{w w':QV}(h:yq s b j l w (.error x) e w'):w.grownBy w' (some b)/\e=refusal x.1 x.2 :=⟨h.1,h.2.2 x rfl⟩
def yq.jo{b l m j:Nat}{w w':QV}(h:w.grownBy w' (some b))(p:gS w' s b j l m):yq s b l m w (.ok j) (.returned (.pointer q)) w' :=⟨h,λk n=>(by cases n;exact⟨⟨q,rfl⟩,p⟩),λx hx=>Sr⟩
def yq.eU{b j m:Nat}{w w':QV}(h:w.grownBy w' (some b)):yq s b j m w (.error x) (refusal x.1 x.2) w' :=⟨h,λk l=>(by cases l),λy hy=>S3⟩
def PO(s:ba)(f b j l i:Nat)(r:Except (Nat×Nat) Nat):Prop :=∀w:QV,G w->gS w s b i j l->Calls prog f #[.pointer (some ⟨b,0,none⟩)] w (yq s b j l w r)
def rC(s b i j l t w)(g:G w)(h:gS w s b i j l)(hs:s.size<=281474976710656)(hi:i<=s.size)(m:bY.tx s.1.1 i=t.1.1):Calls prog 296 #[.pointer (some ⟨b,0,none⟩),.string t] w λe w'=>e=.returned (.tuple #[])/\gS w' s b (bY.fC s.1.1 i) j l/\w.grownBy w' (some b):=by
 have hb:(bY.tx s.1.1 i==t.1.1)=true:=by rw[m];simp
 have n:=bZ m;clear m;go_enter func296,ntmps296;go_wp2_with(go_at_call 313;refine(f_ s b i j l t _ h).mono ?_;rintro e w' ⟨rfl,rfl⟩);refine(ju s b i j l _ g h hs hi).mono ?_;rintro e w1⟨rfl,h1,f1⟩;go_wp2_with fail
 go_end0
 exact⟨rfl,h1,f1⟩
def Ez(s b i j m t w)(h:gS w s b i j m)(l:¬bY.tx s.1.1 i=t.1.1):Calls prog 296 #[.pointer (some ⟨b,0,none⟩),.string t] w λe w'=>e=refusal 3 i/\w=w':=by
 have hb:(bY.tx s.1.1 i==t.1.1)=false:=by rw[aw];exact l
 have n:=bZ l;clear l;go_enter func296,ntmps296;go_wp2_with(go_at_call 313;refine(f_ s b i j m t _ h).mono ?_;rintro e w' ⟨rfl,rfl⟩);refine(mQ s b i j m 3 _ h).mono ?_;rintro e w'⟨rfl,rfl⟩;exact⟨rfl,rfl,rfl⟩
def lk(s l i m n t w)(g:G w)(h:gS w s l i m n)(hs:s.size<=281474976710656)(hi:i<=s.size):Calls prog 296 #[.pointer (some ⟨l,0,none⟩),.string t] w λe w'=>w.grownBy w' (some l)/\(∀j,bY.cv s.1.1 t.1.1 i=.ok j->e=.returned (.tuple #[])/\gS w' s l j m n)/\(∀x,bY.cv s.1.1 t.1.1 i=.error x->e=refusal x.1 x.2):=by
 by_cases b:bY.tx s.1.1 i=t.1.1
 ·refine(rC s l i m n t w g h hs hi b).mono ?_;rintro e w'⟨rfl,h1,f1⟩;refine⟨f1,λj hj=>?_,λx hx=>?_⟩
  ·rw[bY.cv,ag b]at hj;cases hj;exact⟨rfl,h1⟩
  rw[bY.cv,ag b]at hx;cases hx
 refine(Ez s l i m n t w h b).mono ?_;rintro e w'⟨rfl,rfl⟩;refine⟨UD _ _,λj hj=>?_,λx hx=>?_⟩
 ·rw[bY.cv,ae b]at hj;cases hj
 rw[bY.cv,ae b]at hx;cases hx;rfl
end
section
variable{s:ba}
def CT(s:ba)(l n j f:Nat):Prop :=∀b e i:Nat,i<=s.size->b<=20->e<=b->8*(s.size-i)+bY.nd j<=n->PO s f l b e i (bY.P s.1.1 n j b e i)
def GD(w:QV)(b:Nat):Nat :=match w.cell? ⟨b,3,none⟩ with
 |some (.int _ k)=>k.toNat
 |_=>0
def pq{w:QV}{b i e j:Nat}(h:gS w s b i e j):GD w b=i:=by
 rw[GD,h.cells.2.2.2.1];rfl
end

section
open bY
def wrap_u32(n:Nat)(h:n<4294967296):IntKind.u32.wrap n=n:=by
 have:IntKind.u32.wrap (n:Int)=(n:Int)%4294967296:=by
  simp[IntKind.wrap,IntKind.bits,IntKind.signed]
 rw[this];omega
def Ha(a b:Nat)(j:a<4294967296)(hb:b<4294967296):bits .xor .u32 a (b)=((Nat.xor a b:Nat):Int):=by
 have h:bits .xor .u32 (a:Int) (b:Int)=IntKind.u32.wrap (((BitVec.ofInt 32 (a:Int)) ^^^ (BitVec.ofInt 32 (b:Int))).toNat:Int):=rfl;rw[h,BitVec.toNat_xor];have e:∀n:Nat,n<4294967296->(BitVec.ofInt 32 (n:Int)).toNat=n:=λn l=>by
  rw[BitVec.toNat_ofInt];have:((n:Int)%((2^32:Nat):Int))=n:=by
   show(n:Int)%4294967296=n;omega
  rw[this];rfl
 rw[e a j,e b hb];refine wrap_u32 _ ?_;exact Nat.xor_lt_two_pow (n:=32) j hb
def E2(n c):rP n c<4294967296:=by
 unfold rP;exact Ra (Nat.xor n c.toNat*16777619) RM
def Ch{α β:Type}(f)(a:α)(l)(c:β):List.foldl f a (l++[c])=f (List.foldl f a l) c:=by
 rw[List.foldl_append];rfl
def uu(l:a_)(c:UInt8):jN (l++[c])=rP (jN l) c:=Ch rP 2166136261 l c
def uv(l:a_):jN l<4294967296:=by
 rcases List.eq_nil_or_concat l with rfl|⟨b,a,rfl⟩
 ·simp only[jN,List.foldl_nil];omega
 rw[List.concat_eq_append,uu];exact E2 _ _
def Ci(s:ba)(k)(h:k<s.size):s.1.1.take (k+1)=s.1.1.take k++[s[k]]:=by
 rw[Se Sf];rfl
def xe(s:ba)(k)(h:k<s.size):bits .xor .u32 ((jN (s.1.1.take k):Nat):Int) ((s[k].toNat)%4294967296)*16777619%4294967296=((jN (s.1.1.take (k+1)):Nat):Int):=by
 have hb:s[k].toNat<256:=s[k].toNat_lt;rw[Ci s k h,uu,show((s[k].toNat:Int)%4294967296)=(s[k].toNat:Int) by omega,Ha _ _ (uv _) RM,rP];generalize Nat.xor (jN (List.take k s.1.1)) s[k].toNat=x;omega
def Hc(s w)(hs:s.size<=281474976710656):Calls Tryz.prog 138 #[.string s] w λe w'=>e=.returned (.int .u32 (jN s.1.1))/\w'=w:=by
 go_enter Tryz.func138,Tryz.ntmps138;go_wp2
 go_loop [3,7] (λn i=>∃k:Nat,k<=s.size/\i=.int .i64 k/\n=.int .u32 (jN (s.1.1.take k):Int)) (λ_ i=>s.size-(intOf i).toNat)
 case atStart=>exact⟨0,au _,rfl,rfl⟩
 case round =>
  obtain⟨k,j,rfl,rfl⟩:=hrel;by_cases b:k<s.size
  ·go_wp2;refine⟨⟨k+1,by omega,by go_num,by rw[xe s k b]⟩,?_⟩;simp[intOf];omega
  go_wp2;go_ret;have e:s.1.1.take k=s.1.1:=Qb R5;exact⟨congrArg (λl=>Ending.returned (.int .u32 (jN l:Int))) e,rfl⟩
end
section
open Tryz
open Go.Maps (Keyed string_keyed)
def str(l:a_):Value:=.string ⟨l.toArray⟩
theorem str_inj{a b:a_}(h:str a=str b):a=b:=by
 grind [str]
def dF(s):str s.1.1=.string s:=by
 unfold str;simp
def law:Keyed prog 9:=string_keyed underlying9
theorem jA(l)(h:l.length<=maxLen):keyOf prog 9 (str l)=some (.string l):=by
 have:=WideMaps.keyOf_string_mk (P:=prog) (k:=9) underlying9 (s:=⟨l.toArray⟩) (by show l.toArray.size<=_;simpa using h)
 grind [str]
def fJ(w:World)(b:Nat)(l:List (a_×Value)):Prop :=∃es clock,w.1[b]?=some (.map es clock)/\es.size<=maxLen/\Stamped es clock/\es.toList.map (λx=>(x.key,x.val))=l.map (λp=>(str p.1,p.2))/\∀p∈l,p.1.length<=maxLen
theorem fJ.lt{w:World}{b:Nat}{l:List (a_×Value)}(h:fJ w b l):b<w.1.size:=by
 obtain⟨es,clock,hb,_⟩:=h
 grind
def fJ.same{w w':World}{b:Nat}{l:List (a_×Value)}(h:fJ w b l)(hb:w'.1[b]?=w.1[b]?):fJ w' b l:=by
 obtain⟨es,clock,h1,h2⟩:=h;exact⟨es,clock,hb.trans h1,h2⟩
theorem fJ.isMap{w:World}{b:Nat}{l:List (a_×Value)}(h:fJ w b l):∃es clock,w.1[b]?=some (.map es clock):=by
 obtain⟨es,clock,h1,_⟩:=h
 grind
def xg(w:World):fJ (w.alloc (.map #[] 0)) w.1.size [] :=⟨#[],0,(MapKept.heap_alloc w _).1,by simp,stamped_empty 0,rfl,λp b=>by simp at b⟩
def qL{α β:Type}(f:α->β):∀{l:List α},(l.map f).Nodup->l.Nodup
 |[],_=>by simp
 |a :: l,h=>by
  simp only[Qg,QP]at h ⊢;exact⟨λb=>h.1 (aH.2 ⟨a,b,rfl⟩),qL f h.2⟩
theorem fJ.nodup{w:World}{b:Nat}{l:List (a_×Value)}(h:fJ w b l):(l.map (·.1)).Nodup:=by
 obtain⟨es,clock,h1,h2,j,m,n⟩:=h;have p:=j.2.2;have e1:es.toList.map (·.key)=(l.map (·.1)).map str:=by
  have:=congrArg (List.map Prod.fst) m;simpa[P8,QQ]using this
 grind
theorem entries{es:Array MapEntry}{l:List (a_×Value)}(b:es.toList.map (λx=>(x.key,x.val))=l.map (λp=>(str p.1,p.2)))(j:Nat):(es.toList[j]?).map (λx=>(x.key,x.val))=(l[j]?).map (λp=>(str p.1,p.2)):=by
 have:=congrArg (λz=>z[j]?) b
 grind
def kS{α:Type}:∀{l:List (a_×α)} {j:Nat} {k:a_} {a:α},(l.map (·.1)).Nodup->l[j]?=some (k,a)->bY.cr l k=some a
 |[],j,k,a,_,h=>by simp at h
 |p :: l,0,k,a,_,h=>by
  simp at h;rw[h,bY.dV,ag rfl]
 |p :: l,j+1,k,a,b,h=>by
  simp at h;simp only[Qg,QP]at b;rw[bY.dV,ae (λe=>b.1 ?_)]
  ·exact kS b.2 h
  rw[e];exact aH.2 ⟨(k,a),aL h,rfl⟩
theorem qM{w:World}{b:Nat}{l:List (a_×Value)}{k:a_}{es:Array MapEntry}{clock:Nat}(u:k.length<=maxLen)(y:Stamped es clock)(n:es.toList.map (λx=>(x.key,x.val))=l.map (λp=>(str p.1,p.2)))(z:∀p∈l,p.1.length<=maxLen):((Instr.findKey 9 (str k) es.toList).run prog w=.ok none w/\bY.cr l k=none/\∀x∈es.toList,x.key≠str k) \/∃j v e0,(Instr.findKey 9 (str k) es.toList).run prog w=.ok (some (j,v)) w/\bY.cr l k=some v/\l[j]?=some (k,v)/\es.toList[j]?=some e0/\e0.key=str k/\e0.val=v:=by
 have D:(l.map (·.1)).Nodup:=by
  have u:=y.2.2;have e1:es.toList.map (·.key)=(l.map (·.1)).map str:=by
   have:=congrArg (List.map Prod.fst) n;simpa[P8,QQ]using this
  grind
 have C:∀x∈es.toList,∃p∈l,x.key=str p.1/\x.val=p.2:=by
  intro x hx;obtain⟨j,hj⟩:=QZ hx;have:=entries n j
  grind
 rcases law.find w (jA k u) _ (λx hx=>by
  obtain⟨p,m,h1,_⟩:=C x hx;exact⟨_,by rw[h1];exact jA p.1 (z p m)⟩) with⟨h1,h2⟩|⟨j,e0,h1,h2,r⟩
 ·refine .inl ⟨h1,bY.jm.2 (λp m e=>?_),h2⟩;obtain⟨j,hj⟩:=QZ m;have:=entries n j
  grind
 have:=entries n j;rw[h2]at this;cases hl:l[j]? with
 |none=>rw[hl]at this;simp at this
 |some p =>
  rw[hl]at this;simp at this;have m:p=(k,e0.val):=by
   have:p.1=k:=str_inj (this.1.symm.trans r);exact Prod.ext this (by rename_i B;exact B.2.symm)
  exact .inr ⟨j,e0.val,e0,h1,kS D (hl.trans (by rw[m])),hl.trans (by rw[m]),h2,r,rfl⟩
section
variable {t e:TypeId}
theorem fJ.cr{w:World}{b:Nat}{l:List (a_×Value)}{k:a_}(h:fJ w b l)(r:prog.underlying t=some (.map 9 e))(p:k.length<=maxLen){z:Value}(hz:(zeroValue e).run prog w=.ok z w):(Instr.lookup t (.map (some b)) (str k) true).run prog w=.ok (match bY.cr l k with|some v=>.tuple #[v,.bool true]|none=>.tuple #[z,.bool false]) w:=by
 obtain⟨es,clock,h1,h2,u,y,B⟩:=h;rcases qM (w:=w) (b:=b) p u y B with⟨m,n,_⟩|⟨j,v,e0,m,n,_⟩
 ·rw[n];simp[Instr.lookup,run_underlying r,MapKept.run_getObj_map h1,law.check w _ (jA k p),m,hz,Result.andThen]
 rw[n];simp[Instr.lookup,run_underlying r,MapKept.run_getObj_map h1,law.check w _ (jA k p),m,Result.andThen]
def fJ.DK{w:World}{b:Nat}{l:List (a_×Value)}{k:a_}(h:fJ w b l)(r:prog.underlying t=some (.map 9 e))(p:k.length<=maxLen){z:Value}(hz:(zeroValue e).run prog w=.ok z w):(Instr.lookup t (.map (some b)) (str k) false).run prog w=.ok ((bY.cr l k).getD z) w:=by
 obtain⟨es,clock,h1,h2,u,y,B⟩:=h;rcases qM (w:=w) (b:=b) p u y B with⟨m,n,_⟩|⟨j,v,e0,m,n,_⟩
 ·rw[n];simp[Instr.lookup,run_underlying r,MapKept.run_getObj_map h1,law.check w _ (jA k p),m,hz,Result.andThen]
 rw[n];simp[Instr.lookup,run_underlying r,MapKept.run_getObj_map h1,law.check w _ (jA k p),m,Result.andThen]
def ku{w:World}{b:Nat}(o):w.grownBy (setBlock w b o) (some b) :=⟨rfl,rfl,rfl,by simp[setBlock],λk _ j=>by
  have:k≠b:=λe=>j SA;simp[setBlock,this.symm]⟩
def mz{w:World}{b:Nat}{o o':Obj}(h:w.1[b]?=some o'):(setBlock w b o).1[b]?=some o:=by
 have:=(Qe.1 h).1;simp[setBlock,this]
theorem yD{α:Type}{l:List (a_×α)}{k:a_}{v:α}(h:bY.cr l k=none):bY.put l k v=l++[(k,v)]:=by
 grind [bY.put]
def Cj{α:Type}:∀{l:List (a_×α)} {j:Nat} {k:a_} {u v:α},(l.map (·.1)).Nodup->l[j]?=some (k,u)->bY.put l k v=l.set j (k,v):=by
 intro l j k u v b hj;have hl:=kS b hj;unfold bY.put;rw[hl,ag (show(some u).isSome=true from rfl)];clear hl
 induction l generalizing j with
 |nil=>simp at hj
 |cons p l r =>
  simp only[Qg,QP]at b;cases j with
  |zero =>
   simp at hj;subst hj;simp only[Qg,Xc,beq_self_eq_true,aN,List.cons.injEq,true_and];rw[Qu (g:=id) (λq n=>?_),List.map_id];rw[ae]
   ·rfl
   intro e;exact b.1 (aH.2 ⟨q,n,by simpa using e⟩)
  |succ j =>
   simp at hj;have m:¬p.1=k:=λe=>b.1 (aH.2 ⟨(k,u),aL hj,e.symm⟩);simp only[Qg,Xd];rw[ae SD,r b.2 hj]
theorem ky{α:Type}{l:List (a_×α)}{k:a_}{v:α}{p:a_×α}(h:p∈bY.put l k v):p∈l\/p=(k,v):=by
 grind [bY.put]
theorem fJ.put{w:World}{b:Nat}{l:List (a_×Value)}{k:a_}(h:fJ w b l)(E:prog.underlying t=some (.map 9 e))(m:k.length<=maxLen)(N:l.length<maxLen)(v):∃w',(Instr.mapUpdate t (.map (some b)) (str k) v).run prog w=.ok () w'/\fJ w' b (bY.put l k v)/\w.grownBy w' (some b)/\w'.1.size=w.1.size:=by
 have K:=h.nodup;obtain⟨es,clock,h1,h2,z,n,I⟩:=h;have hlen:es.size=l.length:=by have:=congrArg List.length n;simpa using this
 have C:∀p∈bY.put l k v,p.1.length<=maxLen:=λp D=>by
  rcases ky D with D|rfl
  ·grind
  exact m
 rcases qM (w:=w) (b:=b) m z n I with⟨r,B,y⟩|⟨j,u,e0,r,B,y,F,G,L⟩
 ·refine⟨setBlock w b _,?_,⟨es.push ⟨str k,v,clock⟩,clock+1,mz h1,by simp;omega,stamped_push z y,?_,C⟩,ku _,by simp[setBlock]⟩
  ·simp[Instr.mapUpdate,run_underlying E,MapKept.run_getObj_map h1,law.check w false (jA k m),r,MapKept.run_setObj_map _ h1,Result.andThen,setBlock]
  rw[yD B,Array.toList_push,aV,aV,n];rfl
 have hj:es[j]?=some e0:=by grind
 have J:(es.modify j (λe'=>{ e' with key:=str k,val:=v })).toList=es.toList.set j { e0 with key:=str k,val:=v }:=by rw[Array.toList_modify,modify_eq_set _ _ _ _ F]
 refine⟨setBlock w b (.map (es.modify j (λe'=>{ e' with key:=str k,val:=v })) clock),?_,⟨es.modify j (λe'=>{ e' with key:=str k,val:=v }),clock,mz h1,by simpa using h2,stamped_modify z _ _ (λ_ _=>rfl) (λe' _ M=>?_),?_,C⟩,ku _,by simp[setBlock]⟩
 ·simp[Instr.mapUpdate,run_underlying E,MapKept.run_getObj_map h1,law.check w false (jA k m),r,hj,G,law.stays w (jA k m),MapKept.run_setObj_map _ h1,Result.andThen,setBlock]
 ·grind
 rw[Cj K y,J,QR,QR,n]
def Ck{α:Type}:∀{l:List (a_×α)} {j:Nat} {k:a_} {u:α},(l.map (·.1)).Nodup->l[j]?=some (k,u)->bY.del l k=l.eraseIdx j:=by
 intro l j k u b hj;unfold bY.del
 induction l generalizing j with
 |nil=>simp at hj
 |cons p l r =>
  simp only[Qg,QP]at b;cases j with
  |zero =>
   simp at hj;subst hj;rw[QY,ae R2,List.eraseIdx_cons_zero,RQ];intro q n;have:¬q.1=k:=λe=>b.1 (aH.2 ⟨q,n,e⟩);simp[this]
  |succ j =>
   simp at hj;have m:¬p.1=k:=λe=>b.1 (aH.2 ⟨(k,u),aL hj,e.symm⟩);rw[QY,ag SD,List.eraseIdx_cons_succ,r b.2 hj]
theorem Ab{α:Type}{l:List (a_×α)}{k:a_}(h:bY.cr l k=none):bY.del l k=l:=by
 unfold bY.del;rw[RQ];intro q b
 grind [bY.jm.1]
theorem fJ.del{w:World}{b:Nat}{l:List (a_×Value)}{k:a_}{ty:TypeId}(h:fJ w b l)(D:prog.underlying t=some (.map 9 e))(B:k.length<=maxLen):∃w',(Builtin.delete_ #[t,9] ty #[.map (some b),str k]).run prog w=.ok (.tuple #[]) w'/\fJ w' b (bY.del l k)/\w.grownBy w' (some b)/\w'.1.size=w.1.size:=by
 have F:=h.nodup;obtain⟨es,clock,h1,h2,r,y,z⟩:=h;rcases qM (w:=w) (b:=b) B r y z with⟨m,n,C⟩|⟨j,u,e0,m,n,C,E,J,K⟩
 ·refine⟨setBlock w b _,?_,⟨es,clock,mz h1,h2,r,by rw[Ab n];exact y,by rw[Ab n];exact z⟩,ku _,by simp[setBlock]⟩;simp[Builtin.delete_,run_underlying D,MapKept.run_getObj_map h1,law.check w _ (jA k B),m,MapKept.run_setObj_map _ h1,Result.andThen,setBlock]
 have L:=(az.1 E).1;have M:j<es.size:=RM;have I:(es.eraseIdxIfInBounds j).toList=es.toList.eraseIdx j:=by
  simp_all
 refine⟨setBlock w b _,?_,⟨es.eraseIdxIfInBounds j,clock,mz h1,ah (MapFrom.size_erase es j) h2,stamped_erase r j,?_,?_⟩,ku _,by simp[setBlock]⟩
 ·simp[Builtin.delete_,run_underlying D,MapKept.run_getObj_map h1,law.check w _ (jA k B),m,MapKept.run_setObj_map _ h1,Result.andThen,setBlock]
 ·rw[I,Ck F C,map_eraseIdx,map_eraseIdx,y]
 intro p G;exact z p ((Ry).subset G)
def fJ.clear{w:World}{b:Nat}{l:List (a_×Value)}{ty:TypeId}(h:fJ w b l)(m:prog.underlying t=some (.map 9 e)):∃w',(Builtin.clear_ #[t] ty #[.map (some b)]).run prog w=.ok (.tuple #[]) w'/\fJ w' b []/\w.grownBy w' (some b)/\w'.1.size=w.1.size:=by
 obtain⟨es,clock,h1,h2,n,r,u⟩:=h;refine⟨setBlock w b _,?_,⟨#[],clock,mz h1,by simp,stamped_empty clock,rfl,λp j=>by simp at j⟩,ku _,by simp[setBlock]⟩;simp[Builtin.clear_,run_underlying m,MapKept.run_getObj_map h1,MapKept.run_setObj_map _ h1,Result.andThen,setBlock]
def fJ.len{w:World}{b:Nat}{l:List (a_×Value)}{ty:TypeId}(h:fJ w b l)(m:prog.underlying t=some (.map 9 e)):(Builtin.len_ #[t] ty #[.map (some b)]).run prog w=.ok (.int .i64 l.length) w:=by
 obtain⟨es,clock,h1,h2,n,j,p⟩:=h;have hlen:es.size=l.length:=by have:=congrArg List.length j;simpa using this
 simp[Builtin.len_,run_underlying m,MapKept.run_getObj_map h1,Result.andThen,hlen,goInt]
end
end
section
open bY
open Tryz
variable{u k:Nat}
def jI(w:QV):Prop:=w.cell? ⟨7,15,none⟩=some (.int .u8 4)
def b1:bits .and .i64 16 15=0:=RZ
def b2:IntKind.u64.wrap (bits .and .u64 16 (IntKind.u64.wrap (-16))*285870213051353865) / 288230376151711744=15:=RZ
attribute [local go_sem] b1 b2
def KI(w):Calls prog 267 #[.int .i64 16] w λe w'=>e=.returned (.bool true)/\w'=w:=by
 go_enter func267,ntmps267;go_wp2;go_ret;exact⟨rfl,rfl⟩
def Ol(w)(h:jI w):Calls prog 299 #[.int .u64 16] w λe w'=>e=.returned (.int .i64 4)/\w'=w:=by
 unfold jI at h;go_enter func299,ntmps299;go_wp2;go_ret;exact⟨rfl,rfl⟩
def Na(w)(h:jI w):Calls prog 268 #[.int .u64 16] w λe w'=>e=.returned (.int .i64 4)/\w'=w:=by
 go_enter func268,ntmps268;go_wp2_with(go_at_call 299;refine(Ol _ h).mono ?_;rintro e w' ⟨rfl,rfl⟩);go_ret;exact⟨rfl,rfl⟩
def Om(u:Nat)(hu:u<18446744073709551616):bits .and .u64 u 15=((u%16:Nat):Int):=by
 have h:bits .and .u64 _ 15=IntKind.u64.wrap (((BitVec.ofInt 64 (u:Int)) &&& (BitVec.ofInt 64 15)).toNat:Int):=rfl;rw[h,BitVec.toNat_and];have e:(BitVec.ofInt 64 (u:Int)).toNat=u:=by
  rw[BitVec.toNat_ofInt];have:((u:Int)%((2^64:Nat):Int))=u:=by
   show(u:Int)%18446744073709551616=u;omega
  rw[this];rfl
 rw[e];have e2:(BitVec.ofInt 64 15).toNat=2^4-1:=rfl;rw[e2,Nat.and_two_pow_sub_one_eq_mod];have:IntKind.u64.wrap (((u%2^4:Nat)):Int)=((u%16:Nat):Int)%18446744073709551616:=by
  simp[IntKind.wrap,IntKind.bits,IntKind.signed]
 rw[this];omega
def gw(u:Nat):Nat->a_
 |0=>[]
 |k+1=>jY (u / 16^k%16) :: gw u k
def iZ(u):∀k,(gw u k).length=k
 |0=>rfl
 |k+1=>by rw[gw,aM,iZ u k]
def Oo:zeroCells341.size=65:=RO
def yE:ba:=⟨#[48,49,50,51,52,53,54,55,56,57,97,98,99,100,101,102,103,104,105,106,107,108,109,110,111,112,113,114,115,116,117,118,119,120,121,122]⟩
def Hd:∀d:Fin 16,(yE[d.val]'(by have:=d.isLt;show d.val<36;omega))=jY d.val:=RZ
def DL{d:Nat}(h:d<16)(h':d<yE.size):yE[d]'h'=jY d:=Hd ⟨d,h⟩
def uw(w wr:QV)(u k:Nat):Prop :=∃arr,wr.1[w.1.size]?=some (.cells arr 341 (0,0))/\arr.size=65/\Xb w wr/\∀j,j<k->arr[65-k+j]?=((gw u k)[j]?).map λc=>.int .u8 (c.toNat:Int)
def uw.start(w u):uw w (w.alloc (.cells zeroCells341 341)) u 0 :=⟨_,heap_alloc_new w _,Oo,(Uz _ w).alloc (af _) _,λj hj=>by omega⟩
def uw.step{w wr:QV}(h:uw w wr u k)(l:k<65):uw w (wr.setCell ⟨w.1.size,65-(k+1),none⟩ (.int .u8 ((jY (u / 16^k%16)).toNat:Int))) u (k+1):=by
 obtain⟨arr,h1,h2,b,e⟩:=h;refine⟨arr.setIfInBounds (65-(k+1)) (.int .u8 ((jY (u / 16^k%16)).toNat:Int)),?_,by simpa using h2,b.setCell (af _) _,λj hj=>?_⟩
 ·simp[World.setCell,Qj,h1]
 rw[Array.getElem?_setIfInBounds];cases j with
 |zero =>
  rw[ag RM,ag RM,gw];rfl
 |succ j =>
  rw[ae RM,gw];have:=e j RM;rw[show 65-(k+1)+(j+1)=65-k+j by omega,this];simp
def uw.cell{w wr:QV}{j:Nat}(h:uw w wr u k)(l:k<=65)(hj:j<(gw u k).length):wr.cell? ⟨w.1.size,65-k+j,none⟩=some (.int .u8 ((gw u k)[j].toNat:Int)):=by
 obtain⟨arr,h1,h2,e,b⟩:=h;rw[iZ]at hj;have:=b j hj;rw[aq (by rw[iZ];exact hj)]at this;simp[World.cell?,h1,this]
def uw.can{w wr:QV}{i:Nat}(h:uw w wr u k)(hi:i<65):(∃v,wr.cell? ⟨w.1.size,i,none⟩=some v)/\wr.frozen? ⟨w.1.size,i,none⟩=false:=by
 obtain⟨arr,h1,h2,b,e⟩:=h;refine⟨⟨arr[i]' RM,?_⟩,?_⟩
 ·simp[World.cell?,h1,QS (show i<arr.size by omega)]
 simp[World.frozen?,h1]
def addr_add(B o j):(⟨B,o,none⟩:Addr).add j=⟨B,o+j,none⟩:=by
 cases j with
 |zero=>simp[Addr.add]
 |succ j=>simp[Addr.add]
def Oq:prog.underlying 341=some (.array (prog.arrayLen 341) (prog.elem 341)):=RO
def He:prog.arrayLen 341=65:=RO
def KJ(w):(sizeOf (prog.elem 341)).run prog w=.ok 1 w:=RO
def Hf(B k:Nat)(e:k<=7)(W):(Instr.sliceAt 341 (.pointer (some ⟨B,0,none⟩)) (some (.int .i64 (65-k-1))) none none).run prog W=.ok (.slice (some ⟨B,65-k-1,none⟩) (k+1) (k+1)) W:=by
 rw[run_sliceAt_array_l W 341 ⟨B,0,none⟩ Oq .i64 _ RM (by rw[He];omega),KJ,He];have h1:(65-(k:Int)-1).toNat=65-k-1:=RM;have h2:¬65=65-k-1:=RM;have b:65-(65-k-1)=k+1:=RM;simp[Result.andThen,slicedAt,h1,h2,b,Addr.add];omega
def wA(u:Nat)(w)(hu:u<4294967296)(h:jI w)(J:8<=w.1.size):Calls prog 223 #[.slice none 0 0,.int .u64 u,.int .i64 16,.bool false,.bool false] w λe w'=>(∃k,k<=7/\u<16^(k+1)/\e=.returned (.tuple #[.slice none 0 0,.string ⟨(gw u (k+1)).toArray⟩]))/\Xb w w':=by
 have B:jI (w.alloc (.cells zeroCells341 341)):=by
  unfold jI at h ⊢;rw[<-h];exact UF (UE w _ _ (by show 7<_;omega))
 have hS:=uw.start w u;go_enter func223,ntmps223;go_wp2_with(first|(go_at_call 267;refine(KI _).mono ?_;rintro e w' ⟨rfl,rfl⟩)|(go_at_call 268;refine(Na _ B).mono ?_;rintro e w' ⟨rfl,rfl⟩))
 go_loopw [1,13] (λx i wr=>∃k:Nat,k<=7/\i=.int .i64 (65-(k:Int))/\x=.int .u64 ((u / 16^k:Nat):Int)/\uw w wr u k) (λx _ _=>(intOf x).toNat)
 case atStart=>exact⟨0,by omega,by go_num,by simp,hS⟩
 case round =>
  obtain⟨k,b,rfl,rfl,hd⟩:=hrel;have hx:u / 16^k<4294967296:=Rz (Nat.div_le_self _ _) hu;have K:=Om (u / 16^k) RM;have E:u / 16^(k+1)=u / 16^k / 16:=by rw[RA,Nat.div_div_eq_div_mul]
  have F:=hd.step RM;obtain⟨⟨O,hc⟩,hf⟩:=hd.can (i:=65-k-1) RM;have C:u / 16^k<16->u<16^(k+1):=λh=>by
   rw[RA,Nat.mul_comm];exact(Nat.div_lt_iff_lt_mul (Nat.pow_pos RM)).1 h
  have D:u / 16^k%16<16:=Ra _ RM;have n:=bZ F;have r:=bZ E;have HL:=bZ C;by_cases L:16<=u / 16^k
  ·have M:k<=6:=by
    rcases Qh k 7 with h|h
    ·omega
    obtain rfl:k=7:=RM;have:u / 16^7<16:=by
     show u / 268435456<16;omega
    omega
   generalize G:u / 16^k=x at *;go_wp2;refine⟨⟨k+1,by omega,by go_num,?_,?_⟩,?_⟩
   ·rw[r.Z];rfl
   ·have:=n.Z;rw[<-DL D (by show x%16<36;omega)]at this;exact this
   simp[intOf];omega
  generalize G:u / 16^k=x at *;have I:x%16=x:=Nat.mod_eq_of_lt RM;have l:=n.Z;rw[I,<-DL RM (show x<yE.size by show x<36;omega)]at l;have p:=run_convert_bytes_back (P:=prog) (wr.setCell ⟨w.1.size,65-k-1,none⟩ (.int .u8 ((yE[x]'(show x<yE.size by show x<36;omega)).toNat:Int))) 106 9 5 ⟨w.1.size,65-k-1,none⟩ (k+1) _ underlying106 underlying5 underlying9 (λj hj=>by have:=l.cell RM hj;rw[show 65-(k+1)+j=65-k-1+j by omega]at this;rw[addr_add];exact this);rw[iZ]at p;have N:=Hf w.1.size k b;have m:=bZ (show(∃k,k<=7/\u<16^(k+1)/\Ending.returned _=.returned (.tuple #[.slice none 0 0,.string ⟨(gw u (k+1)).toArray⟩]))/\Below _ w (wr.setCell ⟨w.1.size,65-k-1,none⟩ (.int .u8 ((yE[x]'(show x<yE.size by show x<36;omega)).toNat:Int))) from⟨⟨k,b,HL.Z RM,rfl⟩,by obtain⟨_,_,_,z,_⟩:=l;exact z⟩);unfold yE at p m;have y:=bZ (HL.Z RM);go_wp2;go_ret2;exact⟨⟨k,b,y.Z,rfl⟩,m.Z.2⟩
def wB(u:Nat)(w)(hu:u<4294967296)(h:jI w)(b:8<=w.1.size):Calls prog 187 #[.int .u64 u,.int .i64 16] w λe w'=>(∃k,k<=7/\u<16^(k+1)/\e=.returned (.string ⟨(gw u (k+1)).toArray⟩))/\Xb w w':=by
 go_enter func187,ntmps187;go_wp2_with(go_at_call 223;refine(wA u _ hu h b).mono ?_;rintro e w' ⟨⟨k,l,m,rfl⟩,j⟩);go_ret;exact⟨⟨k,l,m,rfl⟩,j⟩
def wC(u:Nat)(w)(hu:u<4294967296)(h:jI w)(b:8<=w.1.size):Calls prog 137 #[.int .u64 u,.int .i64 16] w λe w'=>(∃k,k<=7/\u<16^(k+1)/\e=.returned (.string ⟨(gw u (k+1)).toArray⟩))/\Xb w w':=by
 go_enter func137,ntmps137;go_wp2_with(go_at_call 187;refine(wB u _ hu h b).mono ?_;rintro e w' ⟨⟨k,l,m,rfl⟩,j⟩);go_ret;exact⟨⟨k,l,m,rfl⟩,j⟩
def KK:jY 0=48:=RZ
def ux(u k)(h:u<16^k):∀n,gw u (n+k)=List.replicate n 48++gw u k
 |0=>by simp
 |n+1=>by
  have h1:u / 16^(n+k)=0:=Nat.div_eq_of_lt (aA h (Nat.pow_le_pow_right RM RM));rw[show n+1+k=(n+k)+1 by omega,gw,ux u k h n,h1,List.replicate_succ,KK];rfl
def Hg(u):gw u 8=wv u:=by
 simp[gw,wv,List.range,List.range.loop]
def E3(t u k)(b:k<=7)(h:u<16^(k+1)):t++([32,48,48,48,48,48,48,48,48]:a_).take (9-(k+1))++gw u (k+1)++[10]=t++32 :: (wv u++[10]):=by
 have h1:([32,48,48,48,48,48,48,48,48]:a_).take (9-(k+1))=32 :: List.replicate (7-k) 48:=by
  have:∀k:Fin 8,([32,48,48,48,48,48,48,48,48]:a_).take (9-(k.val+1))=32 :: List.replicate (7-k.val) 48:=RZ;exact this ⟨k,by omega⟩
 have h2:=ux u _ h (7-k);rw[show 7-k+(k+1)=8 by omega,Hg]at h2;rw[h1,h2];simp
def KL(s w)(hs:s.size<=140737488355328)(h:jI w)(j:8<=w.1.size):Calls prog 94 #[.string s] w λe w'=>e=.returned (str (bY.line s.1.1))/\Xb w w':=by
 have p:=uv s.1.1;go_enter func94,ntmps94;go_wp2_with fail;refine(Hc s _ RM).mono ?_;rintro e w1⟨rfl,rfl⟩;go_wp2_with fail;refine(wC _ _ p h j).mono ?_;rintro e w2⟨⟨k,m,n,rfl⟩,l⟩;have r:=E3 s.1.1 _ k m n;have hl:=iZ (jN s.1.1) (k+1);obtain⟨x,hx⟩:∃x:ba,(⟨(gw (jN s.1.1) (k+1)).toArray⟩:ba)=x:=⟨_,rfl⟩;have z:x.size=k+1:=by rw[<-hx];show(gw _ _).toArray.size=_;simpa using hl
 have y:x.1.1=gw (jN s.1.1) (k+1):=Ss;rw[hx];have b:=bZ (show str (bY.line s.1.1)=.string (s++(⟨#[32,48,48,48,48,48,48,48,48]⟩:ba).extract 0 (8-k)++x++⟨#[10]⟩)from by
  unfold str bY.line;rw[<-r,show 9-(k+1)=8-k by omega]
  congr 1
  apply ByteArray.ext;apply Array.ext';simp[y])
 go_wp2;go_ret;rw[b.Z];exact⟨rfl,l⟩
end
