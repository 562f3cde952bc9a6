/- Out of: Rk, Rk2, K2, K3, D1. -/
import Derived.Test.YtpekpdimdelncaaGreatDoorP34
import Derived.Test.YtpekpdimdelncaaGreatDoorP28
import Derived.Test.YtpekpdimdelncaaGreatDoorP26
import Derived.Laws.BytesArg
set_option linter.unusedVariables false
set_option linter.unusedSimpArgs false
namespace Go.Proofs.YtpekpdimdelncaaGreatDoor
section
open Go.RowKit
namespace Lard
def textA:By:=[123,120,43,121,44,120,45,121,44,120,42,121,44,120,60,121,44,120,61,121,44,109,105,110,40,120,44,121,41,44,109,97,120,40,120,44,121,41,44,45,120,44,105,102,32,120,60,121,32,116,104,101,110,32,49,32,101,108,115,101,32,50,44,116,114,121,40,120,47,121,44,39,110,111,39,41,125]
def nX:T:=⟨3,0,[120],.none,[]⟩
def nY:T:=⟨3,0,[121],.none,[]⟩
def nW:T:=⟨3,0,[119],.none,[]⟩
def nL:T:=⟨3,0,[108],.none,[]⟩
def tI:T:=⟨4,0,[],.none,[]⟩
def treeA:T:=⟨8,0,[],.none,[⟨1,43,[],.none,[nX,nY]⟩,⟨1,45,[],.none,[nX,nY]⟩,⟨1,42,[],.none,[nX,nY]⟩,⟨1,60,[],.none,[nX,nY]⟩,⟨1,61,[],.none,[nX,nY]⟩,⟨13,109,[],.none,[nX,nY]⟩,⟨13,120,[],.none,[nX,nY]⟩,⟨5,0,[],.none,[nX]⟩,⟨9,0,[],.none,[⟨1,60,[],.none,[nX,nY]⟩,⟨2,0,[],some (vn 1),[]⟩,⟨2,0,[],some (vn 2),[]⟩]⟩,⟨14,0,[],.none,[⟨1,47,[],.none,[nX,nY]⟩,⟨2,0,[],some (vw [110,111]),[]⟩]⟩]⟩
def textB (d:UInt8):By:=[123,119,43,119,111,114,100,40,121,41,44,115,105,122,101,40,119,41,44,115,105,122,101,40,108,41,44,116,114,121,40,97,116,40,108,44,d,41,44,39,110,111,110,101,39,41,44,101,97,99,104,40,115,111,109,101,40,101,97,99,104,40,108,44,116,114,121,40,105,116,43,48,44,123,125,41,41,44,49,45,40,105,116,61,123,125,41,41,44,105,116,45,120,41,44,108,61,108,43,123,125,125]
def treeB (i:Int):T:=⟨8,0,[],.none,[⟨1,43,[],.none,[nW,⟨12,0,[],.none,[nY]⟩]⟩,⟨10,0,[],.none,[nW]⟩,⟨10,0,[],.none,[nL]⟩,⟨14,0,[],.none,[⟨13,64,[],.none,[nL,⟨2,0,[],some (vn i),[]⟩]⟩,⟨2,0,[],some (vw [110,111,110,101]),[]⟩]⟩,⟨15,0,[],.none,[⟨16,0,[],.none,[⟨15,0,[],.none,[nL,⟨14,0,[],.none,[⟨1,43,[],.none,[tI,⟨2,0,[],some (vn 0),[]⟩]⟩,⟨8,0,[],.none,[]⟩]⟩]⟩,⟨1,45,[],.none,[⟨2,0,[],some (vn 1),[]⟩,⟨6,0,[],.none,[⟨1,61,[],.none,[tI,⟨8,0,[],.none,[]⟩]⟩]⟩]⟩]⟩,⟨1,45,[],.none,[tI,nX]⟩]⟩,⟨1,61,[],.none,[nL,⟨1,43,[],.none,[nL,⟨8,0,[],.none,[]⟩]⟩]⟩]⟩
def nA (x y:Int) (k:By):Option Wo :=
 if k=[120] then some (.ok (vn x)) else if k=[121] then some (.ok (vn y)) else if k=[119] then some (.ok (vw (119 :: Lib.itoa x))) else if k=[108] then some (.ok (vl [vn x,vw [113],vn y])) else none
def valA (x y:Int):V:=vl [vn (x + y),vn (x - y),vn (x * y),bit (decide (x < y)),bit (decide (x=y)),vn (min x y),vn (max x y),vn (-x),vn (if x < y then 1 else 2),if y=0 then vw [110,111] else vn (x.tdiv y)]
section
variable (x y:Int)
end
def item8:T:=⟨9,0,[],.none,[⟨1,60,[],.none,[nX,nY]⟩,⟨2,0,[],some (vn 1),[]⟩,⟨2,0,[],some (vn 2),[]⟩]⟩
def item9:T:=⟨14,0,[],.none,[⟨1,47,[],.none,[nX,nY]⟩,⟨2,0,[],some (vw [110,111]),[]⟩]⟩
def accA (x y:Int):List V:=[vn (wrap (x + y)),vn (wrap (x - y)),vn (wrap (x * y)),bit (decide (x < y)),bit (x == y),vn (min x y),vn (max x y),vn (wrap (0 - x))]
def thirdB (x y:Int) (i:Nat):V:=if i=0 then vn x else if i=1 then vw [113] else if i=2 then vn y else vw [110,111,110,101]
def valB (x y:Int) (i:Nat):V:=vl [vw (119 :: (Lib.itoa x++Lib.itoa y)),vn (1 + (Lib.itoa x).length),vn 3,thirdB x y i,vl [vn 0,vn (y - x)],vn 1]
def valB' (x y:Int) (i:Nat) (W:By):V:=vl [vw W,vn ((119 :: Lib.itoa x).length:Nat),vn 3,thirdB x y i,vl [vn (wrap (wrap (x + 0) - x)),vn (wrap (wrap (y + 0) - x))],bit (same 3 (vl [vn x,vw [113],vn y]) (vl [vn x,vw [113],vn y]))]
def item0:T:=⟨1,43,[],.none,[nW,⟨12,0,[],.none,[nY]⟩]⟩
end Lard
end
section
open Go.RowKit
namespace Lard
theorem itoa_len8 {x:Int} (h:-9999999≤x∧x≤9999999):(Lib.itoa x).length≤8:=by
 unfold Lib.itoa
 split
 ·have:=dec_len 6 x.natAbs (by show _ < 10000000; omega)
  simp
  omega
 ·have:=dec_len 6 x.toNat (by show _ < 10000000; omega)
  omega
structure RkE (e:Src) (x y:Int):Prop where
 hx:e [120]=some (.inl (vn x))
 hy:e [121]=some (.inl (vn y))
 hw:e [119]=some (.inl (vw (119 :: Lib.itoa x)))
 hl:e [108]=some (.inl (vl [vn x,vw [113],vn y]))
theorem RkE.base {e:Src} {x y:Int} (h:RkE e x y):∀ k u,nA x y k=some u→W e k u:=by
 intro k u hk
 unfold nA at hk
 split at hk
 ·rename_i h1; cases hk; subst h1; exact ⟨0,.inr ⟨_,h.hx,rfl⟩⟩
 split at hk
 ·rename_i h1; cases hk; subst h1; exact ⟨0,.inr ⟨_,h.hy,rfl⟩⟩
 split at hk
 ·rename_i h1; cases hk; subst h1; exact ⟨0,.inr ⟨_,h.hw,rfl⟩⟩
 split at hk
 ·rename_i h1; cases hk; subst h1; exact ⟨0,.inr ⟨_,h.hl,rfl⟩⟩
 ·cases hk
theorem hM_ge (t:T):8≤hM t:=by
 unfold hM
 rw [Nat.zero_mul,Nat.add_zero]
 have:∀ n,n≤hT n:=by
  intro n
  induction n with
  |zero=>exact Nat.zero_le _
  |succ n ih=>show n + 1≤hT n + n + 2; omega
 exact Nat.le_trans (by omega) (this 1605)
def textE:By:=[97,42,97,43,49]
def treeE:T:=⟨1,43,[],.none,[⟨1,42,[],.none,[⟨3,0,[97],.none,[]⟩,⟨3,0,[97],.none,[]⟩]⟩,⟨2,0,[],some (vn 1),[]⟩]⟩
theorem ok_E:okT 4 false treeE=true:=by kernel_rfl
def nE (k:By):Option Wo:=if k=[97] then some (.ok (vn 2)) else none
theorem ev_E:ev (ans nE) 4 treeE none (400,true)=(.ok (vn 5),(397,true)):=by kernel_rfl
theorem w_E {e:Src} (ha:e [97]=some (.inl (vn 2))) {k:By} (hk:e k=some (.inr treeE)):W e k (.ok (vn 5)) :=
 w_ev (N0:=nE) (fun k u h=>by
  unfold nE at h
  split at h
  ·rename_i h1; cases h; subst h1; exact ⟨0,.inr ⟨_,ha,rfl⟩⟩
  ·cases h) hk ok_E (Nat.le_trans (by omega) (hM_ge _)) ev_E (fun e=>by cases e)
theorem ask_is {s:LS} (hs:Sound s) {key:By} {w:Wo} (hw:W (srcOf s.has) key w):(s.ask key).1=w:=by
 obtain ⟨_,_,h1,_⟩:=hs.bp key
 exact h1.det (.inl hw)
end Lard
end
section
set_option maxRecDepth 100000
set_option maxHeartbeats 2000000
open Go.RowKit Go.Shelf
def Lard.LS.gv (s:Lard.LS) (key:List UInt8) (th:Lard.Thing):Lard.LS:={ s with has:=Lard.put s.has key th }.write (Lard.thingText key th)
theorem give_room {s:Lard.LS} {key:List UInt8} {th:Lard.Thing} (h:s.has.length < 40):s.give key th=(0,s.gv key th):=by
 unfold Lard.LS.give
 rw [if_neg (fun e=>by omega)]
 rfl
theorem gv_jr (s:Lard.LS) (key:List UInt8) (th:Lard.Thing):(jbytes (s.gv key th).jr).length=(jbytes s.jr).length + (Lard.thingText key th).length + 10:=by
 show (jbytes (s.jr++[_])).length=_
 rw [jbytes_snoc,List.length_append,line_len]
 omega
theorem ld_put {B:Nat} {w0 w:World} {lb:Nat} {s:Lard.LS} {N:Nat} (h:Ld B w0 w lb s N) (key text:ByteArray) (v:Lard.V) (hn:Lard.isName key.data.toList=true) (hv:Lard.rdV text.data.toList=some v) (hroom:s.has.length < 40) (hts:text.size≤1000) (hN:N≤10000000000000) :
  Calls Tryz.prog 23 #[ptr lb,.string key,.string text] w fun e w'=>e=.returned (.int .i64 0)∧Ld B w0 w' lb (s.gv key.data.toList ⟨v,none,[],none⟩) (N + 2000):=by
 obtain ⟨L,hA,hL⟩:=h.lat
 have hk8:=name_len hn
 have hk8':key.size≤8:=by rw [size_data]; exact hk8
 obtain ⟨hok,hwr⟩:=Lard.rdV_some hv
 have hput:s.putC key.data.toList text.data.toList=(0,s.gv key.data.toList ⟨v,none,[],none⟩):=by
  unfold Lard.LS.putC
  rw [if_neg (by rw [hn]; exact fun e=>by cases e),hv]
  exact give_room hroom
 have:=put_any w lb key text s L hA h.g h.deb (by omega) (by omega) (by omega) (by have:=h.jr; omega)
 rw [hput] at this
 refine this.mono ?_
 rintro e w' ⟨rfl,hP⟩
 refine ⟨rfl,h.post hA hL hP (h.sound.put (key:=key.data.toList) (th:=⟨v,none,[],none⟩) ⟨rfl,.inl ⟨rfl,hok⟩⟩ (.inr hroom) _) ?_⟩
 rw [gv_jr]
 have hl:(Lard.thingText key.data.toList ⟨v,none,[],none⟩).length=5 + key.data.toList.length + text.data.toList.length:=by
  unfold Lard.thingText
  simp [←hwr]
  omega
 have h1:=h.jr
 have h2:text.data.toList.length≤1000:=by rw [←size_data]; exact hts
 omega
theorem ld_set {B:Nat} {w0 w:World} {lb:Nat} {s:Lard.LS} {N:Nat} (h:Ld B w0 w lb s N) (key text:ByteArray) (t:Lard.T) (hn:Lard.isName key.data.toList=true) (ht:Lard.ruleT text.data.toList=some t) (hroom:s.has.length < 40) (hN:N≤10000000000000) :
  Calls Tryz.prog 25 #[ptr lb,.string key,.string text] w fun e w'=>e=.returned (.tuple #[.int .i64 0,.int .i64 0])∧Ld B w0 w' lb (s.gv key.data.toList ⟨Lard.vn 0,some t,text.data.toList,none⟩) (N + 2000):=by
 obtain ⟨L,hA,hL⟩:=h.lat
 have hk8:=name_len hn
 obtain ⟨h200,htt,_⟩:=ruleT_ok ht
 have:=set_ok w lb key text s L t hA h.g h.deb hn ht (by omega) (by have:=h.jr; omega)
 rw [give_room hroom] at this
 refine this.mono ?_
 rintro e w' ⟨rfl,hP⟩
 refine ⟨rfl,h.post hA hL hP (h.sound.put (key:=key.data.toList) (th:=⟨Lard.vn 0,some t,text.data.toList,none⟩) ⟨rfl,.inr ⟨t,rfl,by rw [htt]; exact Lard.clo_treeOf _⟩⟩ (.inr hroom) _) ?_⟩
 rw [gv_jr]
 have hl:(Lard.thingText key.data.toList ⟨Lard.vn 0,some t,text.data.toList,none⟩).length=5 + key.data.toList.length + text.data.toList.length:=by
  unfold Lard.thingText
  simp
  omega
 have h1:=h.jr
 omega
theorem Ld.fit {B:Nat} {w0 w:World} {lb:Nat} {s:Lard.LS} {N:Nat} (h:Ld B w0 w lb s N):Fit s N:=⟨h.sound.kb,h.sound.begun,h.sound.len,h.jr⟩
theorem ld_ask {B:Nat} {w0 w:World} {lb:Nat} {s:Lard.LS} {N:Nat} (h:Ld B w0 w lb s N) (key:ByteArray) (hn:Lard.isName key.data.toList=true) (hN:N≤10000000000000) :
  Calls Tryz.prog 22 #[ptr lb,.string key] w fun e w'=>∃ (o:Option Addr) (m c:Nat) (tc:Int) (ts:ByteArray),e=.returned (.tuple #[.string ts,.int .i64 tc,.slice o m c])∧toldV (s.ask key.data.toList).1=.agg #[.int .i64 tc,.string ts]∧Ld B w0 w' lb (s.ask key.data.toList).2 (N + 2000000000) ∧
   m=(if tc=12 then (s.ask key.data.toList).2.ring else []).length∧∀ (j:Nat) (x:List UInt8),(if tc=12 then (s.ask key.data.toList).2.ring else [])[j]? = some x→∃ a,o=some a∧w'.cell? (a.add j)=some (str x):=by
 obtain ⟨L,hA,hL⟩:=h.lat
 have hk8:=name_len hn
 have hk8':key.size≤8:=by rw [size_data]; exact hk8
 refine (ask_any w lb key s L N hA h.g h.deb (by omega) hn h.fit (by omega)).mono ?_
 rintro e w' ⟨v,tc,ts,L',rfl,htv,q1,q2,q3,q4,hphi,hr⟩
 have hP:LPost0 w lb L (s.ask key.data.toList).2 w':=⟨L',q1,q2,q3,q4.toFrm⟩
 have hld:=h.post hA hL hP (h.sound.ask _) (h.fit.ask _ hphi).jr
 rcases hr with ⟨rfl,hr⟩ | ⟨g,c,rfl,_,_,ho⟩
 ·refine ⟨_,_,_,tc,ts,rfl,htv,hld,by rw [hr]; rfl,fun j x hx=>?_⟩
  rw [hr] at hx
  cases hx
 ·refine ⟨_,_,_,tc,ts,rfl,htv,hld,rfl,fun j x hx=>⟨_,rfl,?_⟩⟩
  exact World.ownsRow.cells ho (g:=g) rfl j (str x) (by rw [List.getElem?_map,hx]; rfl)
/-! pick,decimal. -/
def pickN (c:Int) (n:Nat):Nat:=(if c < 0 then -(c + 1) else c).toNat % n
theorem pick_any (c:Int) (n:Nat) (w:World) (h0:-9223372036854775808≤c) (h1:c≤9223372036854775807) (hn:0 < n) (hn2:n≤1000000000) :
  Calls Tryz.prog 20 #[.int .i64 c,.int .i64 n] w fun e w'=>e=.returned (.int .i64 (pickN c n:Nat))∧w'=w:=by
 have hn0:((n:Int) == 0)=false:=beq_eq_false_iff_ne.2 (by omega)
 unfold pickN
 by_cases hc:c < 0
 ·rw [if_pos hc]
  obtain ⟨m,hm⟩:∃ m:Nat,c + 1=-(m:Int):=⟨(-(c + 1)).toNat,by omega⟩
  have e1:-((c + 1).tmod (n:Int))=(((-(c + 1)).toNat % n:Nat):Int):=by
   rw [hm,Int.neg_tmod,Int.neg_neg,Int.neg_neg]
   rfl
  have hw1:IntKind.i64.wrap (c + 1)=c + 1:=by rw [IntKind.wrap_i64]; omega
  have hw2:IntKind.i64.wrap (-(c + 1))=-(c + 1):=by rw [IntKind.wrap_i64]; omega
  clear hm
  have HE:=hide e1
  clear e1
  generalize (((-(c + 1)).toNat % n:Nat):Int)=r at HE ⊢
  go_enter Tryz.func20,Tryz.ntmps20
  go_wp2_with fail
  go_ret
  refine ⟨?_,rfl⟩
  show Ending.returned (Value.int .i64 (-((c + 1).tmod (n:Int))))=_
  rw [HE.out]
 ·rw [if_neg hc]
  obtain ⟨m,rfl⟩:∃ m:Nat,c=(m:Int):=⟨c.toNat,by omega⟩
  have HE:Hid (((m:Int).tmod (n:Int))=((((m:Int)).toNat % n:Nat):Int)):=hide rfl
  generalize ((((m:Int)).toNat % n:Nat):Int)=r at HE ⊢
  go_enter Tryz.func20,Tryz.ntmps20
  go_wp2_with fail
  go_ret
  refine ⟨?_,rfl⟩
  show Ending.returned (Value.int .i64 ((m:Int).tmod (n:Int)))=_
  rw [HE.out]
/-! decimal -/
theorem conv_byte (W:World) (b:Nat) (n:Int) (h:W.cell? ⟨b,0,none⟩=some (.int .u8 n)):(convert 106 9 (.slice (some ⟨b,0,none⟩) 1 1)).run Tryz.prog W=.ok (.string ⟨#[UInt8.ofNat n.toNat]⟩) W :=
 run_convert_bytes_arg W 106 5 Tryz.underlying106 Tryz.underlying5 b 0 1 1 [n] rfl (fun i hi=>by
  obtain rfl:i=0:=by omega
  exact h) 9 Tryz.underlying9
theorem dec_small (u:Nat) (w:World) (hu:u < 10):Calls Tryz.prog 24 #[.int .i64 u] w fun e w'=>e=.returned (.string ⟨(Lib.decDigits u).toArray⟩)∧Below w.heap.size w w':=by
 have h1:¬ ((u:Int) < 0):=by omega
 have h2:((u:Int) < 10):=by omega
 have e:Lib.decDigits u=[UInt8.ofNat (48 + u)]:=by rw [Lib.decDigits,dif_pos hu]
 have hcv:=conv_byte (w.alloc (.cells #[.int .u8 (48 + (u:Int))] 5)) w.heap.size (48 + u) (by simp [go_sem])
 have hn:(48 + (u:Int)).toNat=48 + u:=by omega
 rw [hn] at hcv
 rw [e]
 clear hn
 go_enter Tryz.func24,Tryz.ntmps24
 go_wp2_with fail
 go_ret
 exact ⟨rfl,(Below.refl _ w).alloc (Nat.le_refl _) _⟩
theorem dec_big (u:Nat) (w:World) (hu:10≤u) (hu2:u≤1000000000000000000) (ih:∀ w,Calls Tryz.prog 24 #[.int .i64 (u / 10:Nat)] w fun e w'=>e=.returned (.string ⟨(Lib.decDigits (u / 10)).toArray⟩)∧Below w.heap.size w w'):Calls Tryz.prog 24 #[.int .i64 u] w fun e w'=>e=.returned (.string ⟨(Lib.decDigits u).toArray⟩)∧Below w.heap.size w w':=by
 have h1:¬ ((u:Int) < 0):=by omega
 have h2:¬ ((u:Int) < 10):=by omega
 have e:Lib.decDigits u=Lib.decDigits (u / 10)++[UInt8.ofNat (48 + u % 10)]:=by rw [Lib.decDigits,dif_neg (by omega)]
 have hcast:(((u / 10:Nat):Int))=(u:Int) / 10:=by omega
 rw [hcast] at ih
 have hcv:∀ (W:World) (b:Nat),W.cell? ⟨b,0,none⟩=some (.int .u8 (48 + (u:Int) % 10))→(convert 106 9 (.slice (some ⟨b,0,none⟩) 1 1)).run Tryz.prog W=.ok (.string ⟨#[UInt8.ofNat (48 + u % 10)]⟩) W:=fun W b h=>by
  have:=conv_byte W b _ h
  have hn:(48 + (u:Int) % 10).toNat=48 + u % 10:=by omega
  rw [hn] at this
  exact this
 have hq:(u:Int).tdiv 10=(u:Int) / 10:=rfl
 have hr:(u:Int).tmod 10=(u:Int) % 10:=rfl
 have hw1:IntKind.i64.wrap ((u:Int) / 10)=(u:Int) / 10:=by rw [IntKind.wrap_i64]; omega
 have hw2:IntKind.i64.wrap (48 + (u:Int) % 10)=48 + (u:Int) % 10:=by rw [IntKind.wrap_i64]; omega
 have hw3:IntKind.u8.wrap (48 + (u:Int) % 10)=48 + (u:Int) % 10:=by
  have:IntKind.u8.wrap (48 + (u:Int) % 10)=(48 + (u:Int) % 10) % 256:=rfl
  rw [this]
  omega
 clear hcast
 have HCV:=hide hcv
 clear hcv
 have IH:=hide ih
 clear ih
 generalize hRR:(fun (e:Ending) (w':World)=>e=.returned (.string ⟨(Lib.decDigits u).toArray⟩)∧Below w.heap.size w w')=RR
 have HFIN:Hid (∀ w',Below w.heap.size w w'→RR (.returned (.string (⟨(Lib.decDigits (u / 10)).toArray⟩++⟨#[UInt8.ofNat (48 + u % 10)]⟩))) w'):=hide (fun w' hB=>by
  rw [←hRR,e]
  refine ⟨?_,hB⟩
  congr 2)
 clear hRR e
 have hds:(⟨(Lib.decDigits (u / 10)).toArray⟩:ByteArray).size≤19:=by
  have:=Lard.dec_len 18 (u / 10) (by show _ < 10000000000000000000; omega)
  rw [size_mk]
  exact this
 generalize (⟨(Lib.decDigits (u / 10)).toArray⟩:ByteArray)=ds at IH HFIN hds
 have hd1:(⟨#[UInt8.ofNat (48 + u % 10)]⟩:ByteArray).size≤1:=Nat.le_refl _
 generalize (⟨#[UInt8.ofNat (48 + u % 10)]⟩:ByteArray)=d1 at HCV HFIN hd1
 have hcat:¬ 9223372036854775807 < ds.size + d1.size:=by omega
 go_enter Tryz.func24,Tryz.ntmps24
 go_wp2_with fail
 rename_i K5 HK5
 refine wp_onlyN K5 (fun a w h=>h) ?_
 refine wp_region_held_drew (S:=fun _=>True) (by kernel_rfl) trivial (fun hHeld=>?_)
 refine wpAnyH_take (i:=0) (v:=?_) rfl (by kernel_rfl) (by kernel_rfl) (by kernel_rfl) (fun _ _ _ h=>h) (Or.inl ⟨by rfl,?_⟩) trivial ?_
 rotate_left
 ·intro w' s0
  go_simp
  try with_reducible rfl
 simp only [Act.put,List.setIfInBounds_toArray,List.set_cons_zero,List.set_cons_succ]
 refine wpAnyH_take (i:=1) (v:=?_) rfl (by kernel_rfl) (by kernel_rfl) (by kernel_rfl) (fun _ _ _ h=>h) (Or.inl ⟨by rfl,?_⟩) trivial ?_
 rotate_left
 ·intro w' s0
  go_simp
  try with_reducible rfl
 simp only [Act.put,List.setIfInBounds_toArray,List.set_cons_zero,List.set_cons_succ]
 refine wpAnyH_take (i:=3) (v:=?_) rfl (by kernel_rfl) (by kernel_rfl) (by kernel_rfl) (fun _ _ _ h=>h) (Or.inl ⟨by rfl,?_⟩) trivial ?_
 rotate_left
 ·intro w' s0
  go_simp
  try with_reducible rfl
 simp only [Act.put,List.setIfInBounds_toArray,List.set_cons_zero,List.set_cons_succ]
 refine wpAnyH_take (i:=4) (v:=?_) rfl (by kernel_rfl) (by kernel_rfl) (by kernel_rfl) (fun _ _ _ h=>h) (Or.inl ⟨by rfl,?_⟩) trivial ?_
 rotate_left
 ·intro w' s0
  go_simp
  try with_reducible rfl
 simp only [Act.put,List.setIfInBounds_toArray,List.set_cons_zero,List.set_cons_succ]
 refine wpAnyH_take (i:=5) (v:=?_) rfl (by kernel_rfl) (by kernel_rfl) (by kernel_rfl) (fun _ _ _ h=>h) (Or.inl ⟨by rfl,?_⟩) trivial ?_
 rotate_left
 ·intro w' s0
  go_simp
  try with_reducible rfl
 simp only [Act.put,List.setIfInBounds_toArray,List.set_cons_zero,List.set_cons_succ]
 refine wpAnyH_take (i:=6) (v:=?_) rfl (by kernel_rfl) (by kernel_rfl) (by kernel_rfl) (fun _ _ _ h=>h) (Or.inl ⟨by rfl,?_⟩) trivial ?_
 rotate_left
 ·intro w' s0
  go_simp
  try with_reducible rfl
 simp only [Act.put,List.setIfInBounds_toArray,List.set_cons_zero,List.set_cons_succ]
 refine wpAnyH_ready (rs:=[2,7]) (by kernel_rfl) (by simp) ?_
 refine AllReadyH.cons rfl (fun K hK=>?_) (AllReadyH.cons rfl (fun K hK=>?_) AllReadyH.nil)
 ·go_simp
  refine (IH.out _).mono ?_
  rintro e w1 ⟨rfl,hB1⟩
  refine hK.out _ _ trivial (fun _=>?_)
  clear hK
  have hB1':Below w.heap.size w w1:=((Below.refl _ w).drew).trans hB1
  have hc8:=HCV.out (w1.alloc (.cells #[.int .u8 (48 + (u:Int) % 10)] 5)) w1.heap.size (by simp [go_sem])
  refine wpAnyH_ready (rs:=[7]) (by kernel_rfl) (by simp) ?_
  refine AllReadyH.cons rfl (fun K hK=>?_) AllReadyH.nil
  go_simp
  refine hK.out _ _ trivial (fun _=>?_)
  clear hK
  refine wpAnyH_ready (rs:=[8]) (by kernel_rfl) (by simp) ?_
  refine AllReadyH.cons rfl (fun K hK=>?_) AllReadyH.nil
  go_simp
  refine hK.out _ _ trivial (fun _=>?_)
  clear hK
  refine wpAnyH_ready (rs:=[9]) (by kernel_rfl) (by simp) ?_
  refine AllReadyH.cons rfl (fun K hK=>?_) AllReadyH.nil
  go_simp
  refine hK.out _ _ trivial (fun _=>?_)
  clear hK
  refine wpAnyH_ready (rs:=[10]) (by kernel_rfl) (by simp) ?_
  refine AllReadyH.cons rfl (fun K hK=>?_) AllReadyH.nil
  go_simp
  refine hK.out _ _ trivial (fun _=>?_)
  clear hK
  refine wpAnyH_done (by kernel_rfl) ?_ _
  show K5 _ _
  have HF:=hide (HFIN.out _ (hB1'.alloc hB1'.size (.cells #[.int .u8 (48 + (u:Int) % 10)] 5)))
  clear HFIN
  go_wp2_with fail
  exact HF.out
 ·go_simp
  have hB7:Below w.heap.size w (w.alloc (.cells #[.int .u8 (48 + (u:Int) % 10)] 5)).drew:=((Below.refl _ w).alloc (Nat.le_refl _) _).drew
  have c7:(w.alloc (.cells #[.int .u8 (48 + (u:Int) % 10)] 5)).drew.cell? ⟨w.heap.size,0,none⟩=some (.int .u8 (48 + (u:Int) % 10)):=by simp [go_sem]
  refine hK.out _ _ trivial (fun _=>?_)
  clear hK
  refine wpAnyH_ready (rs:=[2,8]) (by kernel_rfl) (by simp) ?_
  refine AllReadyH.cons rfl (fun K hK=>?_) (AllReadyH.cons rfl (fun K hK=>?_) AllReadyH.nil)
  ·go_simp
   refine (IH.out _).mono ?_
   rintro e w1 ⟨rfl,hB1⟩
   refine hK.out _ _ trivial (fun _=>?_)
   clear hK
   have hB1':Below w.heap.size w w1:=hB7.trans (hB1.mono hB7.size)
   have hc8:=HCV.out w1 w.heap.size ((hB1.cell (p:=⟨w.heap.size,0,none⟩) (by show w.heap.size < _; simp)).trans c7)
   refine wpAnyH_ready (rs:=[8]) (by kernel_rfl) (by simp) ?_
   refine AllReadyH.cons rfl (fun K hK=>?_) AllReadyH.nil
   go_simp
   refine hK.out _ _ trivial (fun _=>?_)
   clear hK
   refine wpAnyH_ready (rs:=[9]) (by kernel_rfl) (by simp) ?_
   refine AllReadyH.cons rfl (fun K hK=>?_) AllReadyH.nil
   go_simp
   refine hK.out _ _ trivial (fun _=>?_)
   clear hK
   refine wpAnyH_ready (rs:=[10]) (by kernel_rfl) (by simp) ?_
   refine AllReadyH.cons rfl (fun K hK=>?_) AllReadyH.nil
   go_simp
   refine hK.out _ _ trivial (fun _=>?_)
   clear hK
   refine wpAnyH_done (by kernel_rfl) ?_ _
   show K5 _ _
   have HF:=hide (HFIN.out _ hB1')
   clear HFIN
   go_wp2_with fail
   exact HF.out
  ·have hc8:=HCV.out _ _ c7
   go_simp
   refine hK.out _ _ trivial (fun _=>?_)
   clear hK
   refine wpAnyH_ready (rs:=[2]) (by kernel_rfl) (by simp) ?_
   refine AllReadyH.cons rfl (fun K hK=>?_) AllReadyH.nil
   go_simp
   refine (IH.out _).mono ?_
   rintro e w1 ⟨rfl,hB1⟩
   refine hK.out _ _ trivial (fun _=>?_)
   clear hK
   have hB1':Below w.heap.size w w1:=hB7.trans (hB1.mono hB7.size)
   refine wpAnyH_ready (rs:=[9]) (by kernel_rfl) (by simp) ?_
   refine AllReadyH.cons rfl (fun K hK=>?_) AllReadyH.nil
   go_simp
   refine hK.out _ _ trivial (fun _=>?_)
   clear hK
   refine wpAnyH_ready (rs:=[10]) (by kernel_rfl) (by simp) ?_
   refine AllReadyH.cons rfl (fun K hK=>?_) AllReadyH.nil
   go_simp
   refine hK.out _ _ trivial (fun _=>?_)
   clear hK
   refine wpAnyH_done (by kernel_rfl) ?_ _
   show K5 _ _
   have HF:=hide (HFIN.out _ hB1')
   clear HFIN
   go_wp2_with fail
   exact HF.out
theorem dec_nat:∀ (u:Nat) (w:World),u≤1000000000000000000→Calls Tryz.prog 24 #[.int .i64 u] w fun e w'=>e=.returned (.string ⟨(Lib.decDigits u).toArray⟩)∧Below w.heap.size w w':=by
 intro u
 induction u using Nat.strongRecOn with
 |ind u ih =>
  intro w hu
  by_cases h:u < 10
  ·exact dec_small u w h
  ·exact dec_big u w (by omega) hu (fun w=>ih (u / 10) (by omega) w (by omega))
theorem dec_any (x:Int) (w:World) (h0:-1000000000000000000≤x) (h1:x≤1000000000000000000):Calls Tryz.prog 24 #[.int .i64 x] w fun e w'=>e=.returned (.string ⟨(Lib.itoa x).toArray⟩)∧Below w.heap.size w w':=by
 by_cases hx:x < 0
 ·obtain ⟨u,rfl⟩:∃ u:Nat,x=-(u:Int):=⟨x.natAbs,by omega⟩
  have e:Lib.itoa (-(u:Int))=45 :: Lib.decDigits u:=by
   unfold Lib.itoa
   rw [if_pos hx]
   congr 2
   omega
  have hw:IntKind.i64.wrap (u:Int)=(u:Int):=by rw [IntKind.wrap_i64]; omega
  have HD:=hide (dec_nat u w (by omega))
  rw [e]
  generalize hRR:(fun (e:Ending) (w':World)=>e=.returned (.string ⟨(45 :: Lib.decDigits u).toArray⟩)∧Below w.heap.size w w')=RR
  have HF:Hid (∀ w',Below w.heap.size w w'→RR (.returned (.string (⟨#[45]⟩++⟨(Lib.decDigits u).toArray⟩))) w'):=hide (fun w' hB=>by
   rw [←hRR]
   refine ⟨?_,hB⟩
   congr 2)
  clear hRR e
  have hds:(⟨(Lib.decDigits u).toArray⟩:ByteArray).size≤19:=by
   have:=Lard.dec_len 18 u (by show _ < 10000000000000000000; omega)
   rw [size_mk]
   exact this
  generalize (⟨(Lib.decDigits u).toArray⟩:ByteArray)=ds at HD HF hds
  go_enter Tryz.func24,Tryz.ntmps24
  go_wp2_with fail
  refine HD.out.mono ?_
  rintro e w1 ⟨rfl,hB1⟩
  have HFF:=hide (HF.out w1 hB1)
  clear HF
  go_wp2_with fail
  exact HFF.out
 ·obtain ⟨u,rfl⟩:∃ u:Nat,x=(u:Int):=⟨x.toNat,by omega⟩
  have e:Lib.itoa (u:Int)=Lib.decDigits u:=by
   unfold Lib.itoa
   rw [if_neg hx]
   rfl
  rw [e]
  exact dec_nat u w (by omega)
end
section
set_option maxRecDepth 100000
set_option maxHeartbeats 1000000
open Go.RowKit Go.Shelf
theorem src_gv (s:Lard.LS) (key:List UInt8) (th:Lard.Thing) (k:List UInt8):Lard.srcOf (s.gv key th).has k=if key=k then some (match th.tree with | .none=>.inl th.value | .some t=>.inr t) else Lard.srcOf s.has k:=Lard.src_put s.has key th k
theorem gv_len (s:Lard.LS) (key:List UInt8) (th:Lard.Thing):(s.gv key th).has.length≤s.has.length + 1:=Lard.put_len s.has key th
def sE:Lard.LS:=(Lard.LS.new.gv [97] ⟨Lard.vn 2,none,[],none⟩).gv [98] ⟨Lard.vn 0,some Lard.treeE,Lard.textE,none⟩
theorem rule_E:Lard.ruleT Lard.textE=some Lard.treeE:=by kernel_rfl
theorem wr_5:Lard.wr 3 (Lard.vn 5)=[53]:=by kernel_rfl
theorem ask_E (h:Lard.Sound sE):(sE.ask [98]).1=.ok (Lard.vn 5):=by
 refine Lard.ask_is h (Lard.w_E ?_ ?_)
 ·unfold sE
  rw [src_gv,if_neg (by decide),src_gv,if_pos rfl]
 ·unfold sE
  rw [src_gv,if_pos rfl]
theorem awake_any (w:World) (g:G w) (hd:Deb w):Calls Tryz.prog 15 #[] w fun e w'=>e=.returned (.bool true)∧Below w.heap.size w w':=by
 have HN:=hide (ld_new w.heap.size w w (Below.refl _ _) (Nat.le_refl _) g hd g.size)
 clear g hd
 go_enter Tryz.func15,Tryz.ntmps15
 go_wp2_with fail
 refine HN.out.mono ?_
 rintro e w1 ⟨lb,rfl,hl1,-⟩
 have HP:=hide (ld_put hl1 ⟨#[97]⟩ ⟨#[50]⟩ (Lard.vn 2) (by kernel_rfl) (by kernel_rfl) (by show 0 < 40; omega) (by show 1≤1000; omega) (by omega))
 unfold ptr at HP ⊢
 clear HN hl1
 go_wp2_with fail
 refine HP.out.mono ?_
 rintro e w2 ⟨rfl,hl2⟩
 have HS:=hide (ld_set hl2 ⟨#[98]⟩ ⟨#[97,42,97,43,49]⟩ Lard.treeE (by kernel_rfl) rule_E (by have:=gv_len Lard.LS.new [97] ⟨Lard.vn 2,none,[],none⟩; have h0:Lard.LS.new.has.length=0:=rfl; exact Nat.lt_of_le_of_lt this (by rw [h0]; omega)) (by omega))
 unfold ptr at HS
 clear HP hl2
 go_wp2_with fail
 refine HS.out.mono ?_
 rintro e w3 ⟨rfl,hl3⟩
 have HA:=hide (ld_ask (s:=sE) hl3 ⟨#[98]⟩ (by kernel_rfl) (by omega))
 have hE:=ask_E hl3.sound
 unfold ptr at HA
 clear HS hl3
 go_wp2_with fail
 refine HA.out.mono ?_
 rintro e w4 ⟨o,m,c,tc,ts,rfl,htv,hl4,-,-⟩
 have hE':(sE.ask (⟨#[98]⟩:ByteArray).data.toList).1=.ok (Lard.vn 5):=hE
 rw [hE'] at htv
 have h5:toldV (.ok (Lard.vn 5))=.agg #[.int .i64 0,.string ⟨#[53]⟩]:=by
  show Value.agg #[.int .i64 0,.string ⟨(Lard.wr 3 (Lard.vn 5)).toArray⟩]=_
  rw [wr_5]
 rw [h5] at htv
 cases htv
 have HB:=hide hl4.bel
 clear hl4 HA hE hE' h5
 go_wp2_with fail
 go_ret
 exact ⟨rfl,HB.out⟩
end
section
open Go.RowKit Go.Shelf
structure La (w:World) (lb:Nat) (s:Lard.LS) (L:Nat→Prop) (N:Nat):Prop where
 lat:LAt w lb s L
 g:G w
 deb:Deb w
 sound:Lard.Sound s
 jr:(jbytes s.jr).length≤N
theorem LAt.lt {w:World} {lb:Nat} {s:Lard.LS} {L:Nat→Prop} (h:LAt w lb s L) {k:Nat} (hk:L k):8≤k∧k < w.heap.size:=⟨(LAt.typed h k hk).1,(LAt.typed h k hk).2.1⟩
theorem La.below {w w':World} {lb:Nat} {s:Lard.LS} {L:Nat→Prop} {N:Nat} (h:La w lb s L N) (hB:Below w.heap.size w w'):La w' lb s L N where
 lat:=h.lat.st (fun k hk=>hB.block k (h.lat.lt hk).2) (Stay.below hB)
 g:=h.g.below hB h.g.size
 deb:=h.deb.below hB h.g.size
 sound:=h.sound
 jr:=h.jr
theorem La.le {w:World} {lb:Nat} {s:Lard.LS} {L:Nat→Prop} {N M:Nat} (h:La w lb s L N) (hM:N≤M):La w lb s L M:={ h with jr:=Nat.le_trans h.jr hM }
def LaPost (w:World) (lb:Nat) (L:Nat→Prop) (s:Lard.LS) (N:Nat) (w':World):Prop :=
 ∃ L',La w' lb s L' N∧(∀ k,L' k→L k∨w.heap.size≤k)∧(∀ k,L k→L' k)∧Frm L w w'
theorem Frm.low {L:Nat→Prop} {w w':World} (h:Frm L w w') (h8:8≤w.heap.size) (hL:∀ k,L k→8≤k):Below 8 w w' :=
 ⟨h.os,h.tape,h.output,h.size,fun k hk=>h.block k (by omega) (fun hl=>by have:=hL k hl; omega)⟩
theorem La.post {w w':World} {lb:Nat} {s s':Lard.LS} {L:Nat→Prop} {N M:Nat} (h:La w lb s L N) (hP:LPost0 w lb L s' w') (hs:Lard.Sound s') (hj:(jbytes s'.jr).length≤M):LaPost w lb L s' M w':=by
 obtain ⟨L',h1,h2,h3,h4⟩:=hP
 have hb:Below 8 w w':=h4.low h.g.size (fun k hk=>(h.lat.lt hk).1)
 exact ⟨L',⟨h1,h.g.below hb (Nat.le_refl _),h.deb.below hb (Nat.le_refl _),hs,hj⟩,h2,h3,h4⟩
theorem La.other {w w':World} {lb:Nat} {s:Lard.LS} {L L2:Nat→Prop} {N:Nat} (h:La w lb s L N) (hf:Frm L2 w w') (h8:∀ k,L2 k→8≤k) (hty:∀ k,L2 k→∀ (cs:Array Value) (t:TypeId) (fz:Nat×Nat),w.heap[k]? = some (.cells cs t fz)→¬ Imm t) (hd:∀ k,L k→¬ L2 k):La w' lb s L N:=by
 have hb:Below 8 w w':=hf.low h.g.size h8
 refine ⟨h.lat.st (fun k hk=>hf.block k (h.lat.lt hk).2 (hd k hk)) (Keeps.stay fun k cs t fz hk ht=>?_),h.g.below hb (Nat.le_refl _),h.deb.below hb (Nat.le_refl _),h.sound,h.jr⟩
 exact (hf.block k (lt_of_some hk) (fun h2=>hty k h2 cs t fz hk ht)).trans hk
theorem la_new (w:World) (g:G w) (hd:Deb w):Calls Tryz.prog 16 #[] w fun e w'=>∃ lb,e=.returned (ptr lb)∧La w' lb Lard.LS.new (fun k=>w.heap.size≤k∧k≤w.heap.size + 2) 0∧Below w.heap.size w w':=by
 refine (new_any w).mono ?_
 rintro e w' ⟨rfl,rfl⟩
 have h8:=g.size
 have hBw:Below w.heap.size w (((w.alloc (.map #[] 0)).alloc (.map #[] 0)).alloc (.cells #[.map (some w.heap.size),.map (some (w.heap.size + 1)),.slice none 0 0,.slice none 0 0,.slice none 0 0,.slice none 0 0] 108)):=(((Below.refl _ w).alloc (Nat.le_refl _) _).alloc (by simp) _).alloc (by simp; omega) _
 exact ⟨_,rfl,⟨lat_new w h8,g.below hBw g.size,hd.below hBw g.size,Lard.Sound.new,Nat.le_refl _⟩,hBw⟩
theorem la_put {w:World} {lb:Nat} {s:Lard.LS} {L:Nat→Prop} {N:Nat} (h:La w lb s L N) (key text:ByteArray) (v:Lard.V) (hn:Lard.isName key.data.toList=true) (hv:Lard.rdV text.data.toList=some v) (hroom:s.has.length < 40) (hts:text.size≤1000) (hN:N≤10000000000000) :
  Calls Tryz.prog 23 #[ptr lb,.string key,.string text] w fun e w'=>e=.returned (.int .i64 0)∧LaPost w lb L (s.gv key.data.toList ⟨v,none,[],none⟩) (N + 2000) w':=by
 have hk8:=name_len hn
 have hk8':key.size≤8:=by rw [size_data]; exact hk8
 obtain ⟨hok,hwr⟩:=Lard.rdV_some hv
 have hput:s.putC key.data.toList text.data.toList=(0,s.gv key.data.toList ⟨v,none,[],none⟩):=by
  unfold Lard.LS.putC
  rw [if_neg (by rw [hn]; exact fun e=>by cases e),hv]
  exact give_room hroom
 have:=put_any w lb key text s L h.lat h.g h.deb (by omega) (by omega) (by omega) (by have:=h.jr; omega)
 rw [hput] at this
 refine this.mono ?_
 rintro e w' ⟨rfl,hP⟩
 refine ⟨rfl,h.post hP (h.sound.put (key:=key.data.toList) (th:=⟨v,none,[],none⟩) ⟨rfl,.inl ⟨rfl,hok⟩⟩ (.inr hroom) _) ?_⟩
 rw [gv_jr]
 have hl:(Lard.thingText key.data.toList ⟨v,none,[],none⟩).length=5 + key.data.toList.length + text.data.toList.length:=by
  unfold Lard.thingText
  simp [←hwr]
  omega
 have h1:=h.jr
 have h2:text.data.toList.length≤1000:=by rw [←size_data]; exact hts
 omega
theorem la_set {w:World} {lb:Nat} {s:Lard.LS} {L:Nat→Prop} {N:Nat} (h:La w lb s L N) (key text:ByteArray) (t:Lard.T) (hn:Lard.isName key.data.toList=true) (ht:Lard.ruleT text.data.toList=some t) (hroom:s.has.length < 40) (hN:N≤10000000000000) :
  Calls Tryz.prog 25 #[ptr lb,.string key,.string text] w fun e w'=>e=.returned (.tuple #[.int .i64 0,.int .i64 0])∧LaPost w lb L (s.gv key.data.toList ⟨Lard.vn 0,some t,text.data.toList,none⟩) (N + 2000) w':=by
 have hk8:=name_len hn
 obtain ⟨h200,htt,_⟩:=ruleT_ok ht
 have:=set_ok w lb key text s L t h.lat h.g h.deb hn ht (by omega) (by have:=h.jr; omega)
 rw [give_room hroom] at this
 refine this.mono ?_
 rintro e w' ⟨rfl,hP⟩
 refine ⟨rfl,h.post hP (h.sound.put (key:=key.data.toList) (th:=⟨Lard.vn 0,some t,text.data.toList,none⟩) ⟨rfl,.inr ⟨t,rfl,by rw [htt]; exact Lard.clo_treeOf _⟩⟩ (.inr hroom) _) ?_⟩
 rw [gv_jr]
 have hl:(Lard.thingText key.data.toList ⟨Lard.vn 0,some t,text.data.toList,none⟩).length=5 + key.data.toList.length + text.data.toList.length:=by
  unfold Lard.thingText
  simp
  omega
 have h1:=h.jr
 omega
theorem La.fit {w:World} {lb:Nat} {s:Lard.LS} {L:Nat→Prop} {N:Nat} (h:La w lb s L N):Fit s N:=⟨h.sound.kb,h.sound.begun,h.sound.len,h.jr⟩
def ToldRing (w w':World) (v:Value) (l:List (List UInt8)):Prop :=
 ∃ (o:Option Addr) (c:Nat),v=.slice o l.length c∧∀ (j:Nat) (x:List UInt8),l[j]? = some x→∃ a,o=some a∧w'.cell? (a.add j)=some (str x)
theorem la_ask {w:World} {lb:Nat} {s:Lard.LS} {L:Nat→Prop} {N:Nat} (h:La w lb s L N) (key:ByteArray) (hn:Lard.isName key.data.toList=true) (hN:N≤10000000000000) :
  Calls Tryz.prog 22 #[ptr lb,.string key] w fun e w'=>∃ (v:Value) (tc:Int) (ts:ByteArray),e=.returned (.tuple #[.string ts,.int .i64 tc,v])∧toldV (s.ask key.data.toList).1=.agg #[.int .i64 tc,.string ts]∧LaPost w lb L (s.ask key.data.toList).2 (N + 2000000000) w' ∧
   ToldRing w w' v (if tc=12 then (s.ask key.data.toList).2.ring else []):=by
 have hk8:=name_len hn
 have hk8':key.size≤8:=by rw [size_data]; exact hk8
 refine (ask_any w lb key s L N h.lat h.g h.deb (by omega) hn h.fit (by omega)).mono ?_
 rintro e w' ⟨v,tc,ts,L',rfl,htv,q1,q2,q3,q4,hphi,hr⟩
 have hP:LPost0 w lb L (s.ask key.data.toList).2 w':=⟨L',q1,q2,q3,q4.toFrm⟩
 have hld:=h.post hP (h.sound.ask _) (h.fit.ask _ hphi).jr
 rcases hr with ⟨rfl,hr⟩ | ⟨g,c,rfl,_,_,ho⟩
 ·refine ⟨_,tc,ts,rfl,htv,hld,_,_,by rw [hr]; rfl,fun j x hx=>?_⟩
  rw [hr] at hx
  cases hx
 ·refine ⟨_,tc,ts,rfl,htv,hld,_,_,rfl,fun j x hx=>⟨_,rfl,?_⟩⟩
  exact World.ownsRow.cells ho (g:=g) rfl j (str x) (by rw [List.getElem?_map,hx]; rfl)
end
end Go.Proofs.YtpekpdimdelncaaGreatDoor
