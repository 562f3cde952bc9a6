/- Out of: E1, Kp, D2, Er, Hs, Kp2, Ru, E2, E3. -/
import Derived.Test.YtpekpdimdelncaaGreatDoorP35
import Derived.Test.YtpekpdimdelncaaGreatDoorP28
import Derived.Test.YtpekpdimdelncaaGreatDoorP26
import Derived.Test.YtpekpdimdelncaaGreatDoorP06
import Derived.Test.YtpekpdimdelncaaGreatDoorP34
set_option linter.unusedVariables false
set_option linter.unusedSimpArgs false
namespace Go.Proofs.YtpekpdimdelncaaGreatDoor
section
set_option maxRecDepth 100000
set_option maxHeartbeats 1000000
open Go.RowKit Go.Shelf
theorem drop_jr (s:Lard.LS) (key:List UInt8):(jbytes (s.drop key).jr).length=(jbytes s.jr).length + key.length + 15:=by
 show (jbytes (s.jr++[_])).length=_
 rw [jbytes_snoc,List.length_append,line_len]
 simp
 omega
theorem drop_none (w:World) (lb:Nat) (key:ByteArray) (s:Lard.LS) (L:Nat→Prop) (h:LAt w lb s L) (g:G w) (hn:Lard.isName key.data.toList=true) (hl:Lard.look s.has key.data.toList=none) :
  Calls Tryz.prog 47 #[ptr lb,.string key] w fun e w'=>e=.returned (.int .i64 7)∧Below w.heap.size w w':=by
 have hk8:key.size≤8:=by rw [size_data]; exact name_len hn
 have hkl:key.data.toList.length≤maxLen:=by rw [←size_data]; unfold maxLen; omega
 have hN:=isName_any key w g (by omega)
 rw [hn] at hN
 have HN:=hide hN
 obtain ⟨hb,db,vb,vr,vn,vj,h0⟩:=h
 have HL:=hide (And.intro h0 (And.intro hl hkl))
 clear hN h0 hl hn g hkl
 unfold ptr
 go_enter Tryz.func47,Tryz.ntmps47
 go_wp2_with fail
 refine HN.out.mono ?_
 rintro e w1 ⟨rfl,hB1⟩
 have h1:LP w1 lb s L hb db vb vr vn vj:=HL.out.1.st (fun k hk=>hB1.block k (HL.out.1.lt hk)) (Stay.below hB1)
 have c0:w1.cell? ⟨lb,0,none⟩=some (.map (some hb)):=by simp [World.cell?,h1.blk]
 have hr:=h1.has.absent HL.out.2.1 HL.out.2.2
 rw [str_bytes] at hr
 clear h1 HL HN
 go_wp2_with fail
 exact bodyPost_ret (v:=.int .i64 7) (by simp [results,Tryz.results47,go_sem]) rfl ⟨rfl,hB1⟩
theorem drop_some (w:World) (lb:Nat) (key:ByteArray) (s:Lard.LS) (L:Nat→Prop) (th:Lard.Thing) (h:LAt w lb s L) (g:G w) (hd:Deb w) (hn:Lard.isName key.data.toList=true) (hl:Lard.look s.has key.data.toList=some th) (hj:(jbytes s.jr).length≤70368744177664) :
  Calls Tryz.prog 47 #[ptr lb,.string key] w fun e w'=>e=.returned (.int .i64 0)∧LPost0 w lb L (s.drop key.data.toList) w':=by
 have hk8:key.size≤8:=by rw [size_data]; exact name_len hn
 have hkl:key.data.toList.length≤maxLen:=by rw [←size_data]; unfold maxLen; omega
 have hN:=isName_any key w g (by omega)
 rw [hn] at hN
 have HN:=hide hN
 obtain ⟨hb,db,vb,vr,vn,vj,h0⟩:=h
 have hdt:((⟨#[100,114,111,112,32]⟩:ByteArray)++key).data.toList=[100,114,111,112,32]++key.data.toList:=by simp
 have hdz:((⟨#[100,114,111,112,32]⟩:ByteArray)++key).size≤13:=by rw [size_data,hdt,List.length_append,←size_data]; simp; omega
 have HL:=hide (And.intro h0 (And.intro hl (And.intro hkl (And.intro g hd))))
 have HD:=hide (And.intro hdt hdz)
 generalize hRR:(fun (e:Ending) (w':World)=>e=.returned (.int .i64 0)∧LPost0 w lb L (s.drop key.data.toList) w')=RR
 have HRR:=hide hRR
 clear hN h0 hl hn g hkl hd hdt hdz hRR
 unfold ptr
 go_enter Tryz.func47,Tryz.ntmps47
 go_wp2_with fail
 refine HN.out.mono ?_
 rintro e w1 ⟨rfl,hB1⟩
 obtain ⟨h0,hl,hkl,g,hd⟩:=HL.out
 have h1:LP w1 lb s L hb db vb vr vn vj:=h0.st (fun k hk=>hB1.block k (h0.lt hk)) (Stay.below hB1)
 have c0:w1.cell? ⟨lb,0,none⟩=some (.map (some hb)):=by simp [World.cell?,h1.blk]
 obtain ⟨p0,_,hrun0⟩:=h1.has.at hl
 have hr:=hrun0 true hkl
 rw [str_bytes] at hr
 simp only [if_true] at hr
 obtain ⟨w2,hrun,L2,hA2,q2,q3,q4⟩:=h1.dropTo (key:=key.data.toList) 0 hkl
 rw [str_bytes] at hrun
 have g1:=g.below hB1 g.size
 have d1:=hd.below hB1 g.size
 have hA1:LAt w1 lb s L:=⟨hb,db,vb,vr,vn,vj,h1⟩
 have g2:G w2:=frm_g hA1 q4 g1
 have d2:Deb w2:=frm_deb hA1 q4 g1 d1
 have hW:=write_any w2 lb { s with has:=Lard.del s.has key.data.toList } L2 (⟨#[100,114,111,112,32]⟩++key) hA2 g2 d2 (by have:=HD.out.2; omega) (by
  rw [HD.out.1]
  show (jbytes (s.jr++[_])).length≤_
  rw [jbytes_snoc,List.length_append,line_len,List.length_append,←size_data]
  simp
  omega)
 rw [HD.out.1] at hW
 have HW:=hide hW
 have HQ:=hide (And.intro q2 (And.intro q3 q4))
 clear hW q2 q3 q4 h0 hl hkl g hd h1 hrun0 HL HN g1 d1 g2 d2 hA1 hA2
 unfold ptr at *
 go_wp2_with fail
 refine HW.out.mono ?_
 rintro e w3 ⟨rfl,L3,k1,k2,k3,k4⟩
 obtain ⟨q2,q3,q4⟩:=HQ.out
 have HP:Hid (RR (.returned (.int .i64 0)) w3):=hide (by
  rw [←HRR.out]
  refine ⟨rfl,L3,k1,fun k hk=>?_,fun k hk=>k3 k (q3 k hk),(Frm.below (L:=L) hB1).trans (q4.trans k4.toFrm ?_) (fun k hk=>.inl hk)⟩
  ·have:=hB1.size
   have:=q4.size
   rcases k2 k hk with h | h
   ·rcases q2 k h with h | h
    ·exact .inl h
    ·exact .inr (by omega)
   ·exact .inr (by omega)
  ·exact q2)
 clear HW HQ k1 k2 k3 k4 q2 q3 q4 HRR
 go_wp2_with fail
 exact HP.out
theorem la_drop {w:World} {lb:Nat} {s:Lard.LS} {L:Nat→Prop} {N:Nat} (h:La w lb s L N) (key:ByteArray) (hn:Lard.isName key.data.toList=true) (hN:N≤10000000000000) :
  Calls Tryz.prog 47 #[ptr lb,.string key] w fun e w'=>∃ (c:Int) (s':Lard.LS),e=.returned (.int .i64 c)∧((c=0∧(Lard.look s.has key.data.toList).isSome=true∧s'=s.drop key.data.toList)∨(c=7∧(Lard.look s.has key.data.toList).isSome=false∧s'=s))∧LaPost w lb L s' (N + 2000) w':=by
 have hk8:=name_len hn
 cases hl:Lard.look s.has key.data.toList with
 |none =>
  refine (drop_none w lb key s L h.lat h.g hn hl).mono ?_
  rintro e w' ⟨rfl,hB⟩
  exact ⟨7,s,rfl,.inr ⟨rfl,rfl,rfl⟩,L,(h.below hB).le (by omega),fun k hk=>.inl hk,fun k hk=>hk,Frm.below hB⟩
 |some th =>
  refine (drop_some w lb key s L th h.lat h.g h.deb hn hl (by have:=h.jr; omega)).mono ?_
  rintro e w' ⟨rfl,hP⟩
  refine ⟨0,_,rfl,.inl ⟨rfl,rfl,rfl⟩,h.post hP (h.sound.drop _) ?_⟩
  rw [drop_jr]
  have:=h.jr
  omega
end
section
open Go.RowKit
namespace Lard
def keyText (n:Nat):By:=107 :: Lib.itoa n
def ruleText (k:Nat) (a b d:By):By :=
 match k with
 |0=>a++[43,49]
 |1=>a++[45]++b
 |2=>[105,102,32]++a++[60,51,32,116,104,101,110,32]++b++[32,101,108,115,101,32,48,45]++a
 |3=>[91,109,105,110,40,109,97,120,40]++a++[44,48,41,44,56,41,93]
 |4=>[116,114,121,40]++a++[47]++b++[44,53,41]
 |5=>a++[42,50,47]++b
 |6=>[40]++a++[61]++b++[41,43]++d
 |7=>[116,114,121,40]++a++[44,48,45,49,41]
 |8=>[123]++a++[44]++b++[125]
 |9=>[101,97,99,104,40,123]++a++[44,49,44]++b++[125,44,116,114,121,40,105,116,43]++a++[44,105,116,41,41]
 |10=>[116,114,121,40,115,117,109,40,115,111,109,101,40]++a++[44,105,116,60,53,41,41,44,115,105,122,101,40]++b++[41,41]
 |11=>[97,116,40]++a++[44]++b++[41]
 |12=>[116,114,121,40,39,107,39,43,119,111,114,100,40]++a++[41,44,91,39,107,39,43,119,111,114,100,40]++b++[41,93,41]
 |13=>[116,114,121,40,91]++a++[93,44]++b++[43]++a++[41]
 |14=>[105,102,32,116,114,121,40]++a++[60]++b++[44,48,41,32,116,104,101,110,32,123,125,32,101,108,115,101,32]++b
 |_=>d
def valueText:Nat→By
 |0=>[48]
 |1=>[49]
 |2=>[45,51]
 |3=>[53]
 |4=>[39,107,49,39]
 |5=>[39,97,98,39]
 |6=>[123,125]
 |7=>[123,49,44,50,125]
 |8=>[123,123,49,125,44,39,120,39,125]
 |9=>[57,50,50,51,51,55,50,48,51,54,56,53,52,55,55,53,56,48,55]
 |10=>[123,48,44,49,44,50,44,51,44,52,44,53,44,54,44,55,44,56,44,57,44,49,48,44,49,49,125]
 |_=>[39,39]
def digitText (n:Nat):By:=[UInt8.ofNat (48 + n)]
def keyT (n:Nat):By:=[107,UInt8.ofNat (48 + n)]
theorem rules_ok:((List.range 16).all fun k=>(List.range 8).all fun a=>(List.range 8).all fun b=>check (ruleText k (keyT a) (keyT b) (digitText (a % 4))) == (0,0))=true:=by kernel_rfl
theorem rules_len:((List.range 16).all fun k=>(List.range 8).all fun a=>(List.range 8).all fun b=>decide ((ruleText k (keyT a) (keyT b) (digitText (a % 4))).length≤60))=true:=by kernel_rfl
theorem digits_ok:((List.range 10).all fun d=>check (digitText d) == (0,0))=true:=by kernel_rfl
theorem values_ok:((List.range 12).all fun k=>(rdV (valueText k)).isSome)=true:=by kernel_rfl
end Lard
end
section
set_option maxRecDepth 100000
set_option maxHeartbeats 1000000
open Go.RowKit Go.Shelf
def keyB (m:Nat):ByteArray:=⟨(Lard.keyText m).toArray⟩
theorem keyB_list (m:Nat):(keyB m).data.toList=Lard.keyText m:=by simp [keyB]
theorem keyB_name:∀ k,k < 12→Lard.isName (keyB k).data.toList=true:=by
 intro k hk
 rw [keyB_list]
 have:∀ k,k < 12→Lard.isName (Lard.keyText k)=true:=by decide +kernel
 exact this k hk
theorem key_any (m:Nat) (w:World) (hm:m≤1000000):Calls Tryz.prog 19 #[.int .i64 m] w fun e w'=>e=.returned (.string (keyB m))∧Below w.heap.size w w':=by
 have HD:=hide (dec_any (m:Int) w (by omega) (by omega))
 have hz:(⟨(Lib.itoa (m:Int)).toArray⟩:ByteArray).size≤20:=by
  have:=Lard.itoa_len8 (x:=(m:Int)) (by omega)
  rw [size_data]
  simpa using Nat.le_trans this (by omega)
 have e:(⟨#[107]⟩:ByteArray)++⟨(Lib.itoa (m:Int)).toArray⟩=keyB m:=by
  unfold keyB Lard.keyText
  apply ByteArray.ext
  simp
 have HE:=hide e
 clear e
 generalize (⟨(Lib.itoa (m:Int)).toArray⟩:ByteArray)=d at HD HE hz
 generalize keyB m=kb at HE
 go_enter Tryz.func19,Tryz.ntmps19
 go_wp2_with fail
 refine HD.out.mono ?_
 rintro e w' ⟨rfl,hB⟩
 clear HD
 go_wp2_with fail
 go_ret
 exact ⟨by rw [←HE.out]; rfl,hB⟩
end
namespace Lard
def EC {α:Type} (r:Except Nat α):Prop:=∀ e,r=.error e→7≤e∧e≤12
theorem ec_ok {α:Type} (a:α):EC (.ok a:Except Nat α):=fun e h=>by cases h
theorem ec_err {α:Type} {c:Nat} (h:7≤c∧c≤12):EC (.error c:Except Nat α):=fun e h'=>by cases h'; exact h
def PE {α:Type}:Pe α→Prop
 |⟨.inl q⟩=>EC q.1
 |⟨.inr (_,c)⟩=>∀ w,EC w→PE (c w)
theorem pe_ret {α:Type} {r:Except Nat α} {f:Nat} (h:EC r):PE (.ret (r,f)):=h
theorem pe_then {α β:Type}:∀ (p:Pe α) (k:α→Nat→Pe β),PE p→(∀ v f,PE (k v f))→PE (thenP p k)
 |⟨.inl (.ok a,f)⟩,k,h,hk=>hk a f
 |⟨.inl (.error e,f)⟩,k,h,hk=>ec_err (h e rfl)
 |⟨.inr (q,c)⟩,k,h,hk=>fun w hw=>pe_then (c w) k (h w hw) hk
theorem pe_try:∀ (p:Pe V) (k:Nat→Pe V),PE p→(∀ f,PE (k f))→PE (tryP p k)
 |⟨.inl (.ok a,f)⟩,k,h,hk=>h
 |⟨.inl (.error e,f)⟩,k,h,hk=>by
  unfold tryP
  simp only [Pg.bind]
  by_cases he:e=7∨e=8∨e=9∨e=10
  ·rw [if_pos he]; exact hk f
  ·rw [if_neg he]; exact h
 |⟨.inr (q,c)⟩,k,h,hk=>fun w hw=>pe_try (c w) k (h w hw) hk
theorem ec_listOf (l:List V):EC (listOf l):=by
 unfold listOf
 split
 ·exact ec_err (by omega)
 ·exact ec_ok _
theorem ec_numIn (v:V):EC (numIn v):=by
 unfold numIn
 split
 ·exact ec_ok _
 ·exact ec_err (by omega)
theorem ec_listIn (v:V):EC (listIn v):=by
 unfold listIn
 split
 ·exact ec_ok _
 ·exact ec_err (by omega)
theorem ec_keyOf (v:V):EC (keyOf v):=by
 unfold keyOf
 split
 ·exact ec_ok _
 ·split
  ·exact ec_ok _
  ·exact ec_err (by omega)
 ·exact ec_err (by omega)
theorem pe_seq {α:Type} (P:α→Nat→Pe V) (hP:∀ a f,PE (P a f)):∀ (l:List α) (acc:List V) (f:Nat),PE (seqP P l acc f)
 |[],acc,f=>ec_listOf _
 |a :: r,acc,f=>pe_then _ _ (hP a f) fun v f=>pe_seq P hP r _ f
theorem pe_some (P:V→Nat→Pe V) (hP:∀ a f,PE (P a f)):∀ (l:List V) (acc:List V) (f:Nat),PE (someP P l acc f)
 |[],acc,f=>ec_listOf _
 |a :: r,acc,f=>pe_then _ _ (hP a f) fun v f=>by
  have hn:=ec_numIn v
  cases h:numIn v with
  |ok i =>
   show PE (if i=0 then _ else _)
   by_cases h0:i=0
   ·rw [if_pos h0]; exact pe_some P hP r _ f
   ·rw [if_neg h0]; exact pe_some P hP r _ f
  |error e=>exact ec_err (hn e h)
theorem pe_need (k:By) (f:Nat):PE (needP k f):=fun w hw=>hw
theorem ec_nums {x y:V} {g:Int→Int→Except Nat V} (hg:∀ i j,EC (g i j)):EC (nums x y g):=by
 unfold nums
 split
 ·exact hg _ _
 ·exact ec_err (by omega)
theorem ec_place (i:Int) (n:Nat):EC (place i n):=by
 unfold place
 split
 ·exact ec_err (by omega)
 ·exact ec_ok _
theorem ec_make (op:Nat) (x y:V):EC (make op x y):=by
 unfold make
 split
 ·unfold plus
  split
  ·exact ec_ok _
  ·split
   ·exact ec_err (by omega)
   ·exact ec_ok _
  ·exact ec_listOf _
  ·exact ec_err (by omega)
 ·split
  ·exact ec_nums fun _ _=>ec_ok _
  ·split
   ·exact ec_nums fun _ _=>ec_ok _
   ·split
    ·refine ec_nums fun _ _=>?_
     split
     ·exact ec_err (by omega)
     ·exact ec_ok _
    ·split
     ·unfold less
      split
      ·exact ec_ok _
      ·exact ec_ok _
      ·exact ec_err (by omega)
     ·split
      ·exact ec_ok _
      ·split
       ·exact ec_nums fun _ _=>ec_ok _
       ·split
        ·exact ec_nums fun _ _=>ec_ok _
        ·unfold atPlace
         split
         ·split
          ·split
           ·exact ec_ok _
           ·rename_i e h
            exact ec_err (ec_place _ _ e h)
          ·split
           ·exact ec_ok _
           ·rename_i e h
            exact ec_err (ec_place _ _ e h)
          ·exact ec_err (by omega)
         ·exact ec_err (by omega)
theorem ec_size (x:V):EC (size x):=by
 unfold size
 split
 ·exact ec_err (by omega)
 ·exact ec_ok _
 ·exact ec_ok _
theorem ec_sumFrom:∀ (l:List V) (a:Int),EC (sumFrom a l)
 |[],a=>ec_ok _
 |u :: r,a=>by
  unfold sumFrom
  split
  ·exact ec_sumFrom r _
  ·exact ec_err (by omega)
theorem ec_sumUp (x:V):EC (sumUp x):=by
 unfold sumUp
 split
 ·exact ec_sumFrom _ _
 ·exact ec_err (by omega)
theorem ec_asWord (x:V):EC (asWord x):=by
 unfold asWord
 split
 ·exact ec_ok _
 ·exact ec_ok _
 ·exact ec_err (by omega)
theorem pe_first (P:T→Nat→Pe V) (t:T) (f:Nat) (hP:∀ i f,PE (P (t.part i) f)):PE (firstP P t f):=by
 unfold firstP
 refine pe_then _ _ (hP 0 f) fun v f=>?_
 split
 ·exact pe_then _ _ (hP 1 f) fun u f=>pe_ret (ec_make _ _ _)
 ·split
  ·exact pe_ret (ec_make _ _ _)
  ·split
   ·have hk:=ec_keyOf v
    split
    ·exact pe_need _ _
    ·rename_i e h
     exact pe_ret (ec_err (hk e h))
   ·split
    ·have hk:=ec_numIn v
     split
     ·split
      ·exact hP 2 f
      ·exact hP 1 f
     ·rename_i e h
      exact pe_ret (ec_err (hk e h))
    ·split
     ·exact pe_ret (ec_size _)
     ·split
      ·exact pe_ret (ec_sumUp _)
      ·split
       ·exact pe_ret (ec_asWord _)
       ·exact pe_ret (ec_ok _)
theorem pe_tr:∀ (n:Nat) (t:T) (it:Option V) (f:Nat),PE (tr n t it f)
 |0,t,it,f=>ec_err (by omega)
 |n + 1,t,it,f=>by
  have hp:∀ i f,PE (tr n (t.part i) it f):=fun i f=>pe_tr n _ it f
  have hp2:∀ i u f,PE (tr n (t.part i) (some u) f):=fun i u f=>pe_tr n _ _ f
  unfold tr
  split
  ·exact pe_first _ t f hp
  ·split
   ·exact pe_ret (ec_err (by omega))
   ·split
    ·refine pe_ret ?_
     split
     ·exact ec_ok _
     ·exact ec_err (by omega)
    ·split
     ·exact pe_need _ _
     ·split
      ·refine pe_ret ?_
       split
       ·exact ec_ok _
       ·exact ec_err (by omega)
      ·split
       ·exact pe_try _ _ (hp 0 _) (fun f=>hp 1 f)
       ·split
        ·refine pe_then _ _ (hp 0 _) fun v f=>?_
         have hl:=ec_listIn v
         cases h:listIn v with
         |ok l=>exact pe_seq _ (fun a f=>hp2 1 a f) l [] f
         |error e=>exact pe_ret (ec_err (hl e h))
        ·split
         ·refine pe_then _ _ (hp 0 _) fun v f=>?_
          have hl:=ec_listIn v
          cases h:listIn v with
          |ok l=>exact pe_some _ (fun a f=>hp2 1 a f) l [] f
          |error e=>exact pe_ret (ec_err (hl e h))
         ·split
          ·exact pe_seq _ (fun a f=>pe_tr n a it f) _ _ _
          ·exact pe_first _ t _ hp
def CE:Pg Wo→Prop
 |⟨.inl w⟩=>EC w
 |⟨.inr (_,c)⟩=>∀ w,EC w→CE (c w)
theorem ce_worth:∀ (p:Pe V),PE p→CE p.worth
 |⟨.inl (r,f)⟩,h=>h
 |⟨.inr (k,c)⟩,h=>fun w hw=>ce_worth (c w) (h w hw)
theorem ce_prog (t:T):CE (prog t):=ce_worth _ (pe_tr _ t none 400)
theorem Rn.ec {O:By→Wo→Prop} (h:∀ k u,O k u→EC u):∀ (p:Pg Wo) (w:Wo),Rn O p w→CE p→EC w
 |⟨.inl _⟩,_,hp,hc=>hp.1 ▸ hc
 |⟨.inr (k,c)⟩,w,⟨u,h1,h2⟩,hc=>Rn.ec h (c u) w h2 (hc u (h k u h1))
theorem Wn.ec {e:Src}:∀ {n:Nat} {k:By} {w:Wo},Wn e n k w→EC w:=by
 have hb:∀ {k w},Base e k w→EC w:=by
  intro k w h
  rcases h with ⟨_,rfl⟩ | ⟨v,h,rfl⟩
  ·exact ec_err (by omega)
  ·exact ec_ok _
 intro n
 induction n with
 |zero=>intro k w h; exact hb h
 |succ n ih =>
  intro k w h
  rcases h with h | ⟨t,h1,h2⟩
  ·exact hb h
  ·exact Rn.ec (fun k u h=>ih h) _ _ h2 (ce_prog t)
theorem Is.ec {e:Src} {k:By} {w:Wo} (h:Is e k w):EC w:=by
 rcases h with ⟨n,h⟩ | ⟨rfl,_⟩
 ·exact Wn.ec h
 ·exact ec_err (by omega)
theorem Sound.ec {s:LS} (h:Sound s) (key:By):EC (s.ask key).1:=by
 obtain ⟨_,_,h1,_⟩:=h.bp key
 exact h1.ec
end Lard
section
open Go.RowKit
namespace Lard
def srcI (p:Nat×By):Option (V ⊕ T):=if p.1=1 then (rdV p.2).map .inl else if p.1=2 then (if check p.2=(0,0) then some (.inr (treeOf p.2)) else none) else none
def OkI (p:Nat×By):Prop:=p=(0,[])∨(p.1=1∧(rdV p.2).isSome=true∧p.2.length≤1000)∨(p.1=2∧check p.2=(0,0)∧(treeOf p.2).kind≠0)
structure HasOk (s:LS) (H:Nat→Nat×By) (m:Nat):Prop where
 sound:Sound s
 src:∀ i,i < 8→srcOf s.has (keyText i)=if i < m then srcI (H i) else none
 out:∀ k,(∀ i,i < 8→keyText i≠k)→srcOf s.has k=none
 nodup:(s.has.map (·.1)).Nodup
def updH (H:Nat→Nat×By) (n:Nat) (p:Nat×By):Nat→Nat×By:=fun i=>if i=n then p else H i
theorem keyText_inj:∀ i,i < 8→∀ j,j < 8→keyText i=keyText j→i=j:=by
 have:∀ i,i < 8→∀ j,j < 8→keyText i=keyText j→i=j:=by decide +kernel
 exact this
theorem src_none {h:List (By×Thing)} {k:By}:srcOf h k=none↔look h k=none:=by
 unfold srcOf
 cases look h k <;> simp
theorem keys_put (l:List (By×Thing)) (k:By) (a:Thing):(put l k a).map (·.1)=if (look l k).isSome then l.map (·.1) else l.map (·.1)++[k]:=by
 unfold put
 split
 ·rw [List.map_map]
  apply List.map_congr_left
  intro p _
  by_cases h:p.1=k
  ·simp [h]
  ·simp [h]
 ·simp
theorem nodup_put {l:List (By×Thing)} {k:By} {a:Thing} (h:(l.map (·.1)).Nodup):((put l k a).map (·.1)).Nodup:=by
 rw [keys_put]
 split
 ·exact h
 ·rename_i hn
  have hn':look l k=none:=by simpa using hn
  rw [List.nodup_append]
  refine ⟨h,by simp,fun x hx y hy=>?_⟩
  rw [List.mem_singleton.1 hy]
  obtain ⟨p,hp,rfl⟩:=List.mem_map.1 hx
  exact look_none.1 hn' p hp
theorem nodup_del {l:List (By×Thing)} {k:By} (h:(l.map (·.1)).Nodup):((del l k).map (·.1)).Nodup:=by
 unfold del
 exact h.sublist (List.Sublist.map _ List.filter_sublist)
theorem nodup_sub:∀ (l m:List By),l.Nodup→(∀ x∈l,x∈m)→l.length≤m.length
 |[],m,_,_=>Nat.zero_le _
 |a :: l,m,hd,hs=>by
  obtain ⟨h1,h2⟩:=List.nodup_cons.1 hd
  have ha:a∈m:=hs a List.mem_cons_self
  have:=nodup_sub l (m.erase a) h2 (fun x hx=>by
   have hne:x≠a:=fun e=>h1 (e ▸ hx)
   exact (List.mem_erase_of_ne hne).2 (hs x (List.mem_cons_of_mem _ hx)))
  rw [List.length_erase_of_mem ha] at this
  have hp:0 < m.length:=List.length_pos_of_mem ha
  simp only [List.length_cons]
  omega
section
variable {s f:LS} {H:Nat→Nat×By} {m n:Nat}
theorem HasOk.len (h:HasOk s H m):s.has.length≤8:=by
 have:=nodup_sub (s.has.map (·.1)) ((List.range 8).map keyText) h.nodup (fun x hx=>by
  refine Classical.byContradiction fun hc=>?_
  have h1:=src_none.1 (h.out x (fun i hi e=>hc (List.mem_map.2 ⟨i,List.mem_range.2 hi,e⟩)))
  obtain ⟨p,hp,rfl⟩:=List.mem_map.1 hx
  exact look_none.1 h1 p hp rfl)
 simpa using this
theorem HasOk.new (H:Nat→Nat×By):HasOk LS.new H 0 where
 sound:=Sound.new
 src i hi:=by rw [if_neg (by omega)]; rfl
 out k _:=rfl
 nodup:=List.nodup_nil
theorem HasOk.none8:HasOk LS.new (fun _=>(0,[])) 8 where
 sound:=Sound.new
 src i hi:=by rw [if_pos hi]; rfl
 out k _:=rfl
 nodup:=List.nodup_nil
theorem HasOk.put (h:HasOk s H m) (hn:n < 8) (hm:m=8) {th:Thing} (hs:Sound ({ s with has:=Lard.put s.has (keyText n) th }.write (thingText (keyText n) th))) {p:Nat×By} (hp:srcI p=some (match th.tree with | .none=>.inl th.value | .some t=>.inr t)) :
  HasOk ({ s with has:=Lard.put s.has (keyText n) th }.write (thingText (keyText n) th)) (updH H n p) 8 where
 sound:=hs
 src i hi:=by
  show srcOf (Lard.put s.has (keyText n) th) (keyText i)=_
  rw [src_put,if_pos hi]
  unfold updH
  by_cases e:i=n
  ·rw [if_pos (by rw [e]),if_pos e,hp]
   cases th.tree <;> rfl
  ·rw [if_neg (fun e2=>e (keyText_inj n hn i hi e2).symm),if_neg e,h.src i hi,if_pos (by omega)]
 out k hk:=by
  show srcOf (Lard.put s.has (keyText n) th) k=_
  rw [src_put,if_neg (hk n hn)]
  exact h.out k hk
 nodup:=nodup_put h.nodup
theorem HasOk.more (h:HasOk s H m) (hm:m < 8) {th:Thing} (hs:Sound ({ s with has:=Lard.put s.has (keyText m) th }.write (thingText (keyText m) th))) (hp:srcI (H m)=some (match th.tree with | .none=>.inl th.value | .some t=>.inr t)) :
  HasOk ({ s with has:=Lard.put s.has (keyText m) th }.write (thingText (keyText m) th)) H (m + 1) where
 sound:=hs
 src i hi:=by
  show srcOf (Lard.put s.has (keyText m) th) (keyText i)=_
  rw [src_put]
  by_cases e:i=m
  ·subst e
   rw [if_pos rfl,if_pos (by omega),hp]
   cases th.tree <;> rfl
  ·rw [if_neg (fun e2=>e (keyText_inj m hm i hi e2).symm),h.src i hi]
   by_cases e3:i < m
   ·rw [if_pos e3,if_pos (by omega)]
   ·rw [if_neg e3,if_neg (by omega)]
 out k hk:=by
  show srcOf (Lard.put s.has (keyText m) th) k=_
  rw [src_put,if_neg (hk m hm)]
  exact h.out k hk
 nodup:=nodup_put h.nodup
theorem HasOk.skip (h:HasOk s H m) (hm:m < 8) (hp:srcI (H m)=none):HasOk s H (m + 1) where
 sound:=h.sound
 src i hi:=by
  rw [h.src i hi]
  by_cases e:i=m
  ·subst e
   rw [if_neg (by omega),if_pos (by omega),hp]
  ·by_cases e3:i < m
   ·rw [if_pos e3,if_pos (by omega)]
   ·rw [if_neg e3,if_neg (by omega)]
 out:=h.out
 nodup:=h.nodup
theorem HasOk.drop (h:HasOk s H 8) (hn:n < 8):HasOk (s.drop (keyText n)) (updH H n (0,[])) 8 where
 sound:=h.sound.drop _
 src i hi:=by
  show srcOf (del s.has (keyText n)) (keyText i)=_
  rw [src_del,if_pos hi]
  unfold updH
  by_cases e:i=n
  ·rw [if_pos (by rw [e]),if_pos e]
   rfl
  ·rw [if_neg (fun e2=>e (keyText_inj n hn i hi e2).symm),if_neg e,h.src i hi,if_pos hi]
 out k hk:=by
  show srcOf (del s.has (keyText n)) k=_
  rw [src_del,if_neg (hk n hn)]
  exact h.out k hk
 nodup:=nodup_del h.nodup
theorem HasOk.ask (h:HasOk s H m) (key:By):HasOk (s.ask key).2 H m where
 sound:=h.sound.ask key
 src i hi:=by rw [h.sound.src]; exact h.src i hi
 out k hk:=by rw [h.sound.src]; exact h.out k hk
 nodup:=by
  have hs:strip (s.ask key).2.has=strip s.has:=(h.sound.nst key).strip
  have e:∀ l:List (By×Thing),l.map (·.1)=(strip l).map (·.1):=fun l=>by
   unfold strip
   rw [List.map_map]
   rfl
  rw [e,hs,←e]
  exact h.nodup
theorem HasOk.look (h:HasOk s H 8) (hn:n < 8) (hok:OkI (H n)):(Lard.look s.has (keyText n)).isSome=decide (0 < (H n).1):=by
 have ha:=h.src n hn
 rw [if_pos hn] at ha
 have key:(Lard.look s.has (keyText n)).isSome=(srcI (H n)).isSome:=by
  rw [←ha]
  unfold srcOf
  cases Lard.look s.has (keyText n) <;> rfl
 rw [key]
 rcases hok with e | ⟨h1,h2,_⟩ | ⟨h1,h2,_⟩
 ·rw [e]; rfl
 ·unfold srcI
  rw [if_pos h1,Option.isSome_map,h2,h1]
  rfl
 ·unfold srcI
  rw [if_neg (by omega),if_pos h1,if_pos h2,h1]
  rfl
theorem HasOk.same (h:HasOk s H 8) (h':HasOk f H 8):srcOf s.has=srcOf f.has:=by
 funext k
 by_cases e:∃ i,i < 8∧keyText i=k
 ·obtain ⟨i,hi,rfl⟩:=e
  rw [h.src i hi,h'.src i hi]
 ·rw [h.out k (fun i hi e2=>e ⟨i,hi,e2⟩),h'.out k (fun i hi e2=>e ⟨i,hi,e2⟩)]
theorem HasOk.ask_same (h:HasOk s H 8) (h':HasOk f H 8) (key:By):(s.ask key).1=(f.ask key).1:=Lard.ask_same h.sound h'.sound (h.same h') key
end
/-! The rules and values that are made out of numbers. -/
theorem keyT_eq:∀ i,i < 8→keyT i=keyText i:=by
 have:∀ i,i < 8→keyT i=keyText i:=by decide +kernel
 exact this
theorem rule_good {k a b:Nat} (hk:k < 16) (ha:a < 8) (hb:b < 8):check (ruleText k (keyText a) (keyText b) (digitText (a % 4)))=(0,0)∧(ruleText k (keyText a) (keyText b) (digitText (a % 4))).length≤60:=by
 have h1:=rules_ok
 have h2:=rules_len
 simp only [List.all_eq_true,List.mem_range,beq_iff_eq,decide_eq_true_eq] at h1 h2
 rw [←keyT_eq a ha,←keyT_eq b hb]
 exact ⟨h1 k hk a ha b hb,h2 k hk a ha b hb⟩
theorem digit_good {d:Nat} (hd:d < 10):check (digitText d)=(0,0):=by
 have h1:=digits_ok
 simp only [List.all_eq_true,List.mem_range,beq_iff_eq] at h1
 exact h1 d hd
theorem value_good {k:Nat} (hk:k < 12):(rdV (valueText k)).isSome=true∧(valueText k).length≤1000:=by
 have h1:=values_ok
 simp only [List.all_eq_true,List.mem_range] at h1
 refine ⟨h1 k hk,?_⟩
 have:∀ k,k < 12→(valueText k).length≤1000:=by decide +kernel
 exact this k hk
end Lard
end
section
open Go.RowKit
namespace Lard
theorem rules_tree:((List.range 16).all fun k=>(List.range 8).all fun a=>(List.range 8).all fun b=>(treeOf (ruleText k (keyT a) (keyT b) (digitText (a % 4)))).kind != 0)=true:=by kernel_rfl
theorem digits_tree:((List.range 10).all fun d=>(treeOf (digitText d)).kind != 0)=true:=by kernel_rfl
theorem rule_tree {k a b:Nat} (hk:k < 16) (ha:a < 8) (hb:b < 8):(treeOf (ruleText k (keyText a) (keyText b) (digitText (a % 4)))).kind≠0:=by
 have h1:=rules_tree
 simp only [List.all_eq_true,List.mem_range,bne_iff_ne] at h1
 rw [←keyT_eq a ha,←keyT_eq b hb]
 exact h1 k hk a ha b hb
theorem digit_tree {d:Nat} (hd:d < 10):(treeOf (digitText d)).kind≠0:=by
 have h1:=digits_tree
 simp only [List.all_eq_true,List.mem_range,bne_iff_ne] at h1
 exact h1 d hd
end Lard
end
section
open Go.RowKit
theorem ruleT_of {l:List UInt8} (h:Lard.check l=(0,0)) (ht:(Lard.treeOf l).kind≠0):Lard.ruleT l=some (Lard.treeOf l):=by
 unfold Lard.check at h
 split at h
 ·cases h
 ·rename_i hl
  rw [←Lard.place_PT l _ _ _ _ _ []] at h
  unfold Lard.ruleT
  rw [if_neg hl]
  unfold Lard.treeOf at ht ⊢
  cases hp:Lard.PT l (8 * l.length + 5) 0 0 0 (Lard.skip l 0) [] with
  |error e =>
   rw [hp] at ht
   exact absurd rfl ht
  |ok q =>
   obtain ⟨j,ts⟩:=q
   rw [hp] at h ht
   simp only [Lard.placeOf,Lard.endOf] at h
   split at h
   ·rename_i h0
    simp only [if_pos h0]
    cases ts with
    |nil=>exact absurd rfl ht
    |cons t r=>rfl
   ·cases h
end
section
set_option maxRecDepth 100000
set_option maxHeartbeats 1000000
open Go.RowKit Go.Shelf
def txB (l:List UInt8):ByteArray:=⟨l.toArray⟩
theorem txB_list (l:List UInt8):(txB l).data.toList=l:=by simp [txB]
theorem txB_size (l:List UInt8):(txB l).size=l.length:=size_mk l
def valCells:Array Value:=#[.string ⟨#[48]⟩,.string ⟨#[49]⟩,.string ⟨#[45,51]⟩,.string ⟨#[53]⟩,.string ⟨#[39,107,49,39]⟩,.string ⟨#[39,97,98,39]⟩,.string ⟨#[123,125]⟩,.string ⟨#[123,49,44,50,125]⟩,.string ⟨#[123,123,49,125,44,39,120,39,125]⟩,.string ⟨#[57,50,50,51,51,55,50,48,51,54,56,53,52,55,55,53,56,48,55]⟩,.string ⟨#[123,48,44,49,44,50,44,51,44,52,44,53,44,54,44,55,44,56,44,57,44,49,48,44,49,49,125]⟩,.string ⟨#[39,39]⟩]
theorem val_at:∀ k,k < 12→valCells[k]? = some (.string (txB (Lard.valueText k)))
 |0,_=>rfl
 |1,_=>rfl
 |2,_=>rfl
 |3,_=>rfl
 |4,_=>rfl
 |5,_=>rfl
 |6,_=>rfl
 |7,_=>rfl
 |8,_=>rfl
 |9,_=>rfl
 |10,_=>rfl
 |11,_=>rfl
 |n + 12,h=>by omega
theorem value_any (c:Int) (w:World) (h0:-9223372036854775808≤c) (h1:c≤9223372036854775807):Calls Tryz.prog 45 #[.int .i64 c] w fun e w'=>e=.returned (.string (txB (Lard.valueText (pickN c 12))))∧Below w.heap.size w w':=by
 have HP:=hide (fun w=>pick_any c 12 w h0 h1 (by omega) (by omega))
 have hp:pickN c 12 < 12:=Nat.mod_lt _ (by omega)
 generalize pickN c 12=p at HP hp
 have hc:(w.alloc (.cells valCells 9)).cell? ⟨w.heap.size,p,none⟩=some (.string (txB (Lard.valueText p))):=by
  rw [cell_of_row _ _ _ _ _ _ (heap_alloc_new w (.cells valCells 9))]
  exact val_at p hp
 have HB:Hid (Below w.heap.size w (w.alloc (.cells valCells 9))):=hide ((Below.refl _ w).alloc (Nat.le_refl _) _)
 unfold valCells at hc HB
 clear h0 h1
 have hpi:(p:Int) < 12:=by omega
 go_enter Tryz.func45,Tryz.ntmps45
 go_wp2_with fail
 refine (HP.out _).mono ?_
 rintro e w' ⟨rfl,hw'⟩
 obtain rfl:=hw'.symm
 go_wp2_with fail
 go_ret
 exact ⟨rfl,HB.out⟩
end
section
set_option maxRecDepth 100000
set_option maxHeartbeats 8000000
open Go.RowKit Go.Shelf
def ruleTx (k a b d e:Nat):List UInt8:=if k=15 then Lard.digitText e else Lard.ruleText k (Lard.keyText a) (Lard.keyText b) (Lard.digitText d)
def ruleOf (c:Int):List UInt8:=ruleTx (pickN c 16) (pickN (c.tdiv 16) 8) (pickN (c.tdiv 128) 8) (pickN (c.tdiv 16) 4) (pickN (c.tdiv 16) 10)
theorem tdiv_in (c:Int) (m:Nat) (hm:0 < m) (h0:-9223372036854775808≤c) (h1:c≤9223372036854775807):-9223372036854775808≤c.tdiv m∧c.tdiv m≤9223372036854775807:=by
 by_cases h:c < 0
 ·obtain ⟨u,rfl⟩:∃ u:Nat,c=-(u:Int):=⟨(-c).toNat,by omega⟩
  rw [Int.neg_tdiv]
  have e:((u:Int).tdiv (m:Int))=((u / m:Nat):Int):=rfl
  rw [e]
  have:=Nat.div_le_self u m
  generalize u / m=q at this
  omega
 ·obtain ⟨u,rfl⟩:∃ u:Nat,c=(u:Int):=⟨c.toNat,by omega⟩
  have e:((u:Int).tdiv (m:Int))=((u / m:Nat):Int):=rfl
  rw [e]
  have:=Nat.div_le_self u m
  generalize u / m=q at this
  omega
theorem digit_itoa:∀ d:Nat,d < 10→Lib.itoa (d:Int)=Lard.digitText d:=by
 have:∀ d:Nat,d < 10→Lib.itoa (d:Int)=Lard.digitText d:=by decide +kernel
 exact this
theorem keyB_size {m:Nat} (h:m≤1000):(keyB m).size≤20:=by
 rw [size_data,keyB_list]
 have:=Lard.itoa_len8 (x:=(m:Int)) (by omega)
 unfold Lard.keyText
 simp only [List.length_cons]
 omega
theorem rule_any (c:Int) (w:World) (h0:-9223372036854775808≤c) (h1:c≤9223372036854775807):Calls Tryz.prog 46 #[.int .i64 c] w fun e w'=>e=.returned (.string (txB (ruleOf c)))∧Below w.heap.size w w':=by
 have hb16:-9223372036854775808≤c.tdiv 16∧c.tdiv 16≤9223372036854775807:=tdiv_in c 16 (by omega) h0 h1
 have hb128:-9223372036854775808≤c.tdiv 128∧c.tdiv 128≤9223372036854775807:=tdiv_in c 128 (by omega) h0 h1
 have hw16:IntKind.i64.wrap (c.tdiv 16)=c.tdiv 16:=by rw [IntKind.wrap_i64]; omega
 have hw128:IntKind.i64.wrap (c.tdiv 128)=c.tdiv 128:=by rw [IntKind.wrap_i64]; omega
 have HPA:=hide (fun w=>pick_any (c.tdiv 16) 8 w hb16.1 hb16.2 (by omega) (by omega))
 have HPB:=hide (fun w=>pick_any (c.tdiv 128) 8 w hb128.1 hb128.2 (by omega) (by omega))
 have HPK:=hide (fun w=>pick_any c 16 w h0 h1 (by omega) (by omega))
 have HP4:=hide (fun w=>pick_any (c.tdiv 16) 4 w hb16.1 hb16.2 (by omega) (by omega))
 have HP10:=hide (fun w=>pick_any (c.tdiv 16) 10 w hb16.1 hb16.2 (by omega) (by omega))
 have hpa:pickN (c.tdiv 16) 8 < 8:=Nat.mod_lt _ (by omega)
 have hpb:pickN (c.tdiv 128) 8 < 8:=Nat.mod_lt _ (by omega)
 have hpk:pickN c 16 < 16:=Nat.mod_lt _ (by omega)
 have hp4:pickN (c.tdiv 16) 4 < 4:=Nat.mod_lt _ (by omega)
 have hp10:pickN (c.tdiv 16) 10 < 10:=Nat.mod_lt _ (by omega)
 generalize hRR:(fun (e:Ending) (w':World)=>e=.returned (.string (txB (ruleOf c)))∧Below w.heap.size w w')=RR
 have HFIN:Hid (∀ (w':World) (t:ByteArray),Below w.heap.size w w'→t.data.toList=ruleOf c→RR (.returned (.string t)) w'):=hide (fun w' t hB ht=>by
  rw [←hRR]
  refine ⟨?_,hB⟩
  have:t=txB (ruleOf c):=by
   apply ByteArray.ext
   apply Array.toList_inj.1
   rw [ht,txB_list]
  rw [this])
 unfold ruleOf at HFIN
 clear hRR
 generalize pickN (c.tdiv 16) 8=a at HPA hpa HFIN
 generalize pickN (c.tdiv 128) 8=b at HPB hpb HFIN
 generalize pickN c 16=k at HPK hpk HFIN
 generalize pickN (c.tdiv 16) 4=d at HP4 hp4 HFIN
 generalize pickN (c.tdiv 16) 10=x at HP10 hp10 HFIN
 have HYA:=hide (fun w=>key_any a w (by omega))
 have HYB:=hide (fun w=>key_any b w (by omega))
 have HD8:=hide (fun w=>dec_any 8 w (by omega) (by omega))
 have HD4:=hide (fun w=>dec_any (d:Int) w (by omega) (by omega))
 have HD10:=hide (fun w=>dec_any (x:Int) w (by omega) (by omega))
 rw [digit_itoa d (by omega)] at HD4
 rw [digit_itoa x (by omega)] at HD10
 rw [show Lib.itoa 8=[56] from by decide +kernel] at HD8
 have hza:(keyB a).size≤20:=keyB_size (by omega)
 have hzb:(keyB b).size≤20:=keyB_size (by omega)
 have hz4:(⟨(Lard.digitText d).toArray⟩:ByteArray).size≤1:=Nat.le_refl _
 have hz10:(⟨(Lard.digitText x).toArray⟩:ByteArray).size≤1:=Nat.le_refl _
 have hz8:(⟨[56].toArray⟩:ByteArray).size≤1:=Nat.le_refl _
 have HA:=hide (And.intro (keyB_list a) (And.intro (keyB_list b) (And.intro (data_mk (Lard.digitText d)) (And.intro (data_mk (Lard.digitText x)) (data_mk [56])))))
 generalize (⟨(Lard.digitText d).toArray⟩:ByteArray)=t4 at HD4 hz4 HA
 generalize (⟨(Lard.digitText x).toArray⟩:ByteArray)=t10 at HD10 hz10 HA
 generalize (⟨[56].toArray⟩:ByteArray)=t8 at HD8 hz8 HA
 clear hb16 hb128
 go_enter Tryz.func46,Tryz.ntmps46
 go_wp2_with fail
 refine (HPA.out _).mono ?_
 rintro e w' ⟨rfl,hw'⟩
 obtain rfl:=hw'.symm
 dsimp only
 go_wp2_with fail
 refine (HYA.out _).mono ?_
 rintro e w1 ⟨rfl,hB1⟩
 dsimp only
 go_wp2_with fail
 refine (HPB.out _).mono ?_
 rintro e w' ⟨rfl,hw'⟩
 obtain rfl:=hw'.symm
 dsimp only
 go_wp2_with fail
 refine (HYB.out _).mono ?_
 rintro e w4 ⟨rfl,hB4'⟩
 have hB4:=hB1.trans (hB4'.mono hB1.size)
 dsimp only
 go_wp2_with fail
 refine (HPK.out _).mono ?_
 rintro e w' ⟨rfl,hw'⟩
 obtain rfl:=hw'.symm
 dsimp only
 clear HPA HYA HPB HYB HPK hB1 hB4' h0 h1 hw128
 have hk:k=0∨k=1∨k=2∨k=3∨k=4∨k=5∨k=6∨k=7∨k=8∨k=9∨k=10∨k=11∨k=12∨k=13∨k=14∨k=15:=by omega
 unfold ruleTx at HFIN
 rcases hk with rfl | rfl | rfl | rfl | rfl | rfl | rfl | rfl | rfl | rfl | rfl | rfl | rfl | rfl | rfl | rfl
 ·skip
  go_wp2_with fail
  exact HFIN.out _ _ hB4 (by simp [Lard.ruleText,HA.out.1,HA.out.2.1])
 ·skip
  go_wp2_with fail
  exact HFIN.out _ _ hB4 (by simp [Lard.ruleText,HA.out.1,HA.out.2.1])
 ·skip
  go_wp2_with fail
  exact HFIN.out _ _ hB4 (by simp [Lard.ruleText,HA.out.1,HA.out.2.1])
 ·skip
  go_wp2_with fail
  refine (HD8.out _).mono ?_
  rintro e w5 ⟨rfl,hB5⟩
  have hB5':=hB4.trans (hB5.mono hB4.size)
  dsimp only
  go_wp2_with fail
  exact HFIN.out _ _ hB5' (by simp [Lard.ruleText,HA.out.1,HA.out.2.2.2.2])
 ·skip
  go_wp2_with fail
  exact HFIN.out _ _ hB4 (by simp [Lard.ruleText,HA.out.1,HA.out.2.1])
 ·skip
  go_wp2_with fail
  exact HFIN.out _ _ hB4 (by simp [Lard.ruleText,HA.out.1,HA.out.2.1])
 ·skip
  go_wp2_with fail
  refine (HP4.out _).mono ?_
  rintro e w' ⟨rfl,hw'⟩
  obtain rfl:=hw'.symm
  dsimp only
  go_wp2_with fail
  refine (HD4.out _).mono ?_
  rintro e w5 ⟨rfl,hB5⟩
  have hB5':=hB4.trans (hB5.mono hB4.size)
  dsimp only
  go_wp2_with fail
  exact HFIN.out _ _ hB5' (by simp [Lard.ruleText,HA.out.1,HA.out.2.1,HA.out.2.2.1])
 ·skip
  go_wp2_with fail
  exact HFIN.out _ _ hB4 (by simp [Lard.ruleText,HA.out.1,HA.out.2.1])
 ·skip
  go_wp2_with fail
  exact HFIN.out _ _ hB4 (by simp [Lard.ruleText,HA.out.1,HA.out.2.1])
 ·skip
  go_wp2_with fail
  exact HFIN.out _ _ hB4 (by simp [Lard.ruleText,HA.out.1,HA.out.2.1])
 ·skip
  go_wp2_with fail
  exact HFIN.out _ _ hB4 (by simp [Lard.ruleText,HA.out.1,HA.out.2.1])
 ·skip
  go_wp2_with fail
  exact HFIN.out _ _ hB4 (by simp [Lard.ruleText,HA.out.1,HA.out.2.1])
 ·skip
  go_wp2_with fail
  exact HFIN.out _ _ hB4 (by simp [Lard.ruleText,HA.out.1,HA.out.2.1])
 ·skip
  go_wp2_with fail
  exact HFIN.out _ _ hB4 (by simp [Lard.ruleText,HA.out.1,HA.out.2.1])
 ·skip
  go_wp2_with fail
  exact HFIN.out _ _ hB4 (by simp [Lard.ruleText,HA.out.1,HA.out.2.1])
 ·skip
  go_wp2_with fail
  refine (HP10.out _).mono ?_
  rintro e w' ⟨rfl,hw'⟩
  obtain rfl:=hw'.symm
  dsimp only
  go_wp2_with fail
  refine (HD10.out _).mono ?_
  rintro e w5 ⟨rfl,hB5⟩
  have hB5':=hB4.trans (hB5.mono hB4.size)
  dsimp only
  go_wp2_with fail
  exact HFIN.out _ _ hB5' (by simp [HA.out.2.2.2.1])
end
end Go.Proofs.YtpekpdimdelncaaGreatDoor
