/- Short names of the library's theorems. -/
namespace Go.Proofs.YtpekpdimdelncaaGreatDoor
abbrev ae:=@if_neg
abbrev af:=@Nat.le_refl
abbrev ag:=@if_pos
abbrev ah:=@Nat.le_trans
abbrev aj:=@List.length_append
abbrev aq:=@List.getElem?_eq_getElem
abbrev ar:=@Nat.zero_le
abbrev au:=@List.setIfInBounds_toArray
abbrev aw:=@Nat.lt_of_lt_of_le
abbrev az:=@beq_eq_false_iff_ne
abbrev aA:=@List.getElem?_eq_some_iff
abbrev aB:=@Option.some.inj
abbrev aD:=@List.length_singleton
abbrev aE:=@List.mem_map
abbrev aF:=@Nat.le_of_lt
abbrev aG:=@Nat.zero_add
abbrev aH:=@List.length_map
abbrev aI:=@Nat.le_add_right
abbrev aJ:=@List.mem_of_getElem?
abbrev aK:=@List.mem_cons
abbrev aL:=@List.mem_append
abbrev aM:=@List.length_cons
abbrev aN:=@decide_eq_false
abbrev aO:=@if_true
abbrev aP:=@List.getElem?_append_left
abbrev aQ:=@decide_eq_true
abbrev aR:=@Nat.add_zero
abbrev aS:=@List.mem_cons_of_mem
abbrev aT:=@List.drop_eq_nil_of_le
abbrev aU:=@List.drop_eq_getElem_cons
abbrev aV:=@List.length_drop
abbrev aW:=@List.drop_zero
abbrev aX:=@List.getElem?_append_right
abbrev aY:=@List.length_set
abbrev aZ:=@List.map_append
abbrev Q4:=@ByteArray.size_append
abbrev Q5:=@bne_iff_ne
abbrev Q6:=@List.getElem?_map
abbrev Q7:=@List.flatMap_cons
abbrev Q8:=@List.getElem?_set_self
abbrev Q9:=@List.take_succ_cons
abbrev Q_:=@List.mem_singleton
abbrev Ra:=@List.length_nil
abbrev Rb:=@List.map_map
abbrev Rd:=@beq_iff_eq
abbrev Rf:=@List.length_take
abbrev Rg:=@List.mem_cons_self
abbrev Rh:=@Nat.mul_one
abbrev Ri:=@List.take_of_length_le
abbrev Rk:=@List.all_eq_true
abbrev Rl:=@Array.getElem?_eq_some_iff
abbrev Rm:=@List.flatMap_append
abbrev Ro:=@Nat.lt_or_ge
abbrev Rp:=@UInt8.toNat_inj
abbrev Rq:=@Array.getElem?_modify
abbrev Rr:=@List.map_cons
abbrev Rt:=@Nat.mul_le_mul_right
abbrev Ru:=@Bool.true_and
abbrev Rv:=@Bool.or_eq_true
abbrev Rx:=@List.drop_succ_cons
abbrev Ry:=@if_false
abbrev Rz:=@List.nil_append
abbrev RA:=@dif_pos
abbrev RB:=@List.mem_append_left
abbrev RC:=@List.cons_append
abbrev RD:=@List.append_nil
abbrev RG:=@List.getElem?_set_ne
abbrev RH:=@List.map_congr_left
abbrev RI:=@Nat.le_succ
abbrev RJ:=@Nat.add_assoc
abbrev RL:=@List.all_cons
abbrev RM:=@or_false
abbrev RN:=@List.eq_nil_of_length_eq_zero
abbrev RO:=@Bool.and_eq_true
abbrev RQ:=@Nat.add_sub_cancel_left
abbrev RS:=@Bool.false_and
abbrev RU:=@List.append_assoc
abbrev RV:=@Array.getElem?_eq_getElem
abbrev RW:=@Nat.mul_le_mul_left
abbrev RY:=@Nat.zero_mul
abbrev RZ:=@List.head?_eq_getElem?
abbrev R0:=@Option.map_some
abbrev R1:=@List.nodup_cons
abbrev R2:=@Function.comp_def
abbrev R3:=@List.map_set
abbrev R4:=@List.length_eq_zero_iff
abbrev R6:=@Bool.eq_iff_iff
abbrev R7:=@List.getElem_of_mem
abbrev R8:=@List.take_append_drop
abbrev R9:=@Array.getElem?_eq_none
abbrev R_:=@List.filter_cons
abbrev Sa:=@List.getElem?_of_mem
abbrev Sb:=@Nat.sub_le
abbrev Sc:=@Array.getElem?_toList
abbrev Sd:=@List.take_left
abbrev Se:=@List.ext_getElem?
abbrev Sf:=@List.take_add_one
abbrev Sh:=@List.nodup_append
abbrev Si:=@List.getElem_mem
abbrev Sj:=@List.mem_filter
abbrev Sk:=@List.not_mem_nil
abbrev Sl:=@Nat.succ_mul
abbrev Sm:=@List.mem_flatMap
abbrev Sn:=@Nat.sub_zero
abbrev Sq:=@ByteArray.size_extract
abbrev Sr:=@Bool.false_or
abbrev Ss:=@Bool.false_eq_true
abbrev Su:=@Option.isSome_iff_exists
abbrev Sv:=@Nat.mod_lt
abbrev Sw:=@Decidable.byContradiction
abbrev Sx:=@Array.getElem?_eq_none_iff
abbrev Sy:=@Nat.le_max_left
abbrev Sz:=@Nat.le_max_right
abbrev SA:=@List.dropWhile_cons
abbrev SB:=@Option.map_eq_some_iff
abbrev SC:=@List.take_length
abbrev SD:=@decide_eq_true_iff
abbrev SF:=@Nat.add_le_add_right
abbrev SG:=@List.mem_or_eq_of_mem_set
abbrev SH:=@List.set_append_right
abbrev SI:=@Option.isSome_some
abbrev SJ:=@List.getLast?_eq_getElem?
abbrev SK:=@List.take_take
abbrev SL:=@List.take_left'
abbrev SM:=@List.filter_sublist
abbrev SN:=@Nat.lt_of_le_of_lt
abbrev SP:=@Nat.pow_succ
abbrev SQ:=@Nat.add_le_add_left
abbrev SR:=@Nat.lt_irrefl
abbrev SU:=@Nat.add_mul
abbrev SV:=@List.filter_filter
abbrev SW:=@List.mem_range
abbrev SX:=@Nat.min_eq_left
abbrev SY:=@List.set_set
abbrev SZ:=@List.getElem?_eq_none
abbrev S0:=@UInt8.toNat_ofNat'
abbrev S2:=@List.getElem?_take
abbrev S3:=@List.mem_nil_iff
abbrev S6:=@List.filter_eq_self
abbrev S7:=@List.size_toArray
abbrev S9:=@List.mem_of_mem_take
abbrev S_:=@List.length_filter_lt_length_iff_exists
abbrev Ta:=@List.dropLast_eq_take
abbrev Tb:=@List.getElem?_drop
abbrev Td:=@Bool.false_ne_true
abbrev Te:=@List.length_filter_le
abbrev Tf:=@List.set_append_left
abbrev Tg:=@List.contains_iff_mem
abbrev Tv:=@List.take_succ_eq_append_getElem
abbrev TM:=@List.drop_append_of_le_length
abbrev TQ:=@List.take_append_of_le_length
theorem Xd{α}{a b:α}{l:List α}:(a::l).set 0 b=b::l:=rfl
theorem Xe{α}{a b:α}{n}{l:List α}:(a::l).set (n+1) b=a::l.set n b:=rfl
abbrev a_:=List UInt8
abbrev ba:=ByteArray
abbrev _root_.ByteArray.bb(b:ByteArray):=b.data.toList
theorem R5{P:Prop}(h:P:=by omega):P:=h
theorem S4{P:Prop}(h:P:=by decide):P:=h
theorem S5{P:Prop}(h:P:=by simp):P:=h
theorem Tc{P:Prop}(h:P:=by simp;omega):P:=h
theorem Th{P:Prop}(h:P:=by unfold maxLen;omega):P:=h
theorem Ti{P:Prop}(h:P:=by assumption):P:=h
theorem Tj{P:Prop}(h:P:=by rw[az];omega):P:=h
theorem Tk{P:Prop}(h:P:=by simp[bY.nd];omega):P:=h
theorem Tl{P:Prop}(h:P:=by cases h):P:=h
theorem Tp{P:Prop}(h:P:=by cases n<;>rfl):P:=h
theorem Tq{P:Prop}(h:P:=by simp[results,results239,go_sem,z,p]):P:=h
theorem Tr{P:Prop}(h:P:=by rw[<-size_data];unfold maxLen;omega):P:=h
theorem Ts{P:Prop}(h:P:=by simpa using h):P:=h
theorem Tt{P:Prop}(h:P:=by simpa using hi):P:=h
theorem Tu{P:Prop}(h:P:=by first|trivial|rfl):P:=h
theorem Tw{P:Prop}(h:P:=by simpa using p):P:=h
theorem Ty{P:Prop}(h:P:=by simp[go_sem]):P:=h
theorem Tz{P:Prop}(h:P:=by rw[IntKind.wrap_i64];omega):P:=h
theorem TA{P:Prop}(h:P:=by simp[fC]):P:=h
theorem TB{P:Prop}(h:P:=by simpa using b):P:=h
theorem TC{P:Prop}(h:P:=by rw[Q5];omega):P:=h
theorem TD{P:Prop}(h:P:=by cases e;rfl):P:=h
theorem TE{P:Prop}(h:P:=by rw[B]):P:=h
theorem TG{P:Prop}(h:P:=by rw[b];simp):P:=h
theorem TH{P:Prop}(h:P:=by rw[<-hx]):P:=h
theorem TI{P:Prop}(h:P:=by have:=g.size;omega):P:=h
theorem TJ{P:Prop}(h:P:=by rw[e]):P:=h
theorem TK{P:Prop}(h:P:=by simp[results,results128,go_sem]):P:=h
theorem TN{P:Prop}(h:P:=by simp[hx]):P:=h
theorem TP{P:Prop}(h:P:=by rw[<-VO];exact h):P:=h
theorem TR{P:Prop}(h:P:=by rw[e];rfl):P:=h
theorem TS{P:Prop}(h:P:=by simp[jb]):P:=h
theorem TT{P:Prop}(h:P:=by rw[r];rfl):P:=h
theorem TU{P:Prop}(h:P:=by simp[results,results85,go_sem,d0,d1]):P:=h
theorem TW{P:Prop}(h:P:=by cases hx):P:=h
theorem TX{P:Prop}(h:P:=by unfold wrap64;omega):P:=h
theorem TY{P:Prop}(h:P:=by rw[Q4];rfl):P:=h
theorem TZ{P:Prop}(h:P:=by obtain⟨_,_,_,_,_,_,_,h⟩:=h;exact h.here):P:=h
theorem T0{P:Prop}(h:P:=by intro u hu;simp at hu;rcases hu with rfl|rfl<;>rfl):P:=h
theorem T1{P:Prop}(h:P:=by simpa using j):P:=h
theorem T2{P:Prop}(h:P:=by have:=b.size;simp at this;omega):P:=h
theorem T3{P:Prop}(h:P:=by rw[h];simp):P:=h
theorem T4{P:Prop}(h:P:=by simp[h1]):P:=h
theorem T5{P:Prop}(h:P:=by simpa using L):P:=h
theorem T6{P:Prop}(h:P:=by simpa using n):P:=h
theorem T7{P:Prop}(h:P:=by rw[Rf];omega):P:=h
theorem T8{P:Prop}(h:P:=by simp[results,results239,go_sem,p,m]):P:=h
theorem T9{P:Prop}(h:P:=by simp[results,results196,go_sem,e0,e1,e2,e3,e4]):P:=h
theorem T'{P:Prop}(h:P:=by simpa using e):P:=h
theorem T_{P:Prop}(h:P:=by simpa using h1):P:=h
theorem Ua{P:Prop}(h:P:=by simpa using r):P:=h
theorem Ub{P:Prop}(h:P:=by simp[World.setCell];omega):P:=h
theorem Uc{P:Prop}(h:P:=by simpa using z):P:=h
theorem Ud{P:Prop}(h:P:=by simpa using O):P:=h
theorem Ue{P:Prop}(h:P:=by rw[n.Z,l.Z]):P:=h
theorem Uf{P:Prop}(h:P:=by unfold wr;rfl):P:=h
theorem Ug{P:Prop}(h:P:=by simp[results,results86,go_sem]):P:=h
theorem Uh{P:Prop}(h:P:=by simp[results,results239,go_sem,z,m]):P:=h
theorem Ui{P:Prop}(h:P:=by simp[results,results239,go_sem,B,n]):P:=h
theorem Uj{P:Prop}(h:P:=by simp[results,results196,go_sem,b0,b1,b2,b3,b4]):P:=h
theorem Uk{P:Prop}(h:P:=by have:=m.size;simp at this;omega):P:=h
theorem Ul{P:Prop}(h:P:=by simp[results,results82,go_sem,D,fF]):P:=h
theorem Um{P:Prop}(h:P:=by have:=mL s k s.size;omega):P:=h
theorem Uo{P:Prop}(h:P:=by simp[results,results22,go_sem]):P:=h
theorem Uq{P:Prop}(h:P:=by simp[results,results53,go_sem]):P:=h
theorem Ur{P:Prop}(h:P:=by have:=b.size;omega):P:=h
theorem Us{P:Prop}(h:P:=by simp[results,results239,go_sem,D,z]):P:=h
theorem Ut{P:Prop}(h:P:=by simp only[jl];omega):P:=h
theorem Uu{P:Prop}(h:P:=by simp[results,results196,go_sem]):P:=h
theorem Uv{P:Prop}(h:P:=by simp[results,results236,go_sem,r,m]):P:=h
theorem Uw{P:Prop}(h:P:=by simp[results,results236,go_sem,z,m]):P:=h
theorem Ux{P:Prop}(h:P:=by simp[results,results236,go_sem,p,z]):P:=h
theorem Uy{P:Prop}(h:P:=by simp[results,results238,go_sem,e0,e1,e2,e3,e4]):P:=h
theorem Uz{P:Prop}(h:P:=by simp[results,results112,go_sem,D,b1]):P:=h
theorem UA{P:Prop}(h:P:=by simp[results,results71,go_sem]):P:=h
theorem UB{P:Prop}(h:P:=by unfold eM Pv;unfold eE at h2;rw[h2];rfl):P:=h
theorem UC{P:Prop}(h:P:=by have:=congrArg List.length h1;rw[aH]at this;omega):P:=h
theorem UD{P:Prop}(h:P:=by simp[results,results124,go_sem,m0,m1,m2,m3,m4,m5]):P:=h
theorem UE{P:Prop}(h:P:=by have:=j.cm;rw[this];show e.cm.length+n<=_;rw[l.cm];exact h.cm):P:=h
theorem UF{P:Prop}(h:P:=by intro u hu;simp at hu;rcases hu with rfl|rfl|rfl|rfl|rfl|rfl<;>rfl):P:=h
theorem UG{P:Prop}(h:P:=by first|exact BH T.Z S.ext J.Z.1 X J.Z.2.symm rfl N|exact yq T.Z S.ext J.Z.1 X J.Z.2.symm rfl N):P:=h
theorem UH{P:Prop}(h:P:=by rcases r with⟨rfl,rfl⟩|⟨rfl,rfl⟩|⟨rfl,rfl⟩<;>decide):P:=h
theorem UI{P:Prop}(h:P:=by rcases r with⟨rfl,rfl⟩|⟨rfl,rfl⟩|⟨rfl,rfl⟩|⟨rfl,rfl⟩<;>decide):P:=h
theorem UJ{P:Prop}(h:P:=by rcases r with⟨rfl,rfl⟩|⟨rfl,rfl⟩<;>decide):P:=h
theorem UK{P:Prop}(h:P:=by intro u hu;simp at hu;rcases hu with rfl|rfl|rfl<;>rfl):P:=h
theorem UL{P:Prop}(h:P:=by simp[results,results237,go_sem,L,N,O,Q,R]):P:=h
theorem UM{P:Prop}(h:P:=by simp[results,results237,go_sem,Y,b1,b2,Z,b4]):P:=h
theorem UN{P:Prop}(h:P:=by simp[results,results109,go_sem,y,b1,b2,z,B]):P:=h
theorem UO{P:Prop}(h:P:=by simp[results,results109,go_sem,b0,b1,b2,b3,b4]):P:=h
theorem UQ{P:Prop}(h:P:=by simp[results,results109,go_sem,e0,e1,e2,e3,e4]):P:=h
theorem UR{P:Prop}(h:P:=by simp[results,results196,go_sem,L,N,O,P,Q]):P:=h
theorem US{P:Prop}(h:P:=by simp[results,results196,go_sem,C,b1,b2,D,E]):P:=h
theorem UT{P:Prop}(h:P:=by simp[results,results196,go_sem,I,J,K,L,N]):P:=h
theorem UU{P:Prop}(h:P:=by have:=hM.mK.size;have:=S.Z.size;have:=p.Z.2.2.2;omega):P:=h
end Go.Proofs.YtpekpdimdelncaaGreatDoor
