/- Short names of the library's theorems. -/
namespace Go.Proofs.YtpekpdimdelncaaGreatDoor
abbrev ae:=@if_neg
abbrev af:=@Nat.le_refl
abbrev ag:=@if_pos
abbrev ah:=@Nat.le_trans
abbrev aj:=@List.length_append
abbrev aq:=@List.getElem?_eq_getElem
abbrev ar:=@List.setIfInBounds_toArray
abbrev au:=@Nat.zero_le
abbrev aw:=@beq_eq_false_iff_ne
abbrev az:=@List.getElem?_eq_some_iff
abbrev aA:=@Nat.lt_of_lt_of_le
abbrev aB:=@Option.some.inj
abbrev aD:=@List.length_singleton
abbrev aE:=@Nat.le_of_lt
abbrev aF:=@decide_eq_false
abbrev aG:=@List.length_map
abbrev aH:=@List.mem_map
abbrev aI:=@Nat.zero_add
abbrev aJ:=@Nat.le_add_right
abbrev aK:=@List.mem_append
abbrev aL:=@List.mem_of_getElem?
abbrev aM:=@List.length_cons
abbrev aN:=@if_true
abbrev aO:=@List.length_drop
abbrev aP:=@List.mem_cons
abbrev aQ:=@List.drop_eq_nil_of_le
abbrev aR:=@List.drop_eq_getElem_cons
abbrev aS:=@decide_eq_true
abbrev aT:=@List.mem_cons_of_mem
abbrev aU:=@List.getElem?_append_left
abbrev aV:=@List.map_append
abbrev aW:=@List.drop_zero
abbrev aX:=@List.length_set
abbrev aY:=@List.getElem?_append_right
abbrev aZ:=@bne_iff_ne
abbrev P1:=@List.mem_singleton
abbrev P2:=@List.getElem?_map
abbrev P3:=@ByteArray.size_append
abbrev P4:=@List.getElem?_set_self
abbrev P5:=@List.take_succ_cons
abbrev P6:=@List.length_nil
abbrev P7:=@List.length_take
abbrev P8:=@List.map_map
abbrev P9:=@List.flatMap_cons
abbrev P':=@beq_iff_eq
abbrev P_:=@List.all_eq_true
abbrev Qa:=@List.mem_cons_self
abbrev Qb:=@List.take_of_length_le
abbrev Qc:=@Nat.add_zero
abbrev Qd:=@Nat.mul_one
abbrev Qe:=@Array.getElem?_eq_some_iff
abbrev Qf:=@List.flatMap_append
abbrev Qg:=@List.map_cons
abbrev Qh:=@Nat.lt_or_ge
abbrev Qi:=@UInt8.toNat_inj
abbrev Qj:=@Array.getElem?_modify
abbrev Qk:=@Bool.true_and
abbrev Ql:=@Bool.or_eq_true
abbrev Qm:=@List.drop_succ_cons
abbrev Qn:=@if_false
abbrev Qo:=@Nat.mul_le_mul_right
abbrev Qp:=@Nat.le_succ
abbrev Qq:=@dif_pos
abbrev Qr:=@List.mem_append_left
abbrev Qs:=@List.cons_append
abbrev Qt:=@List.getElem?_set_ne
abbrev Qu:=@List.map_congr_left
abbrev Qv:=@List.nil_append
abbrev Qw:=@Nat.add_assoc
abbrev Qx:=@Nat.add_sub_cancel_left
abbrev Qy:=@List.all_cons
abbrev Qz:=@Bool.false_and
abbrev QA:=@List.append_nil
abbrev QB:=@Bool.and_eq_true
abbrev QC:=@Nat.mul_le_mul_left
abbrev QD:=@ByteArray.size_extract
abbrev QE:=@Bool.eq_iff_iff
abbrev QF:=@decide_eq_true_iff
abbrev QG:=@List.length_eq_zero_iff
abbrev QH:=@Array.getElem?_eq_none
abbrev QI:=@List.head?_eq_getElem?
abbrev QJ:=@Option.map_some
abbrev QK:=@Bool.false_or
abbrev QL:=@or_false
abbrev QM:=@List.append_assoc
abbrev QN:=@List.eq_nil_of_length_eq_zero
abbrev QO:=@Nat.add_mul
abbrev QP:=@List.nodup_cons
abbrev QQ:=@Function.comp_def
abbrev QR:=@List.map_set
abbrev QS:=@Array.getElem?_eq_getElem
abbrev QT:=@List.take_left
abbrev QU:=@List.dropWhile_cons
abbrev QW:=@List.getElem_of_mem
abbrev QX:=@Nat.one_mul
abbrev QY:=@List.filter_cons
abbrev QZ:=@List.getElem?_of_mem
abbrev Q0:=@Nat.sub_le
abbrev Q1:=@List.take_length
abbrev Q2:=@List.take_add_one
abbrev Q3:=@List.nodup_append
abbrev Q4:=@List.getElem_mem
abbrev Q5:=@List.mem_filter
abbrev Q6:=@Nat.zero_mul
abbrev Q7:=@Nat.sub_zero
abbrev Q8:=@Bool.false_eq_true
abbrev Q9:=@List.take_append_drop
abbrev Q_:=@Option.isSome_iff_exists
abbrev Ra:=@Nat.mod_lt
abbrev Rb:=@List.size_toArray
abbrev Rd:=@Array.getElem?_toList
abbrev Rf:=@List.ext_getElem?
abbrev Rg:=@Decidable.byContradiction
abbrev Rh:=@Array.getElem?_eq_none_iff
abbrev Ri:=@Nat.le_max_left
abbrev Rk:=@Nat.le_max_right
abbrev Rl:=@Nat.add_le_add_right
abbrev Rm:=@List.mem_or_eq_of_mem_set
abbrev Ro:=@List.set_append_right
abbrev Rp:=@List.mem_flatMap
abbrev Rq:=@Option.isSome_some
abbrev Rr:=@List.getLast?_eq_getElem?
abbrev Rt:=@List.getElem?_take
abbrev Ru:=@List.take_take
abbrev Rv:=@Option.isSome_none
abbrev Rx:=@List.take_left'
abbrev Ry:=@List.filter_sublist
abbrev Rz:=@Nat.lt_of_le_of_lt
abbrev RA:=@Nat.pow_succ
abbrev RB:=@Nat.add_le_add_left
abbrev RC:=@Nat.lt_irrefl
abbrev RD:=@List.filter_filter
abbrev RG:=@List.not_mem_nil
abbrev RH:=@Nat.min_eq_left
abbrev RI:=@List.set_set
abbrev RJ:=@UInt8.toNat_ofNat'
abbrev RL:=@List.mem_nil_iff
abbrev RN:=@List.getElem?_eq_none
abbrev RQ:=@List.filter_eq_self
abbrev RS:=@List.mem_of_mem_take
abbrev RU:=@List.length_filter_lt_length_iff_exists
abbrev RV:=@List.dropLast_eq_take
abbrev RW:=@Option.map_eq_some_iff
abbrev RY:=@List.getElem?_drop
abbrev R0:=@Bool.false_ne_true
abbrev R1:=@List.length_filter_le
abbrev R3:=@List.set_append_left
abbrev R4:=@List.contains_iff_mem
abbrev Se:=@List.take_succ_eq_append_getElem
abbrev Su:=@List.drop_append_of_le_length
abbrev Sx:=@List.take_append_of_le_length
theorem Xc{α}{a b:α}{l:List α}:(a::l).set 0 b=b::l:=rfl
theorem Xd{α}{a b:α}{n}{l:List α}:(a::l).set (n+1) b=a::l.set n b:=rfl
abbrev a_:=List UInt8
abbrev ba:=ByteArray
abbrev _root_.ByteArray.bb(b:ByteArray):=b.data.toList
theorem RM{P:Prop}(h:P:=by omega):P:=h
theorem RZ{P:Prop}(h:P:=by decide):P:=h
theorem R2{P:Prop}(h:P:=by simp):P:=h
theorem R5{P:Prop}(h:P:=by simp;omega):P:=h
theorem R6{P:Prop}(h:P:=by unfold maxLen;omega):P:=h
theorem R7{P:Prop}(h:P:=by rw[aw];omega):P:=h
theorem R8{P:Prop}(h:P:=by simp[bY.nd];omega):P:=h
theorem R9{P:Prop}(h:P:=by assumption):P:=h
theorem R_{P:Prop}(h:P:=by simp[results,results239,go_sem,r,c1]):P:=h
theorem Sa{P:Prop}(h:P:=by cases h):P:=h
theorem Sb{P:Prop}(h:P:=by cases n<;>rfl):P:=h
theorem Sc{P:Prop}(h:P:=by simpa using hi):P:=h
theorem Sd{P:Prop}(h:P:=by rw[<-size_data];unfold maxLen;omega):P:=h
theorem Sf{P:Prop}(h:P:=by simpa using h):P:=h
theorem Sh{P:Prop}(h:P:=by simpa using hj.2):P:=h
theorem Si{P:Prop}(h:P:=by first|trivial|rfl):P:=h
theorem Sj{P:Prop}(h:P:=by simp[go_sem]):P:=h
theorem Sk{P:Prop}(h:P:=by rw[IntKind.wrap_i64];omega):P:=h
theorem Sl{P:Prop}(h:P:=by simp[fu]):P:=h
theorem Sm{P:Prop}(h:P:=by rw[aZ];omega):P:=h
theorem Sn{P:Prop}(h:P:=by rw[hc]):P:=h
theorem Sq{P:Prop}(h:P:=by simpa using hb):P:=h
theorem Sr{P:Prop}(h:P:=by cases hx):P:=h
theorem Ss{P:Prop}(h:P:=by rw[<-hx]):P:=h
theorem Sv{P:Prop}(h:P:=by cases e;rfl):P:=h
theorem Sw{P:Prop}(h:P:=by simpa using e):P:=h
theorem Sy{P:Prop}(h:P:=by simpa using b):P:=h
theorem Sz{P:Prop}(h:P:=by have:=g.size;omega):P:=h
theorem SA{P:Prop}(h:P:=by rw[e]):P:=h
theorem SB{P:Prop}(h:P:=by simp[results,results128,go_sem]):P:=h
theorem SC{P:Prop}(h:P:=by simpa using p):P:=h
theorem SD{P:Prop}(h:P:=by simpa using m):P:=h
theorem SF{P:Prop}(h:P:=by rw[<-UB];exact h):P:=h
theorem SG{P:Prop}(h:P:=by rw[e];rfl):P:=h
theorem SH{P:Prop}(h:P:=by cases hj):P:=h
theorem SI{P:Prop}(h:P:=by rw[y];omega):P:=h
theorem SJ{P:Prop}(h:P:=by simp[iT]):P:=h
theorem SK{P:Prop}(h:P:=by cases b):P:=h
theorem SL{P:Prop}(h:P:=by simp[results,results85,go_sem,d0,d1]):P:=h
theorem SM{P:Prop}(h:P:=by unfold wrap64;omega):P:=h
theorem SN{P:Prop}(h:P:=by rw[P3];rfl):P:=h
theorem SP{P:Prop}(h:P:=by obtain⟨_,_,_,_,_,_,_,h⟩:=h;exact h.here):P:=h
theorem SQ{P:Prop}(h:P:=by simp[results,results236,go_sem,p,c1]):P:=h
theorem SR{P:Prop}(h:P:=by simpa using h1):P:=h
theorem SU{P:Prop}(h:P:=by have:=b.size;simp at this;omega):P:=h
theorem SV{P:Prop}(h:P:=by rw[hb];simp):P:=h
theorem SW{P:Prop}(h:P:=by simp[hx]):P:=h
theorem SX{P:Prop}(h:P:=by rw[h];simp):P:=h
theorem SY{P:Prop}(h:P:=by simp[h1]):P:=h
theorem SZ{P:Prop}(h:P:=by simp[results,results239,go_sem,n,c1]):P:=h
theorem S0{P:Prop}(h:P:=by simpa using n):P:=h
theorem S2{P:Prop}(h:P:=by simp[World.setCell];omega):P:=h
theorem S3{P:Prop}(h:P:=by cases hy;rfl):P:=h
theorem S4{P:Prop}(h:P:=by simpa using D):P:=h
theorem S5{P:Prop}(h:P:=by rw[n.Z,l.Z]):P:=h
theorem S6{P:Prop}(h:P:=by unfold wr;rfl):P:=h
theorem S7{P:Prop}(h:P:=by rw[P7];omega):P:=h
theorem S8{P:Prop}(h:P:=by simpa using M):P:=h
theorem S9{P:Prop}(h:P:=by simp[results,results86,go_sem]):P:=h
theorem S_{P:Prop}(h:P:=by simp[results,results196,go_sem,b0,b1,b2,b3,b4]):P:=h
theorem Ta{P:Prop}(h:P:=by rw[P2,u];rfl):P:=h
theorem Tb{P:Prop}(h:P:=by have:=hb.size;simp at this;omega):P:=h
theorem Tc{P:Prop}(h:P:=by simp[results,results82,go_sem,hc,fe]):P:=h
theorem Td{P:Prop}(h:P:=by have:=ml s k s.size;omega):P:=h
theorem Te{P:Prop}(h:P:=by simp[results,results22,go_sem]):P:=h
theorem Tf{P:Prop}(h:P:=by simp[results,results53,go_sem]):P:=h
theorem Tg{P:Prop}(h:P:=by have:=b.size;omega):P:=h
theorem Th{P:Prop}(h:P:=by simp[results,results239,go_sem,C,c1]):P:=h
theorem Ti{P:Prop}(h:P:=by simp only[i_];omega):P:=h
theorem Tj{P:Prop}(h:P:=by simp[results,results196,go_sem]):P:=h
theorem Tk{P:Prop}(h:P:=by simp[results,results236,go_sem,u,c1]):P:=h
theorem Tl{P:Prop}(h:P:=by simp[results,results196,go_sem,e0,e1,e2,e3,e4]):P:=h
theorem Tp{P:Prop}(h:P:=by simp[results,results238,go_sem,e0,e1,e2,e3,e4]):P:=h
theorem Tq{P:Prop}(h:P:=by simp[results,results71,go_sem]):P:=h
theorem Tr{P:Prop}(h:P:=by simp[results,results88,go_sem,hc,hz,l_]):P:=h
theorem Ts{P:Prop}(h:P:=by unfold eF Og;unfold eo at h2;rw[h2];rfl):P:=h
theorem Tt{P:Prop}(h:P:=by have:=congrArg List.length h1;rw[aG]at this;omega):P:=h
theorem Tu{P:Prop}(h:P:=by simp[results,results124,go_sem,m0,m1,m2,m3,m4,m5]):P:=h
theorem Tv{P:Prop}(h:P:=by have:=l.b_;rw[this];show j.b_.length+n<=_;rw[m.b_];exact h.b_):P:=h
theorem Tw{P:Prop}(h:P:=by intro u hu;simp at hu;rcases hu with rfl|rfl|rfl|rfl|rfl|rfl<;>rfl):P:=h
theorem Ty{P:Prop}(h:P:=by first|exact A1 P.Z O.ext G.Z.1 S G.Z.2.symm rfl K|exact xO P.Z O.ext G.Z.1 S G.Z.2.symm rfl K):P:=h
theorem Tz{P:Prop}(h:P:=by rcases r with⟨rfl,rfl⟩|⟨rfl,rfl⟩|⟨rfl,rfl⟩<;>decide):P:=h
theorem TA{P:Prop}(h:P:=by rcases r with⟨rfl,rfl⟩|⟨rfl,rfl⟩|⟨rfl,rfl⟩|⟨rfl,rfl⟩<;>decide):P:=h
theorem TB{P:Prop}(h:P:=by rcases r with⟨rfl,rfl⟩|⟨rfl,rfl⟩<;>decide):P:=h
theorem TC{P:Prop}(h:P:=by intro u hu;simp at hu;rcases hu with rfl|rfl|rfl<;>rfl):P:=h
theorem TD{P:Prop}(h:P:=by simp[results,results237,go_sem,e0,e1,e2,J,K]):P:=h
theorem TE{P:Prop}(h:P:=by simp[results,results237,go_sem,b0,b1,b2,R,S]):P:=h
theorem TG{P:Prop}(h:P:=by simp[results,results109,go_sem,b0,b1,b2,u,y]):P:=h
theorem TH{P:Prop}(h:P:=by simp[results,results109,go_sem,e0,e1,e2,e3,e4]):P:=h
theorem TI{P:Prop}(h:P:=by simp[results,results196,go_sem,e0,e1,e2,G,I]):P:=h
theorem TJ{P:Prop}(h:P:=by simp[results,results196,go_sem,b0,b1,b2,B,C]):P:=h
theorem TK{P:Prop}(h:P:=by simp[results,results196,go_sem,e0,e1,e2,F,G]):P:=h
theorem TM{P:Prop}(h:P:=by intro u hu;simp at hu;rcases hu with rfl|rfl<;>rfl):P:=h
end Go.Proofs.YtpekpdimdelncaaGreatDoor
