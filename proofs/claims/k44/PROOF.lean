import PyProof.Rows.All
import Wide.All
import OpenK.AllK
import Wide.FinOn
import Lean
import PyProof.EqAt
import PyProof.EqKinds
import PyProof.TupleCall
import PySem.Challenge.RW_basehouse_k44_whole_tables
set_option Elab.async false
set_option linter.all false
set_option maxRecDepth 100000
open PySem.W(Frag instObj methodObj lookIn plainGet hasDictIn findIn isFn plainOver takerIn makesIn emptyDict keepIn specialIn takesIn mroIn kitOne fnOf codeIn nsIn)
section
local macro_rules|`(#[$x,*])=>do{let w<-`(_);let q<-`(rfl);let d<-`(by decide);let g<-`(?_);let l<-`(by lia);let f:=fun c:Char=>if c=='1' then [w] else if c=='2' then [q] else if c=='3' then [w,w,w,q,q] else if c=='4' then [d] else if c=='6' then [g] else if c=='7' then [w,q] else if c=='8' then [w,w,q,q] else [l];let n:=fun e:Lean.TSyntax `term=>e.raw.isNatLit?.getD 0;let z:=x.getElems.toList;let y:=((z.map fun e=>if n e==0 then [e] else (toString (n e)).toList.flatMap f).flatten).toArray;match z with|[e]=>if n e==9 then `(by decide +kernel) else if n e==5 then `(by simp) else if n e==6 then `(fun _ _ _ _ h=>by rcases h with⟨⟩;subst_vars;rfl) else `(⟨$y,*⟩)|[a,e]=>if n a==5 then `(by simpa using $e) else `(⟨$y,*⟩)|_=>`(⟨$y,*⟩)}
local macro_rules|`(#v[$x,*])=>`(List.toArray [$x,*])
local macro_rules|`(())=>`(by lia)
local macro_rules|`(∅)=>`(by decide)
local macro_rules|`(⋯)=>`(by rfl)
abbrev nS:List PySem.Str:=["self","s"]
abbrev H0:List PySem.Str:=["_law_script","_law_cells","_law_many","_law_way","_law_house_here","_law_turn","_law_out","_law_drawn","_law_due","_law_thing","_law_beside","_law_at","_law_word"]
abbrev Uv:List PySem.Str:=["house"]
abbrev Uw:List PySem.Str:=["_law_cells","_law_many","_law_prime"]
abbrev Ux:List PySem.Str:=["_law_word","_law_house_here"]
abbrev Uy:List String:=["enumerate","zip","dict_itemiterator","dict_reverseitemiterator","odict_iterator","itertools.zip_longest","itertools.pairwise"]
abbrev Uz:List PySem.Str:=["_law_rows","_law_many","_law_levels","_law_word"]
abbrev UA:List PySem.Str:=["_law_many","_law_levels","_law_out","_law_drawn"]
abbrev UB:List PySem.Str:=["_law_cells","_law_many","_law_prime","_law_rows","_law_j","_law_row","_law_k","_law_cell"]
abbrev UC:List PySem.Str:=["house","prime","columns","thing","column"]
abbrev UD:List PySem.Str:=["house","prime","columns","base","thing"]
abbrev UE:List PySem.Str:=["self","n","prime","rows"]
abbrev UG:List PySem.Str:=["self","house"]
abbrev UH:List PySem.Str:=["_law_cells","_law_many","_law_rank"]
abbrev UI:List PySem.Str:=["_law_cells","_law_many","_law_way"]
abbrev UJ:List PySem.Str:=["self","house","out","drawn"]
abbrev UK:List PySem.Str:=["_law_row","_law_many","_law_word"]
abbrev UL:List PySem.Str:=["rows","place","column","divisor"]
abbrev UM:List PySem.Str:=["self","n","points","ties"]
abbrev UN:List PySem.Str:=["row","pivot","column","divisor"]
abbrev UO:List PySem.Str:=["house","prime","kinds"]
abbrev UP:List PySem.Str:=["self","n"]
abbrev UQ:List PySem.Str:=["house","kind","many","rank"]
abbrev UR:List PySem.Str:=["_law_s"]
abbrev UT:List PySem.Str:=["self","one","other"]
abbrev UU:List PySem.Str:=["_law_cells","_law_many"]
abbrev UW:List PySem.Str:=["s","t"]
abbrev UX:List PySem.Str:=["self","n","some"]
abbrev UY:List PySem.Str:=["self","n","k"]
abbrev UZ:List PySem.Str:=["s"]
abbrev U0:List PySem.Str:=["self"]
abbrev U1:List PySem.Str:=["s","thing","y"]
abbrev U2:List PySem.Str:=["house","n","k"]
abbrev U3:List PySem.Str:=["_law_found"]
abbrev U4:List PySem.Str:=["rows","prime"]
abbrev U5:List PySem.Str:=["many","place"]
abbrev U6:List PySem.Str:=["s","thing"]
abbrev U7:List PySem.Str:=["row","prime"]
abbrev U8:List PySem.Str:=["filled","prime"]
abbrev U9:List PySem.Str:=["_law_levels"]
abbrev Va:List PySem.Str:=["rows","column"]
abbrev Vb:List PySem.Str:=["house","prime"]
abbrev Vc:List PySem.Str:=["_law_word"]
abbrev Vd:List PySem.Str:=["_law_told"]
abbrev Ve:List PySem.Str:=["s","k"]
abbrev Vf:List PySem.Str:=["marks","tie"]
abbrev Vg:List PySem.Str:=["sets","s"]
abbrev Vh:List PySem.Str:=["s","kept"]
abbrev Vi:="many"
abbrev Vj:="everything"
abbrev Vk:="__init__"
abbrev Vl:="range_iterator"
abbrev Vm:="rank"
abbrev Vn:="range"
abbrev Vo:="__debug__"
abbrev Vp:="range.__reversed__"
abbrev Vq:="house"
abbrev Vr:="prime"
abbrev Vs:="object.__class__"
abbrev Vt:="list"
abbrev Vu:="whole_rank"
abbrev Vv:="points"
abbrev Vw:="method_descriptor"
abbrev Vx:="_law_many"
abbrev Vy:="reversed"
abbrev Vz:="type.__call__"
abbrev VA:="tuple"
abbrev VB:="enumerate"
abbrev VC:="_law_size"
abbrev VD:="things"
abbrev VE:="column"
abbrev VF:="thing"
abbrev VG:="getset_descriptor.__get__"
abbrev VH:="dict"
abbrev VI:="_law_rows"
abbrev VJ:="reversed.__new__"
abbrev VL:="first_many"
abbrev VM:="first_full"
abbrev VN:="drawn_rank"
abbrev VO:="_law_table_right"
abbrev VP:="_law_determinant"
abbrev VQ:="__name__"
abbrev VR:="full_rank"
abbrev VT:="over_three"
abbrev VU:="isinstance"
abbrev VV:="columns"
abbrev VW:="choices"
abbrev VX:="_law_whole"
abbrev VY:="_law_cells"
abbrev VZ:="rows"
abbrev V0:="columns_with"
abbrev V1:="_law_numbers"
abbrev V2:="told_over"
abbrev V3:="_law_rank"
abbrev V4:="House"
abbrev V5:="size"
abbrev V6:="listed"
abbrev V7:="divisor"
abbrev V8:="barred"
abbrev V9:="_law_k"
abbrev Wa:="table"
abbrev Wb:="over_two"
abbrev Wc:="drawn"
abbrev Wd:="_law_row"
abbrev We:="some"
abbrev Wf:="row"
abbrev My:=@List.length_map
abbrev Pb:=@if_neg
abbrev Pc:=@decide_eq_false
abbrev Pd:=@if_pos
abbrev Pe:=@decide_eq_true
abbrev Pf:=@List.mem_range
abbrev Pg:=@Nat.lt_of_lt_of_le
abbrev Ph:=@List.getD_eq_getElem?_getD
abbrev Pj:=@Int.toNat_natCast
abbrev Pk:=@List.mem_cons
abbrev Pl:=@List.mem_map
abbrev Pn:=@List.getElem?_eq_some_iff
abbrev Po:=@List.mem_cons_of_mem
abbrev Pq:=@List.mem_of_getElem?
abbrev Pr:=@Nat.le_trans
abbrev Pt:=@List.mem_cons_self
abbrev Pu:=@Nat.le_refl
abbrev Pw:=@List.length_range
abbrev Px:=@Nat.lt_of_le_of_lt
abbrev Py:=@Nat.testBit_two_pow
abbrev Pz:=@List.mem_append
abbrev PB:=@List.getElem?_map
abbrev PC:=@Nat.eq_of_testBit_eq
abbrev PD:=@decide_eq_true_iff
abbrev PF:=@List.getElem?_eq_getElem
abbrev PH:=@of_decide_eq_true
abbrev PJ:=@Nat.pow_le_pow_right
abbrev PK:=@List.length_append
abbrev PL:=@Int.dvd_mul_of_dvd_right
abbrev PM:=@List.length_cons
abbrev PN:=@Nat.testBit_or
abbrev PQ:=@Bool.false_ne_true
abbrev PR:=@List.mem_singleton
abbrev PU:=@Classical.byContradiction
abbrev PV:=@List.mem_filter
abbrev PX:=@Bool.and_eq_true
abbrev PY:=@Nat.testBit_two_pow_sub_one
abbrev PZ:=@List.nodup_range
abbrev P0:=@Bool.or_eq_true
abbrev P1:=@List.getElem?_append_left
abbrev P2:=@List.getElem?_append_right
abbrev P4:=@Nat.zero_testBit
abbrev P5:=@PySem.Heap.lt_size
abbrev P6:=@List.length_take
abbrev P7:=@List.not_mem_nil
abbrev P8:=@List.map_map
abbrev P9:=@List.all_eq_true
abbrev Qa:=@Int.dvd_zero
abbrev Qb:=@List.map_cons
abbrev Qc:=@Int.dvd_mul_of_dvd_left
abbrev Qd:=@congrArg
abbrev Qe:=@PySem.Heap.get?_push_of_some
abbrev Qf:=@Int.mul_assoc
abbrev Qg:=@Nat.succ_le_succ
abbrev Qh:=@List.size_toArray
abbrev Qi:=@PySem.wpAny_bind
abbrev Qj:=@List.mem_append_right
abbrev Qk:=@Nat.testBit_lt_two_pow
abbrev Ql:=@List.length_eraseIdx_of_lt
abbrev Qm:=@List.getElem?_of_mem
abbrev Qn:=@Int.mul_comm
abbrev Qo:=@congrFun
abbrev Qp:=@Nat.xor_assoc
abbrev Qq:=@Option.some.inj
abbrev Qr:=@List.nodup_cons
abbrev Qs:=@List.map_append
abbrev Qt:=@List.map_congr_left
abbrev Qu:=@Nat.zero_le
abbrev Qv:=@Bool.false_and
abbrev Qw:=@Bool.and_false
abbrev Qx:=@Nat.testBit_xor
abbrev Qy:=@Bool.true_and
abbrev Qz:=@Nat.ne_of_lt
abbrev QA:=@PySem.W.mg_none_of
abbrev QB:=@Nat.or_lt_two_pow
abbrev QC:=@List.filter_congr
abbrev QD:=@List.getElem?_range
abbrev QE:=@Nat.testBit_and
abbrev QF:=@List.take_add_one
abbrev QG:=@List.take_length
abbrev QH:=@Int.sub_self
abbrev QI:=@Int.emod_lt_of_pos
abbrev QJ:=@Int.one_mul
abbrev QK:=@PySem.Heap.get?_push_size
abbrev QL:=@Nat.lt_succ_self
abbrev QM:=@Nat.le_of_not_lt
abbrev QN:=@Nat.sub_lt_sub_left
abbrev QO:=@Int.zero_add
abbrev QP:=@List.getElem_mem
abbrev QQ:=@List.filter_cons
abbrev QR:=@Nat.le_antisymm
abbrev QS:=@Int.emod_nonneg
abbrev QT:=@Int.natCast_nonneg
abbrev QU:=@List.length_filter_le
abbrev QV:=@PySem.mem_of_lookup
abbrev QW:=@List.filter_eq_self
abbrev QX:=@PySem.wpAny_pure
abbrev QY:=@Bool.not_eq_true'
abbrev QZ:=@PySem.F.plainAttrs_list
abbrev Q0:=@List.append_nil
abbrev Q1:=@decide_eq_decide
abbrev Q2:=@List.append_assoc
abbrev Q3:=@Int.mul_left_comm
abbrev Q4:=@PyProof.Rows.callWith_type1
abbrev Q5:=@PySem.F.slot_list_append
abbrev Q6:=@PySem.F.type_list_append
abbrev Q7:=@Ne.symm
abbrev Q8:=@Bool.eq_iff_iff
abbrev Q9:=@Nat.pow_pos
abbrev Ra:=@PySem.W.mg_of
abbrev Rb:=@Int.eq_ofNat_of_zero_le
abbrev Rc:=@Bool.eq_false_iff
abbrev Rf:=@List.mem_append_left
abbrev Rg:=@Nat.lt_irrefl
abbrev Rh:=@List.nil_append
abbrev Ri:=@Int.mul_one
abbrev Rj:=@Int.mul_sub
abbrev Rm:=@List.foldl_cons
abbrev Rn:=@Nat.or_assoc
abbrev Ro:=@Int.zero_mul
abbrev Rp:=@Int.mul_zero
abbrev Rq:=@Int.neg_mul
abbrev Rr:=@Int.dvd_add
abbrev Rt:=@Int.dvd_sub
abbrev Ru:=@Nat.xor_self
abbrev Rv:=@PyProof.Rows.boot_isinstance
abbrev Rw:=@PySem.W.kia_one
abbrev Rx:=@Int.sub_add_cancel
abbrev Ry:=@Bool.or_false
abbrev Rz:=@List.nodup_iff_pairwise_ne
abbrev RA:=@List.foldl_append
abbrev RB:=@List.nodup_append
abbrev RC:=@List.getElem?_take_of_lt
abbrev RD:=@List.length_drop
abbrev RE:=@Nat.zero_add
abbrev RF:=@List.filter_filter
abbrev RG:=@PyProof.Rows.boot_tuple
abbrev RH:=@or_false
abbrev RI:=@List.take_of_length_le
abbrev RJ:=@PyProof.Rows.boot_list
abbrev RK:=@True.intro
abbrev RL:=@List.lookup_cons
abbrev RM:=@Nat.lt_of_not_le
abbrev RN:=@List.getElem?_eq_none
abbrev RO:=@Nat.lt_pow_two_of_testBit
abbrev RP:=@Int.mul_add
abbrev RQ:=@List.range_succ
abbrev RR:=@Nat.pow_lt_pow_right
abbrev RS:=@Int.add_zero
abbrev RT:=@Nat.testBit_div_two_pow
abbrev RU:=@Classical.axiomOfChoice
abbrev RV:=@List.any_eq_true
abbrev RW:=@Int.sub_sub_self
abbrev RX:=@List.map_id
abbrev RY:=@List.filter_append
abbrev RZ:=@Int.sub_zero
abbrev R0:=@PySem.wpAny_passesOwn
abbrev R1:=@List.find?_cons
abbrev R3:=@List.filter_map
abbrev R4:=@PySem.wpAny_truthy_bool
abbrev R5:=@Nat.le_of_succ_le
abbrev R6:=@List.mem_of_mem_take
abbrev R7:=@Nat.or_comm
abbrev R9:=@Nat.xor_comm
abbrev Sa:=@Nat.xor_zero
abbrev Sb:=@List.length_erase_of_mem
abbrev Sd:=@beq_eq_false_iff_ne
abbrev Se:=@Array.length_toList
abbrev Sf:=@List.mem_map_of_mem
abbrev Sg:=@Nat.testBit_mod_two_pow
abbrev Sh:=@Int.dvd_of_emod_eq_zero
abbrev Si:=@List.sum_cons
abbrev Sj:=@PySem.wpAny_Call_Name_kw
abbrev Sl:=@Nat.not_lt_zero
abbrev Sn:=@List.length_pos_of_mem
abbrev So:=@Nat.zero_or
abbrev Sq:=@List.getElem?_eraseIdx
abbrev Sr:=@List.eq_nil_of_length_eq_zero
abbrev Ss:=@PySem.Heap.size_push
abbrev Su:=@List.map_nil
abbrev Sv:=@Array.getElem?_toList
abbrev Sw:=@Classical.choose_spec
abbrev Sx:=@or_congr_right
abbrev Sy:=@Nat.le_add_right
abbrev Sz:=@Classical.not_forall
abbrev SA:=@List.any_cons
abbrev SD:=@Int.mul_neg
abbrev SE:=@Int.sub_mul
abbrev SF:=@Int.toNat_of_nonneg
abbrev SG:=@Nat.add_le_add_left
abbrev SH:=@PySem.W.callWith_K
abbrev SI:=@Nat.zero_xor
abbrev SJ:=@Nat.pos_of_ne_zero
abbrev SK:=@Nat.add_comm
abbrev SM:=@List.append_of_mem
abbrev SN:=@Int.zero_dvd
abbrev SO:=@List.Pairwise.imp_of_mem
abbrev SQ:=@Nat.add_sub_cancel
abbrev SR:=@Bool.xor_false
abbrev SS:=@Nat.mod_lt
abbrev SU:=@List.getElem?_cons_succ
abbrev SV:=@List.length_eq_zero_iff
abbrev SW:=@List.pairwise_map
abbrev SX:=@Int.dvd_mul_right
abbrev SY:=@List.getElem?_inj
abbrev S3:=@PySem.wpAny_pyIter_rangeiter
abbrev S4:=@Option.map_eq_some_iff
abbrev S5:=@List.singleton_sublist
abbrev S6:=@PySem.Paired.length
abbrev S7:=@Bool.and_comm
abbrev S9:=@Int.dvd_trans
abbrev Ta:=@Nat.testBit_eq_decide_div_mod_eq
abbrev Tc:=@List.mem_flatMap
abbrev Td:=@List.length_replicate
abbrev Te:=@List.length_singleton
abbrev Tf:=@PySem.W.methodCall_KW
abbrev Tg:=@PySem.F.slot_range_reversed
abbrev Th:=@Int.mul_ediv_add_emod
abbrev Ti:=@List.take_append_drop
abbrev Tj:=@Nat.le_of_lt
abbrev Tn:=@PySem.wpAny_mono
abbrev To:=@PySem.wpAny_execs_nil
abbrev Tp:=@beq_iff_eq
abbrev Tq:=@Or.inl
abbrev Tr:=@Nat.min_eq_left
abbrev Ts:=@List.range_eq_range'
abbrev Tt:=@Array.toArray_toList
abbrev Tu:=@Nat.and_le_left
abbrev Tv:=@Nat.pow_succ
abbrev Tw:=@Int.pow_succ
abbrev Tx:=@Int.mul_eq_zero
abbrev Tz:=@List.sublist_map_iff
abbrev TC:=@List.mem_of_mem_drop
abbrev TF:=@List.filterMap_cons
abbrev TH:=@PySem.W.plainGet_of
abbrev TJ:=@Int.natAbs_mul
abbrev TK:=@eq_comm
abbrev TL:=@PySem.wpAny_of_eq
abbrev TM:=@of_decide_eq_false
abbrev TN:=@Int.ofNat_dvd_left
abbrev TQ:=@List.idxOf_lt_length_of_mem
abbrev TR:=@Nat.testBit_two_pow_mul_add
abbrev TU:=@Int.add_sub_cancel
abbrev TV:=@Int.sub_eq_add_neg
abbrev TX:=@Nat.and_one_is_mod
abbrev TY:=@Int.fdiv_eq_ediv_of_nonneg
abbrev TZ:=@List.all_cons
abbrev T1:=@List.perm_ext_iff_of_nodup
abbrev T2:=@Nat.lt_succ_of_lt
abbrev T3:=@Int.eq_of_mul_eq_mul_left
abbrev T4:=@List.getElem_inj
abbrev T5:=@Nat.ne_of_gt
abbrev T6:=@PySem.codeAny_mono
abbrev T7:=@Nat.min_eq_right
abbrev T8:=@List.cons_append
abbrev T9:=@List.getElem_map
abbrev Ua:=@Bool.or_true
abbrev Ub:=@Int.pow_zero
abbrev Uc:=@Bool.not_eq_true
abbrev Ud:=@Nat.add_zero
abbrev Ue:=@Nat.sub_self
abbrev Ug:=@Nat.testBit_zero
abbrev Uh:=@List.getElem?_replicate
abbrev Ui:=@decide_eq_false_iff_not
abbrev Uj:=@Nat.add_sub_cancel_left
abbrev Uk:=@Int.emod_eq_zero_of_dvd
abbrev Ul:=@List.of_mem_zip
abbrev Um:=@PySem.pushCells_keeps
abbrev Uo:=@List.length_nil
abbrev Up:=@Nat.pow_add
abbrev Uq:=@if_true
abbrev Ur:=@Int.mul_nonneg
abbrev Us:=@Int.mul_le_mul
abbrev Ut:=@Nat.beq_eq
abbrev Uu:=@Nat.mul_assoc
namespace L2
open PySem PySem.Spec PyProof.Rows
abbrev Key:=Sum Int Str
def uF:Key->Value->Bool
 | .inl k,v=>Value.isInt k v
 | .inr x,v=>Value.isStrOf x v
def OX(w:World):Key->Int
 | .inl k=>hashInt k
 | .inr x=>hashStr w x
theorem cU:∀ {k:Key} {v:Value},uF k v=true->(∃i t,k=Sum.inl i/\v=Value.int i t)\/(∃x t,k=Sum.inr x/\v=Value.str x t)
 | .inl i,v,h=>by obtain⟨t,e⟩:=Value.isInt_shape (k:=i) (v:=v) h;exact .inl #[i,t,2,e]
 | .inr x,v,h=>by obtain⟨t,e⟩:=Value.isStrOf_shape (x:=x) (v:=v) h;exact .inr #[x,t,2,e]
theorem Ga(i:Int)(t:Tok):uF (.inl i) (.int i t)=true:=by simp[uF,Value.isInt]
theorem F9(x:Str)(t:Tok):uF (.inr x) (.str x t)=true:=by simp[uF,Value.isStrOf]
theorem CY(a b:Int):decide ((Sum.inl a:Key)=Sum.inl b)=(a==b):=by
 by_cases e:a=b
 .subst e;simp
 .have h:¬(Sum.inl a:Key)=Sum.inl b:=λq=>e (Sum.inl.inj q);rw[Pc h];exact(Sd.mpr e).symm
theorem Nz(a b:Str):decide ((Sum.inr a:Key)=Sum.inr b)=decide (a=b):=by
 by_cases e:a=b
 .subst e;simp
 .have h:¬(Sum.inr a:Key)=Sum.inr b:=λq=>e (Sum.inr.inj q);rw[Pc h,Pc e]
theorem NB(a:Int)(b:Str):decide ((Sum.inl a:Key)=Sum.inr b)=false:=Pc (λq=>nomatch q)
theorem NA(a:Str)(b:Int):decide ((Sum.inr a:Key)=Sum.inl b)=false:=Pc (λq=>nomatch q)
def eu(prog:Program)(w:World):PySem.KeyKind prog w Key where
 is:=uF
 hash:=OX w
 inj:=λv a b ha d=>by
  rcases cU ha with ⟨i,t,rfl,rfl⟩|⟨x,t,rfl,rfl⟩
  .rcases cU d with ⟨j,u,rfl,e⟩|⟨y,u,rfl,e⟩
   .injection e with c _;rw[c]
   .exact nomatch e
  .rcases cU d with ⟨j,u,rfl,e⟩|⟨y,u,rfl,e⟩
   .exact nomatch e
   .injection e with c _;rw[c]
 byValue:=λk v h=>by rcases cU h with ⟨i,t,rfl,rfl⟩|⟨x,t,rfl,rfl⟩<;>rfl
 pyHash:=λhv h=>by
  rcases cU hv with ⟨i,t,rfl,rfl⟩|⟨x,t,rfl,rfl⟩
  .exact wpAny_pyHash_int h
  .exact wpAny_pyHash_str h
 eqBool:=λf hv h=>by
  rcases cU f with ⟨i,t,rfl,rfl⟩|⟨x,t,rfl,rfl⟩
  .rcases cU hv with ⟨j,u,rfl,rfl⟩|⟨y,u,rfl,rfl⟩
   .rw[CY]at h;exact wpAny_eqBool_int h
   .rw[NB]at h;exact SeqAt.EqAt.int_str i t y u _ _ _ _ h
  .rcases cU hv with ⟨j,u,rfl,rfl⟩|⟨y,u,rfl,rfl⟩
   .rw[NA]at h;exact SeqAt.EqAt.str_int x t j u _ _ _ _ h
   .rw[Nz]at h;exact wpAny_eqBool_str h
 «strs»:=λk x t v h=>by
  rcases cU h with ⟨i,u,rfl,e⟩|⟨y,u,rfl,e⟩
  .exact nomatch e
  .injection e with c _
   subst c;cases v<;>rfl
theorem A7(prog:Program)(w:World)(i:Int)(t:Tok):(eu prog w).is (.inl i) (.int i t)=true:=Ga i t
theorem A6(prog:Program)(w:World)(x:Str)(t:Tok):(eu prog w).is (.inr x) (.str x t)=true:=F9 x t
inductive V where
 |non|bl (b:Bool)|int (i:Int)|str (x:Str)|byt (b:Array UInt8)|flt (b:UInt64)|ref (a:Addr)|ty (n:String)
 deriving DecidableEq
abbrev xS(a:Addr):Option V:=some (.ref a)
abbrev yS(n:Nat):Option V:=some (.int n)
abbrev yT(n:Int):Option V:=some (.int n)
def bY:V->Value->Prop
 | .non,u=>u=Value.none
 | .bl b,u=>u=Value.bool b
 | .int i,u=>∃t,u=Value.int i t
 | .str x,u=>∃t,u=Value.str x t
 | .byt b,u=>∃t,u=Value.bytes b t
 | .flt b,u=>∃t,u=Value.float b t
 | .ref a,u=>u=Value.ref a
 | .ty n,u=>u=Value.type n
abbrev Vals:List V->List Value->Prop:=Paired bY
theorem Vals.length{xs:List V}{us:List Value}(r:Vals xs us):xs.length=us.length:=S6 r
theorem Vals.get:∀ {xs:List V} {us:List Value} {i:Nat} {x:V},Vals xs us->xs[i]?=some x->∃u,us[i]?=some u/\bY x u
 |_,_,_,_, .nil,e=>by simp at e
 |_,_,0,_, .cons r _,e=>by simp at e;subst e;exact#[7,r]
 |_,_,i+1,x, .cons _ t,e=>by obtain⟨u,a,b⟩:=Vals.get (i:=i) (x:=x) t #[5,e];exact#[u,#[5,a],b]
theorem Vals.append:∀ {xs a:List V} {us ws:List Value},Vals xs us->Vals a ws->Vals (xs++a) (us++ws)
 |_,_,_,_, .nil,s=>s
 |_,_,_,_, .cons r t,s=> .cons r (Vals.append t s)
theorem Vals.take:∀ {xs:List V} {us:List Value} (n:Nat),Vals xs us->Vals (xs.take n) (us.take n)
 |_,_,0,_=> .nil
 |_,_,_+1, .nil=> .nil
 |_,_,n+1, .cons r t=> .cons r (Vals.take n t)
theorem Vals.drop:∀ {xs:List V} {us:List Value} (n:Nat),Vals xs us->Vals (xs.drop n) (us.drop n)
 |_,_,0,r=>r
 |_,_,_+1, .nil=> .nil
 |_,_,n+1, .cons _ t=>Vals.drop n t
def nY:Option V->Option Value->Prop
 |some v,some u=>bY v u
 |none,none=>True
 |_,_=>False
def KV{κ:Type}:List (κ×V)->List (κ×Value)->Prop:=Paired λ(p:κ×V) (q:κ×Value)=>p.1=q.1/\bY p.2 q.2
def kV:Key->V
 | .inl i=> .int i
 | .inr x=> .str x
inductive HO where
 |lst (xs:List V)
 |tup (xs:List V)
 |dK (kvs:List (Key×V))|dT (kvs:List (List Key×V))
 |set (S:Int->Bool) (n:Nat)
 |ins (C dx:Addr) (fs:List (Str×V))
 |own (x:Addr)
 |xd (fs:List (Str×V))
 |met (f x:Addr)
 |rng (lo hi:Int)
 |frz (o:Obj) (u:HO)
 |tbl (ps:Array Value)
 |ext (φ:Heap->Prop)
abbrev Hp:=Addr->Option HO
def upd(H:Hp)(a:Addr)(o:HO):Hp:=λb=>if b=a then some o else H b
theorem ah:upd H a o a=some o:=by unfold upd;rw[Pd rfl]
theorem aA(h:b≠a):upd H a o b=H b:=by unfold upd;rw[Pb h]
theorem fM:upd (upd H a o) a u=upd H a u:=by funext b;unfold upd;split<;>rfl
theorem jK{H:Hp}(h:H a=some o)(h':H b=some u)(d:o≠u):a≠b:=by intro e;subst e;rw[h]at h';exact d (Qq h')
theorem au{H:Hp}(h:H a=some o)(h':H b=none):a≠b:=by intro e;subst e;rw[h]at h';cases h'
section
variable(P:Program)(w:World)
def cF(H:Hp)(h:Heap)(a:Addr):HO->Prop
 | .lst xs=>xs.length<=sizeLine/\∃(c:List Value)(n:Nat),Vals xs c/\h.get? a=some {cls:= .type Vt,data:= .seq c.toArray n}
 | .tup xs=>xs.length<=sizeLine/\∃c:List Value,Vals xs c/\IsTup h a c.toArray
 | .dK kvs=>kvs.length<=sizeLine/\(a==sysModules)=false/\∃vs,KV kvs vs/\h.DictOf (eu P w) a vs
 | .dT kvs=>kvs.length<=sizeLine/\(a==sysModules)=false/\∃xs:List (List Key×Addr×Value),
   Paired (λ(p:List Key×V) (q:List Key×Addr×Value)=>p.1=q.1/\H q.2.1=some (.tup (p.1.map kV))/\bY p.2 q.2.2) kvs xs/\
   ∃o e ep,h.get? a=some o/\o.ExactDict/\o.data= .dict e ep/\e.toList=xs.map (entryOfKey (tupleKind (eu P w)))/\(xs.map (·.1)).Nodup
 | .set S n=>h.SetOf (intKind P w) a S n
 | .ins C d fs=>H d=some (.own a)/\fs.length<=1000/\d≠a/\h.get? a=some (instObj C d)/\
   ∃b,h.Ns1 d b/\(∀f,nY (fs.lookup f) (b f))/\PySem.Within b (fs.map (·.1))
 | .own _=>∃o,h.get? a=some o
 | .xd fs=>∃b,h.Ns1 a b/\∀f,nY (fs.lookup f) (b f)
 | .rng k j=>∃t u v,h.get? a=some {cls:= .type Vn,data:= .fields #v[.int k t, .int j u, .int 1 v]}
 | .frz o u=>h.get? a=some o/\cF H h a u
 | .tbl ps=>h.get? a=some {cls:= .none,data:= .fields ps}
 | .met f x=>h.get? a=some (methodObj (.ref f) (.ref x))
 | .ext φ=>φ h/\(∃o,h.get? a=some o)/\∀g i:Heap,φ g->(∀o,g.get? a=some o->i.get? a=some o)->φ i
def HOk(H:Hp)(h:Heap):Prop:=∀a o,H a=some o->cF P w H h a o
end
section
variable{P:Program}{w:World}{H H':Hp}{h h':Heap}{a:Addr}{o:HO}
theorem cF.lt(x:cF P w H h a o):a<h.objs.size:=by
 cases o with
 |lst xs=>obtain⟨_,_,_,_,e⟩:=x;exact P5 e
 |tup xs=>obtain⟨_,_,_,p⟩:=x;exact p.lt
 |dK kvs=>obtain⟨_,_,_,_,o,_,_,e,_⟩:=x;exact P5 e
 |dT kvs=>obtain⟨_,_,_,_,o,_,_,e,_⟩:=x;exact P5 e
 |set S n=>obtain⟨o,_,_,_,e,_⟩:=x;exact P5 e
 |ins C b fs=>obtain⟨_,_,_,e,_⟩:=x;exact P5 e
 |own y=>obtain⟨_,e⟩:=x;exact P5 e
 |xd fs=>obtain⟨_,⟨_,_,_,e,_⟩,_⟩:=x;exact P5 e
 |rng d c=>obtain⟨_,_,_,e⟩:=x;exact P5 e
 |frz g u=>obtain⟨e,_⟩:=x;exact P5 e
 |tbl ps=>exact P5 (show h.get? a=some _ from x)
 |met f y=>exact P5 (show h.get? a=some _ from x)
 |ext φ=>obtain⟨_,⟨_,e⟩,_⟩:=x;exact P5 e
theorem Paired.mapP:∀ {c:List e} {d:List g},Paired F c d->(∀a b,F a b->G a b)->Paired G c d
 |_,_, .nil,_=> .nil
 |_,_, .cons r t,f=> .cons (f _ _ r) (Paired.mapP t f)
theorem cF.stay(x:cF P w H h a o)(k:∀b u,(b=a\/H b=some (.own a))->h.get? b=some u->h'.get? b=some u)(A:∀b,H b=some (.own a)->H' b=some (.own a))(B:∀b xs,H b=some (.tup xs)->H' b=some (.tup xs)):cF P w H' h' a o:=by
 induction o with
 |lst xs=>obtain⟨z,j,n,r,e⟩:=x;exact#[z,j,n,r,k _ _ (.inl rfl) e]
 |tup xs=>obtain⟨z,j,r,g,e,c⟩:=x;exact#[z,j,r,g,k _ _ (.inl rfl) e,c]
 |dK kvs=>obtain⟨z,y,vs,r,g,i,ep,e,c⟩:=x;exact#[z,y,vs,r,g,i,ep,k _ _ (.inl rfl) e,c]
 |dT kvs=>
  obtain⟨z,y,xs,r,g,i,ep,e,c⟩:=x;exact#[z,y,xs,Paired.mapP r λp q z=>#[z.1,B _ _ z.2.1,z.2.2],g,i,ep,k _ _ (.inl rfl) e,c]
 |set S n=>obtain⟨g,i,ep,t,e,c⟩:=x;exact#[g,i,ep,t,k _ _ (.inl rfl) e,c]
 |ins C J fs=>
  obtain⟨d,z,ne,e,l,⟨m,i,ep,s,c⟩,r⟩:=x;exact#[A _ d,z,ne,k _ _ (.inl rfl) e,l,#[m,i,ep,k _ _ (.inr d) s,c],r]
 |own y=>obtain⟨g,e⟩:=x;exact#[g,k _ _ (.inl rfl) e]
 |xd fs=>obtain⟨l,⟨m,i,ep,e,c⟩,r⟩:=x;exact#[l,#[m,i,ep,k _ _ (.inl rfl) e,c],r]
 |rng L K=>obtain⟨t,u,v,e⟩:=x;exact#[t,u,v,k _ _ (.inl rfl) e]
 |frz g u G=>obtain⟨e,q⟩:=x;exact#[k _ _ (.inl rfl) e,G q]
 |tbl ps=>
  have e:h.get? a=some {cls:= .none,data:= .fields ps}:=x;show h'.get? a=some {cls:= .none,data:= .fields ps};exact k a _ (.inl rfl) e
 |met f y=>
  have e:h.get? a=some (methodObj (.ref f) (.ref y)):=x;show h'.get? a=some (methodObj (.ref f) (.ref y));exact k a _ (.inl rfl) e
 |ext φ=>obtain⟨p,⟨o,e⟩,st⟩:=x;exact#[st _ _ p λo q=>k _ _ (.inl rfl) q,#[o,k _ _ (.inl rfl) e],st]
theorem HOk.lt(x:HOk P w H h)(e:H a=some o):a<h.objs.size:=(x a o e).lt
theorem HOk.fresh(x:HOk P w H h)(e:h.objs.size<=a):H a=none:=by
 cases q:H a with
 |none=>rfl
 |some u=>exact absurd (Pg (x.lt q) e) (Rg _)
theorem HOk.kept(x:HOk P w H h)(k:∀b u,h.get? b=some u->h'.get? b=some u):HOk P w H h':=λa o e=>
 (x a o e).stay (λb u _ q=>k b u q) (λ_ q=>q) λ_ _ q=>q
theorem HOk.laid(x:HOk P w H h)(k:∀b u,h.get? b=some u->h'.get? b=some u)(g:h.objs.size<=a)(new:cF P w (upd H a o) h' a o):HOk P w (upd H a o) h':=λb u e=>by
 have f:=x.fresh g;by_cases d:b=a
 .subst d;rw[ah]at e;cases e;exact new
 .rw[aA d]at e;exact(x b u e).stay (λc v _ q=>k c v q) (λc q=>by rw[aA (au q f)];exact q) λc xs q=>by rw[aA (au q f)];exact q
end
def Rd(H:Hp)(a:Addr)(u:HO):Prop:=H a=some u\/∃o,H a=some (.frz o u)
theorem Rd.ok(r:Rd H a u)(x:HOk P w H h):cF P w H h a u:=by
 rcases r with r|⟨o,r⟩
 .exact x a u r
 .obtain⟨_,q⟩:=x a _ r;exact q
def Mut:Option HO->Prop
 |some (.lst _)=>True
 |some (.dK _)=>True
 |some (.dT _)=>True
 |some (.set _ _)=>True
 |some (.ins _ _ _)=>True
 |some (.ext _)=>True
 |_=>False
section
variable{P:Program}{w:World}{H:Hp}{h h':Heap}{x e:Addr}{o':HO}
theorem HOk.write(ok:HOk P w H h)(g:Mut (H x))(i:e=x\/H e=some (.own x))(k:∀b u,b≠e->h.get? b=some u->h'.get? b=some u)(m:∃u,h'.get? e=some u)(new:cF P w (upd H x o') h' x o'):HOk P w (upd H x o') h':=λb u q=>by
 have j:∀c y,H c=some (.own y)->c≠x:=λc y r z=>by subst z;rwa[r]at g
 have o:∀c xs,H c=some (.tup xs)->c≠x:=λc xs r z=>by subst z;rwa[r]at g
 by_cases a:b=x
 .subst a;rw[ah]at q;cases q;exact new
 .rw[aA a]at q;by_cases d:b=e
  .have l:H b=some (.own x):=by
    rcases i with z|z
    .exact absurd (d.trans z) a
    .rw[d];exact z
   rw[q]at l;cases l;obtain⟨v,n⟩:=m;exact#[v,by rw[d];exact n]
  .refine(ok b u q).stay (λc v f r=>k c v ?_ r) (λc r=>by rw[aA (j c b r)];exact r) λc xs r=>by rw[aA (o c xs r)];exact r
   rcases f with rfl|f
   .exact d
   .rintro rfl;rcases i with z|z
    .exact j c b f z
    .rw[f]at z;cases z;exact a rfl
end
structure Un(fs ex:List Addr)(H H':Hp)(h h':Heap):Prop where
 keep:∀b o,h.get? b=some o->H b=none->b∉fs->b∉ex->h'.get? b=some o
 slot:∀b o,h.get? b=some o->H b=none->b∈fs->b∉ex->∃sl,h'.get? b=some {o with slots:=sl}
 free:∀b o,h.get? b=some o->H b=none->b∉ex->H' b=none
 there:∀b o,h.get? b=some o->b∉ex->∃o',h'.get? b=some o'
 tups:∀b xs,H b=some (.tup xs)->H' b=some (.tup xs)
 frzs:∀b o u,H b=some (.frz o u)->H' b=some (.frz o u)
 tbls:∀b ps,H b=some (.tbl ps)->∃more,H' b=some (.tbl (ps++more))
section
variable{fs fs' ex ex':List Addr}{H H1 H2:Hp}{h h1 h2 h':Heap}{a x e:Addr}{o:HO}
theorem Un.any(u:Un fs ex H H1 h h1)(q:h.get? b=some c)(n:H b=none)(f:b∉ex):∃g,h1.get? b=some {c with slots:=g}:=by
 by_cases d:b∈fs
 .exact u.slot b c q n d f
 .exact#[c.slots,u.keep b c q n d f]
theorem Un.kept(k:∀b u,h.get? b=some u->h'.get? b=some u):Un fs ex H H h h':=
 #[λb c q _ _ _=>k b c q,λb c q _ _ _=>#[c.slots,k b c q],λ_ _ _ n _=>n,λb c q _=>#[c,k b c q],λ_ _ q=>q,λ_ _ _ q=>q,λ_ ps q=>#[#v[],by rw[q];simp]]
theorem Un.refl:Un fs ex H H h h:=Un.kept λ_ _ q=>q
theorem Un.laid(k:∀b u,h.get? b=some u->h'.get? b=some u)(c:h.objs.size<=a)(hn:H a=none):Un fs ex H (upd H a o) h h' where
 keep:=λb u q _ _ _=>k b u q
 slot:=λb u q _ _ _=>#[u.slots,k b u q]
 free:=λb u q n _=>by rw[aA (Qz (Pg (P5 q) c))];exact n
 there:=λb u q _=>#[u,k b u q]
 tups:=λb xs q=>by rw[aA (au q hn)];exact q
 frzs:=λb u xs q=>by rw[aA (au q hn)];exact q
 tbls:=λb ps q=>#[#v[],by rw[aA (au q hn),q];simp]
theorem Un.write(c:Mut (H x))(j:e=x\/H e=some (.own x))(k:∀b u,b≠e->h.get? b=some u->h'.get? b=some u)(l:∃u,h'.get? e=some u):Un fs ex H (upd H x o) h h':=by
 have i:∀b,H b=none->b≠x:=λb n z=>by subst z;rwa[n]at c
 have f:∀b,H b=none->b≠e:=λb n z=>by
  subst z;rcases j with r|r
  .exact i b n r
  .rw[n]at r;cases r
 have d:∀b u,H b=some u->¬Mut (some u)->b≠x:=λb u q m z=>by subst z;rw[q]at c;exact m c
 refine#[λb u q n _ _=>k b u (f b n) q,λb u q n _ _=>#[u.slots,k b u (f b n) q],λb u q n _=>by rw[aA (i b n)];exact n,λb u q _=> ?_,
  λb xs q=>by rw[aA (d b _ q λz=>z)];exact q,λb u xs q=>by rw[aA (d b _ q λz=>z)];exact q,λb ps q=>#[#v[],by rw[aA (d b _ q λz=>z),q];simp]]
 by_cases g:b=e
 .subst g;exact l
 .exact#[u,k b u g q]
end
def trk(h:Heap)(H:Hp):List Addr:=(List.range h.objs.size).filter λa=>(H a).isSome
def yQ(h:Heap)(H:Hp):Heap:=PySem.W.hideAll h (trk h H)
theorem Ge(h:Heap)(H:Hp):(yQ h H).objs.size=h.objs.size:=PySem.W.hideAll_size _ _
theorem JE{h:Heap}(e:h.get? b=some o)(n:H b=none):(yQ h H).get? b=some o:=
 PySem.W.hideAll_get _ e λa=>by have q:(H b).isSome=true:=(PV.mp a).2;rw[n]at q;simp at q
theorem Lq{h:Heap}(e:(yQ h H).get? b=some o):h.get? b=some o/\H b=none:=by
 have a:h.get? b=some o:=PySem.W.of_hideAll (trk h H) e;refine#[a,6];cases q:H b with
 |none=>rfl
 |some x=>
  have c:b∈trk h H:=PV.mpr #[Pf.mpr (P5 a),by simp[q]];have z:(yQ h H).get? b=none:=PySem.W.hideAll_none (trk h H) c;rw[z]at e;cases e
def LY(g h:Heap)(L:Addr):List (Addr×Obj):=(List.range h.objs.size).filterMap λa=>if a=L\/(g.get? a).isSome=true then none else(h.get? a).map λo=>(a,o)
def rest(g h:Heap)(L d:Addr):List (Addr×Obj):=(LY g h L).filter λp=>decide (p.1≠d)
structure Mod(K:Frag)(mg:Str->Option Value)(base:Heap):Prop where
 kin:K.In base
 glob:base.Ns mainGlobals mg
 blt:∃mb,base.Ns builtinsNs mb/\∀x:Str,x≠ VQ->mb x=bootBuiltins x
 nolimit:base.NoLimit
structure Cx where
 prog:Program
 w:World
 K:Frag
 mg:Str->Option Value
 base:Heap
 A:Around
 N:List Str
 s₀:Shared
 H₀:Hp
 env:Env
 outer:List Env
 stack:List Env
 ex:List Addr
 fn:Str->Bool
 calm:Bool
 pn:List (Addr×Obj)
 xe:Value->Shared->Prop
def frs(l:List Env):List Addr:=l.filterMap (·.frame)
abbrev Cx.fs(X:Cx):List Addr:=frs X.outer
def Vis(a:Scope)(x:Str):Prop:=a.names.lookup x=some .local\/a.names.lookup x=some .cell\/a.names.lookup x=some .free
def Loc(a:Scope)(x:Str):Prop:=a.names.lookup x=some .local\/a.names.lookup x=some .cell
def Look(env:Env)(h:Heap)(m:Str->Option Value)(x:Str)(u:Value):Prop:=
 (env.kindOf x=some .local/\m x=some u)\/((env.kindOf x=some .cell\/env.kindOf x=some .free)/\∃c,env.cells.lookup x=some c/\h.IsCell c (some u))
structure Cx.Ok(X:Cx):Prop where
 mod:Mod X.K X.mg X.base
 kind:X.env.scope.kind= .function
 glob:X.env.globals=mainGlobals
 blt:X.env.builtins=builtinsNs
 above:X.s₀.heap.objs.size<=X.env.locals
 inj:∀x y c,X.env.cells.lookup x=some c->X.env.cells.lookup y=some c->x=y
 has:∀x,(X.env.kindOf x=some .cell\/X.env.kindOf x=some .free)->∃c,X.env.cells.lookup x=some c
 cab:∀x c,X.fn x=true->X.env.cells.lookup x=some c->X.s₀.heap.objs.size<=c
 hd:X.calm=true->X.A.handled=none
 frames:X.A.frames=some X.stack
 stk:X.stack=X.outer\/(X.stack=X.env::X.outer/\X.env.frame=some X.env.locals)
 exf:∀b∈X.ex,b≠X.env.locals/\∀x c,X.env.cells.lookup x=some c->c≠b
 bs:∀b o,X.base.get? b=some o->X.s₀.heap.get? b=some o/\X.H₀ b=none
 bsz:X.base.objs.size<=X.s₀.heap.objs.size
 noex:∀b o,X.base.get? b=some o->b∉X.ex
 exfs:∀b∈X.ex,b∉X.fs
 funs:X.s₀.heap.FunFrames X.base X.outer
 frf:∀b∈X.fs,X.H₀ b=none
structure Inv(X:Cx)(pins:List (Addr×Obj))(σ:List (Option V))(H:Hp)(s:Shared):Prop where
 ok:X.Ok
 os:s.os=X.s₀.os
 bare:AllBare s.gens
 base:Un X.fs X.ex X.H₀ H X.s₀.heap s.heap
 loc:∃m,s.heap.Ns X.env.locals m/\∀(i:Nat)(x:Str)(v:V),X.N[i]?=some x->σ[i]?=some (some v)->Vis X.env.scope x->∃u,bY v u/\Look X.env s.heap m x u
 cell:∀x c,X.env.cells.lookup x=some c->∃v,s.heap.IsCell c v
 free:H X.env.locals=none
 freeC:∀x c,X.env.cells.lookup x=some c->H c=none
 pin:∀p∈X.pn++pins,s.heap.get? p.1=some p.2/\H p.1=none/\p.1≠X.env.locals/\p.1∉X.fs/\∀v,p.2.data≠ .cell v
 hok:HOk X.prog X.w H s.heap
 len:σ.length=X.N.length
section
variable{X:Cx}{pins:List (Addr×Obj)}{σ:List (Option V)}{H H':Hp}{s:Shared}{h':Heap}
theorem Cx.Ok.nofr(ok:X.Ok)(e:X.base.get? b=some o):b∉X.fs:=λa=>by have:=(ok.funs.mem a).1;rw[e]at this;cases this
theorem Inv.bs(I:Inv X pins σ H s):∀b o,X.base.get? b=some o->s.heap.get? b=some o/\H b=none:=λb o e=>
 #[I.base.keep b o (I.ok.bs b o e).1 (I.ok.bs b o e).2 (I.ok.nofr e) (I.ok.noex b o e),I.base.free b o (I.ok.bs b o e).1 (I.ok.bs b o e).2 (I.ok.noex b o e)]
theorem Inv.bk(I:Inv X pins σ H s):∀b o,X.base.get? b=some o->s.heap.get? b=some o:=λb o e=>(I.bs b o e).1
theorem Inv.mod(I:Inv X pins σ H s):Mod X.K X.mg X.base:=I.ok.mod
theorem Inv.kIn(I:Inv X pins σ H s):X.K.In s.heap:=I.ok.mod.kin.keeps I.bk
theorem Inv.lt(I:Inv X pins σ H s):X.env.locals<s.heap.objs.size:=let⟨_,a,_⟩:=I.loc;a.lt
theorem Inv.sz(I:Inv X pins σ H s):X.s₀.heap.objs.size<=s.heap.objs.size:=Pr I.ok.above (Tj I.lt)
theorem Inv.nofs(I:Inv X pins σ H s){a:Addr}(h:s.heap.objs.size<=a):a∉X.fs:=λb=>by obtain⟨_,o,c,_⟩:=I.ok.funs.mem b;exact absurd (Pg (P5 c) (Pr I.sz h)) (Rg _)
theorem Inv.cne(I:Inv X pins σ H s):∀x c,X.env.cells.lookup x=some c->c≠X.env.locals:=λx c e z=>by obtain⟨v,o,b,a⟩:=I.cell x c e;obtain⟨m,⟨h,g,ep,f,d,_⟩,_⟩:=I.loc;rw[z,f]at b;cases b;rw[d]at a;cases a
theorem Inv.funs(I:Inv X pins σ H s):s.heap.FunFrames X.base X.outer:=by
 have all:∀(l:List Env),(∀b∈frs l,b∈X.fs)->X.s₀.heap.FunFrames X.base l->s.heap.FunFrames X.base l:=by
  intro l
  induction l with
  |nil=>intro _ _;trivial
  |cons env r m=>
   intro f hl;obtain⟨h,⟨L,o,d,i,j,g⟩,k⟩:=hl;have a:L∈X.fs:=f L (by unfold frs;rw[TF,d];exact Pt);obtain⟨n,e⟩:=I.base.slot L o j (I.ok.frf L a) a λz=>I.ok.exfs L z a;exact#[h,#[L,_,d,i,e,g],m (λb c=>f b (by unfold frs;rw[TF,d];exact Po _ c)) k]
 exact all X.outer (λ_ c=>c) I.ok.funs
theorem Inv.stack(I:Inv X pins σ H s):s.heap.FunFrames X.base X.stack:=by
 rcases I.ok.stk with e|⟨e,a⟩
 .rw[e];exact I.funs
 .rw[e];obtain⟨m,b,_⟩:=I.loc;refine .cons (by rw[I.ok.kind];decide) a b ?_ I.funs;exact Heap.get?_none_of_le (Pr I.ok.bsz I.ok.above)
theorem Inv.stkSub(I:Inv X pins σ H s):∀b∈frs X.stack,b∈X.env.locals::X.fs:=λb a=>by
 rcases I.ok.stk with e|⟨e,c⟩
 .rw[e]at a;exact Po _ a
 .rw[e]at a;unfold frs at a;rwa[TF,c]at a
theorem Inv.stkFree(I:Inv X pins σ H s):∀b∈frs X.stack,H b=none:=λb a=>by
 rcases Pk.mp (I.stkSub b a)with e|a
 .rw[e];exact I.free
 .obtain⟨_,o,c,_⟩:=I.ok.funs.mem a;exact I.base.free b o c (I.ok.frf b a) λz=>I.ok.exfs b z a
theorem Inv.step{ch:List Addr}(I:Inv X pins σ H s)(t:∀b∈ch,(b∈X.ex\/X.s₀.heap.objs.size<=b)/\b≠X.env.locals/\(∀x c,X.env.cells.lookup x=some c->c≠b)/\∀p∈X.pn++pins,p.1≠b)(keep:∀b o,b≠X.env.locals->b∉X.fs->b∉ch->s.heap.get? b=some o->H b=none->h'.get? b=some o)(slot:∀b o,b≠X.env.locals->b∈X.fs->b∉ch->s.heap.get? b=some o->H b=none->∃J,h'.get? b=some {o with slots:=J})(free:∀b o,b∉ch->s.heap.get? b=some o->H b=none->H' b=none)(there:∀b o,b∉ch->s.heap.get? b=some o->∃A,h'.get? b=some A)(ay:∀b xs,H b=some (.tup xs)->H' b=some (.tup xs))(Q:∀b o u,H b=some (.frz o u)->H' b=some (.frz o u))(ax:∀b ps,H b=some (.tbl ps)->∃more,H' b=some (.tbl (ps++more)))(ns:∀m,s.heap.Ns X.env.locals m->h'.Ns X.env.locals m)(ai:HOk X.prog X.w H' h')(U:AllBare g'):
  Inv X pins σ H' {s with heap:=h',gens:=g',drawn:=d',toks:=t'}:=by
 have M:∀b o,X.s₀.heap.get? b=some o->b≠X.env.locals:=λb o e=>Qz (Pg (P5 e) I.ok.above);have B:∀b o,X.s₀.heap.get? b=some o->b∉X.ex->b∉ch:=λb o e a g=>by
  rcases(t b g).1 with z|z
  .exact a z
  .exact absurd (Pg (P5 e) z) (Rg _)
 have cellK:∀x c,X.env.cells.lookup x=some c->∀v,s.heap.IsCell c v->h'.IsCell c v:=λx c e v ⟨o,h,G⟩=>by
  have y:c∉ch:=λz=>(t c z).2.2.1 x c e rfl;by_cases K:c∈X.fs
  .obtain⟨J,q⟩:=slot c o (I.cne x c e) K y h (I.freeC x c e);exact#[_,q,G]
  .exact#[o,keep c o (I.cne x c e) K y h (I.freeC x c e),G]
 refine#[I.ok,I.os,U,#[λb o e n g a=> ?_,λb o e n g a=> ?_,λb o e n a=> ?_,λb o e a=> ?_,λb xs e=>ay b xs (I.base.tups b xs e),λb o xs e=>Q b o xs (I.base.frzs b o xs e),λb ps e=> ?_],6,λx c e=> ?_,6,λx c e=> ?_,λp L=> ?_,ai,I.len]
 .exact keep b o (M b o e) g (B b o e a) (I.base.keep b o e n g a) (I.base.free b o e n a)
 .obtain⟨J,f⟩:=I.base.slot b o e n g a;obtain⟨ar,j⟩:=slot b _ (M b o e) g (B b o e a) f (I.base.free b o e n a);exact#[ar,j]
 .obtain⟨A,f⟩:=I.base.there b o e a;exact free b A (B b o e a) f (I.base.free b o e n a)
 .obtain⟨A,f⟩:=I.base.there b o e a;exact there b A (B b o e a) f
 .obtain⟨m1,f⟩:=I.base.tbls b ps e;obtain⟨m2,j⟩:=ax b _ f;exact#[m1++m2,by rw[j,Array.append_assoc]]
 .obtain⟨m,hn,hl⟩:=I.loc;refine#[m,ns m hn,λi x v f j O=> ?_];obtain⟨u,r,l⟩:=hl i x v f j O;refine#[u,r,6];rcases l with l|⟨k,c,e,z⟩
  .exact .inl l
  .exact .inr #[k,c,e,cellK x c e _ z]
 .obtain⟨v,z⟩:=I.cell x c e;exact#[v,cellK x c e v z]
 .obtain⟨m,⟨o,_,_,h,_⟩,_⟩:=I.loc;exact free _ o (λz=>(t _ z).2.1 rfl) h I.free
 .obtain⟨v,o,h,G⟩:=I.cell x c e;exact free c o (λz=>(t c z).2.2.1 x c e rfl) h (I.freeC x c e)
 .obtain⟨e,n,ne,N,d⟩:=I.pin p L;have y:p.1∉ch:=λz=>(t p.1 z).2.2.2 p L rfl;exact#[keep p.1 p.2 ne N y e n,free p.1 p.2 y e n,ne,N,d]
theorem Inv.un(I:Inv X pins σ H s)(u:Un X.fs [] H H' s.heap h')(j:HOk X.prog X.w H' h'):Inv X pins σ H' {s with heap:=h',toks:=t'}:=by
 obtain⟨m,⟨o,l,ep,c,r⟩,_⟩:=id I.loc;obtain⟨t,h⟩:=u.any c I.free #[5];exact I.step (g':=s.gens) (d':=s.drawn) (ch:=[]) (λ_ z=>nomatch z) (λb o _ a _ e n=>u.keep b o e n a #[5]) (λb o _ a _ e n=>u.slot b o e n a #[5]) (λb o _ e n=>u.free b o e n #[5]) (λb o _ e=>u.there b o e #[5]) u.tups u.frzs u.tbls (λp i=>by obtain⟨q,g,f,d,k⟩:=i;rw[c]at d;cases d;exact#[_,g,f,h,k]) j I.bare
theorem Inv.call(I:Inv X pins σ H s)(u:Un (frs X.stack) ch H H' s.heap h')(t:HOk X.prog X.w H' h')(l:AllBare g')(f:∀b∈ch,(b∈X.ex\/X.s₀.heap.objs.size<=b)/\b≠X.env.locals/\(∀x c,X.env.cells.lookup x=some c->c≠b)/\∀p∈X.pn++pins,p.1≠b):
  Inv X pins σ H' {s with heap:=h',gens:=g',drawn:=d',toks:=t'}:=by
 obtain⟨m,⟨o,y,ep,g,r⟩,_⟩:=id I.loc;obtain⟨G,d⟩:=u.any g I.free λz=>(f _ z).2.1 rfl;exact I.step (ch:=ch) f (λb o d k a e n=>u.keep b o e n (λz=>(Pk.mp (I.stkSub b z)).elim d k) a) (λb o _ _ a e n=>u.any e n a) (λb o a e n=>u.free b o e n a) (λb o a e=>u.there b o e a) u.tups u.frzs u.tbls (λA q=>by obtain⟨B,j,i,h,v⟩:=q;rw[g]at h;cases h;exact#[_,j,i,d,v]) t l
theorem Inv.turned(I:Inv X pins σ H s)(k:∀b o,b≠it->s.heap.get? b=some o->h'.get? b=some o)(w:H it=none)(d:it≠X.env.locals)(h:it∈X.ex\/X.s₀.heap.objs.size<=it)(i:∀x c,X.env.cells.lookup x=some c->c≠it)(j:∀p∈X.pn++pins,p.1≠it):Inv X pins σ H {s with heap:=h',toks:=t'}:=by
 have f:∀b u,H b=some u->b≠it:=λb u e z=>by rw[z,w]at e;cases e
 refine I.step (g':=s.gens) (d':=s.drawn) (ch:=[it]) (λb l=> ?_) (λb o _ _ a e _=>k b o (λz=>a (by simp[z])) e) (λb o _ _ a e _=>#[o.slots,k b o (λz=>a (by simp[z])) e]) (λ_ _ _ _ n=>n)
  (λb o a e=>#[o,k b o (λz=>a (by simp[z])) e]) (λ_ _ e=>e) (λ_ _ _ e=>e) (λb ps e=>#[#v[],by rw[e];simp]) (λm t=> ?_) (λb u e=> ?_) I.bare
 .have e:b=it:=#[5,l]
  subst e;exact#[h,d,i,j]
 .obtain⟨o,g,ep,y,r⟩:=t;exact#[o,g,ep,k _ o (Q7 d) y,r]
 .refine(I.hok b u e).stay (λc v a q=>k c v ?_ q) (λ_ q=>q) λ_ _ q=>q;rcases a with z|z
  .rw[z];exact f b u e
  .exact f c _ z
theorem Inv.tok(I:Inv X pins σ H s)(t:Nat):Inv X pins σ H {s with toks:=t}:=I.un (h':=s.heap) (t':=t) Un.refl I.hok
theorem Inv.kept(I:Inv X pins σ H s)(k:∀b u,s.heap.get? b=some u->h'.get? b=some u):Inv X pins σ H {s with heap:=h',toks:=t'}:=I.un (Un.kept k) (I.hok.kept k)
theorem Inv.laid{a:Addr}(I:Inv X pins σ H s)(k:∀b u,s.heap.get? b=some u->h'.get? b=some u)(c:s.heap.objs.size<=a)(new:cF X.prog X.w (upd H a o) h' a o):
  Inv X pins σ (upd H a o) {s with heap:=h',toks:=t'}:=I.un (Un.laid k c (I.hok.fresh c)) (I.hok.laid k c new)
theorem Inv.write(I:Inv X pins σ H s)(d:Mut (H x))(a:e=x\/H e=some (.own x))(k:∀b u,b≠e->s.heap.get? b=some u->h'.get? b=some u)(c:∃u,h'.get? e=some u)(new:cF X.prog X.w (upd H x o) h' x o):Inv X pins σ (upd H x o) {s with heap:=h',toks:=t'}:=I.un (Un.write d a k c) (I.hok.write d a k c new)
theorem Inv.pins_of(I:Inv X pins σ H s)(h:∀p∈b,s.heap.get? p.1=some p.2/\H p.1=none/\p.1≠X.env.locals/\p.1∉X.fs/\∀v,p.2.data≠ .cell v):Inv X b σ H s:=
 #[I.ok,I.os,I.bare,I.base,I.loc,I.cell,I.free,I.freeC,λp a=>(Pz.mp a).elim (λz=>I.pin p (Rf _ z)) (h p),I.hok,I.len]
theorem AZ{N:List Str}(e:N.Nodup){i j:Nat}(a:N[i]?=some x)(b:N[j]?=some x):i=j:=by obtain⟨f,c⟩:=Pn.mp a;obtain⟨g,d⟩:=Pn.mp b;exact(T4 e).mp (c.trans d.symm)
theorem wc{M:Model}{A:Around}{E:Value->Shared->Prop}{i:Nat}{x:Str}{v:V}{u:Value}{Q:Unit->Shared->Prop}(I:Inv X pins σ H s)(hN:X.N.Nodup)(L:X.N[i]?=some x)(t:Loc X.env.scope x)(r:bY v u)(h:∀s',Inv X pins (σ.set i (some v)) H s'->(∃a,Heap.SameBut a s.heap s'.heap/\(a=X.env.locals\/X.env.cells.lookup x=some a))->Q Unit.unit s')(hf:X.fn x=true\/X.env.scope.names.lookup x=some .local:=by first|exact .inl rfl|exact .inr rfl|assumption):wpAny M A (storeName X.env x u) Q E s:=by
 obtain⟨m,hn,hl⟩:=id I.loc;have bM:(X.env.scope.kind== .class||(X.env.scope.kind== .module&&X.env.locals !=X.env.globals))=false:=by rw[I.ok.kind];rfl
 have bt:i<σ.length:=by rw[I.len];exact(Pn.mp L).1
 have cne:=I.cne;have tracked:∀ {a:Addr} {h':Heap},(∃o,s.heap.get? a=some o/\H a=none)->Heap.SameBut a s.heap h'->HOk X.prog X.w H h':=λ{a h'} ha f b ob e=>by
  obtain⟨_,_,br⟩:=ha;refine(I.hok b ob e).stay (λc U l q=>(f.2 c ?_).trans q) (λ_ q=>q) λ_ _ q=>q;rintro rfl;rcases l with rfl|l
  .rw[br]at e;cases e
  .rw[br]at l;cases l
 rcases t with G|G
 .refine wpAny_storeName_local G hn (λh' bS f=> ?_) bM;obtain⟨oL,_,_,bX,_⟩:=id hn;refine h _ #[I.ok,I.os,I.bare,#[λb o e n J t=> ?_,λb o e n J t=> ?_,I.base.free,λb o e t=> ?_,I.base.tups,I.base.frzs,I.base.tbls],#[_,bS,λj y v' g B e3=> ?_],λy c e=> ?_,I.free,I.freeC,λp hp=> ?_,tracked #[oL,bX,I.free] f,#[5,I.len]] #[_,f, .inl rfl]
  .exact(f.2 b (Qz (Pg (P5 e) I.ok.above))).trans (I.base.keep b o e n J t)
  .obtain⟨sl,g⟩:=I.base.slot b o e n J t;exact#[sl,(f.2 b (Qz (Pg (P5 e) I.ok.above))).trans g]
  .obtain⟨o',g⟩:=I.base.there b o e t;exact#[o',(f.2 b (Qz (Pg (P5 e) I.ok.above))).trans g]
  .by_cases K:j=i
   .subst K;rw[L]at g;cases g;rw[List.getElem?_set_self bt]at B;cases B;exact#[u,r, .inl #[G,#[5]]]
   .rw[List.getElem?_set_ne (Q7 K)]at B;obtain⟨u',r',q⟩:=hl j y v' g B e3;refine#[u',r',6];rcases q with ⟨k,e⟩|⟨k,c,e,z⟩
    .refine .inl #[k,6];have:y≠x:=λe=>K (AZ hN g (e▸L));simp[this,e]
    .exact .inr #[k,c,e,z.sameBut f (cne y c e)]
  .obtain⟨U,z⟩:=I.cell y c e;exact#[U,z.sameBut f (cne y c e)]
  .obtain⟨e,n,ne,nf,d⟩:=I.pin p hp;exact#[(f.2 p.1 ne).trans e,n,ne,nf,d]
 .have ai:X.fn x=true:=by
   rcases hf with z|z
   .exact z
   .rw[z]at G;cases G
  obtain⟨c,l⟩:=I.ok.has x (.inl G);obtain⟨U,z⟩:=I.cell x c l;refine wpAny_storeName_cell I.ok.kind G l z (λh' bk f=> ?_);obtain⟨oc,bu,b0⟩:=id z;refine h {s with heap:=h'} #[I.ok,I.os,I.bare,#[λb o e n J t=> ?_,λb o e n J t=> ?_,I.base.free,λb o e t=> ?_,I.base.tups,I.base.frzs,I.base.tbls],#[m,hn.sameBut f (Q7 (cne x c l)),λj y v' g B e3=> ?_],λy O e=> ?_,I.free,I.freeC,λp hp=> ?_,tracked #[oc,bu,I.freeC x c l] f,#[5,I.len]] #[c,f, .inr l]
  .exact(f.2 b (Qz (Pg (P5 e) (I.ok.cab x c ai l)))).trans (I.base.keep b o e n J t)
  .obtain⟨sl,g⟩:=I.base.slot b o e n J t;exact#[sl,(f.2 b (Qz (Pg (P5 e) (I.ok.cab x c ai l)))).trans g]
  .obtain⟨o',g⟩:=I.base.there b o e t;exact#[o',(f.2 b (Qz (Pg (P5 e) (I.ok.cab x c ai l)))).trans g]
  .by_cases K:j=i
   .subst K;rw[L]at g;cases g;rw[List.getElem?_set_self bt]at B;cases B;exact#[u,r, .inr #[.inl G,c,l,bk]]
   .rw[List.getElem?_set_ne (Q7 K)]at B;obtain⟨u',r',q⟩:=hl j y v' g B e3;refine#[u',r',6];rcases q with q|⟨k,O,e,z'⟩
    .exact .inl q
    .refine .inr #[k,O,e,z'.sameBut f ?_];rintro rfl;exact K (AZ hN g (I.ok.inj _ _ _ e l▸L))
  .by_cases bp:O=c
   .subst bp;exact#[_,bk]
   .obtain⟨w2,z2⟩:=I.cell y O e;exact#[w2,z2.sameBut f bp]
  .obtain⟨e,n,ne,nf,d⟩:=I.pin p hp;refine#[(f.2 p.1 ?_).trans e,n,ne,nf,d];intro q;rw[q,bu]at e;have q':oc=p.2:=Qq e;exact d U (by rw[<-q'];exact b0)
theorem Aa{M:Model}{A:Around}{E:Value->Shared->Prop}{i:Nat}{x:Str}{v:V}{u:Value}{Q:Unit->Shared->Prop}(I:Inv X pins σ H s)(c:X.N.Nodup)(e:X.N[i]?=some x)(f:Loc X.env.scope x)(r:bY v u)(h:∀a,Inv X pins (σ.set i (some v)) H a->Q Unit.unit a)(d:X.fn x=true\/X.env.scope.names.lookup x=some .local:=by first|exact .inl rfl|exact .inr rfl|assumption):wpAny M A (storeName X.env x u) Q E s:=
 wc I c e f r (λa b _=>h a b) d
theorem Inv.call'{a:Shared}(I:Inv X pins σ H s)(g:a.os=s.os)(u:Un (frs X.stack) ch H H' s.heap a.heap)(h:HOk X.prog X.w H' a.heap)(f:AllBare a.gens)(d:∀b∈ch,(b∈X.ex\/X.s₀.heap.objs.size<=b)/\b≠X.env.locals/\(∀x c,X.env.cells.lookup x=some c->c≠b)/\∀p∈X.pn++pins,p.1≠b):Inv X pins σ H' a:=by
 obtain⟨h',g',d',t',i⟩:=a;have e:i=s.os:=g;subst e;exact I.call (g':=g') (t':=t') (d':=d') u h f d
end
abbrev XK:=Value->Option Addr->Hp->Prop
abbrev St:=List (Option V)
abbrev VK:=V->Hp->Prop
abbrev TE:=St->Hp->VK->Prop
abbrev TT:=St->Hp->(Bool->Hp->Prop)->Prop
abbrev TA:=St->Hp->(List V->Hp->Prop)->Prop
structure Ends where
 nx:St->Hp->Prop
 rt:VK
 bk:St->Hp->Prop:=λ_ _=>False
 ct:St->Hp->Prop:=λ_ _=>False
abbrev TS:=Ends->St->Hp->Prop
def EP(X:Cx)(a:List (Addr×Obj))(c:St)(Q:VK)(u:Value)(b:Shared):Prop:=∃v H',Inv X a c H' b/\bY v u/\Q v H'
def TP(X:Cx)(a:List (Addr×Obj))(d:St)(Q:Bool->Hp->Prop)(b:Bool)(c:Shared):Prop:=∃H',Inv X a d H' c/\Q b H'
def AP(X:Cx)(a:List (Addr×Obj))(c:St)(Q:List V->Hp->Prop)(us:List Value)(b:Shared):Prop:=∃vs H',Inv X a c H' b/\Vals vs us/\Q vs H'
def SP(X:Cx)(b:List (Addr×Obj))(D:Ends)(f:Flow)(c:Shared):Prop:=
 match f with
 | .next=>∃a H',Inv X b a H' c/\D.nx a H'
 | .brk=>∃a H',Inv X b a H' c/\D.bk a H'
 | .cont=>∃a H',Inv X b a H' c/\D.ct a H'
 | .ret u=>∃v a H',Inv X b a H' c/\bY v u/\D.rt v H'
def PE(X:Cx)(e:Expr)(t:TE):Prop:=
 ∀(b:List (Addr×Obj)) (s:Shared) (a:St) (H:Hp) (Q:VK),Inv X b a H s->t a H Q->wpAny (model X.prog X.w) X.A (eval e X.env) (EP X b a Q) X.xe s
def PT(X:Cx)(e:Expr)(t:TT):Prop:=
 ∀(b:List (Addr×Obj)) (s:Shared) (a:St) (H:Hp) (Q:Bool->Hp->Prop),Inv X b a H s->t a H Q->wpAny (model X.prog X.w) X.A (isTrue e X.env (eval e X.env)) (TP X b a Q) X.xe s
def PW(X:Cx)(e:Expr)(t:TT):Prop:=
 ∀(whole:Sem Value) (b:List (Addr×Obj)) (s:Shared) (a:St) (H:Hp) (Q:Bool->Hp->Prop),Inv X b a H s->t a H Q->wpAny (model X.prog X.w) X.A (isTrue e X.env whole) (TP X b a Q) X.xe s
theorem PW.pt(h:PW X e t):PT X e t:=h _
def PA(X:Cx)(c:List Expr)(t:TA):Prop:=
 ∀(pos:Pos) (b:List (Addr×Obj)) (s:Shared) (a:St) (H:Hp) (Q:List V->Hp->Prop),Inv X b a H s->t a H Q->wpAny (model X.prog X.w) X.A (spliced (backTo pos (starEach c X.env))) (AP X b a Q) X.xe s
def PS(X:Cx)(st:Stmt)(t:TS):Prop:=
 ∀(a:List (Addr×Obj)) (s:Shared) (b:St) (H:Hp) (D:Ends),Inv X a b H s->t D b H->wpAny (model X.prog X.w) X.A (exec st X.env) (SP X a D) X.xe s
def PSs(X:Cx)(st:List Stmt)(t:TS):Prop:=
 ∀(a:List (Addr×Obj)) (s:Shared) (b:St) (H:Hp) (D:Ends),Inv X a b H s->t D b H->wpAny (model X.prog X.w) X.A (execs st X.env) (SP X a D) X.xe s
theorem thn(h:wpAny M A t Q E s)(b:∀a s,Q a s->Q' a s):wpAny M A t Q' E s:=Tn h b λ_ _ x=>x
section
variable{X:Cx}
inductive RdV(o:Option (Option V))(H:Hp)(Q:VK):Prop
 |mk(v:V) (e:o=some (some v)) (q:Q v H):RdV o H Q
def MH(i:Nat):TE:=λa H Q=>RdV a[i]? H Q
def tC(v:V):TE:=λ_ H Q=>Q v H
theorem Nb{i:Nat}{x:Str}{pos:Pos}(j:X.N[i]?=some x)(p:Vis X.env.scope x)(d:(x==(Vo:Str))=false:=by decide)(k:(x==("__classdict__":Str))=false:=by decide):PE X (.Name x pos) (MH i):=by
 intro q s t H Q I h;obtain⟨v,e,h⟩:=h;obtain⟨m,o,hl⟩:=I.loc;obtain⟨u,r,l⟩:=hl i x v j e p;have b:EP X q t Q u s:=#[v,H,I,r,h];rcases l with ⟨a,n⟩|⟨a,c,f,g⟩
 .exact wpAny_Name (wpAny_loadName_local I.ok.kind a o n b) d
 .rcases a with a|a
  .exact wpAny_Name (wpAny_loadName_cell I.ok.kind a f g b) d
  .exact wpAny_Name (wpAny_loadName_free I.ok.kind a f g b k) d
theorem ae{i j pos}:PE X (.Constant (.int i) j pos) (tC (.int i)):=λ_ _ _ H _ I h=>wpAny_Constant_int #[.int i,H,I.tok _,#[7],h]
theorem fD{b j pos}:PE X (.Constant (.bool b) j pos) (tC (.bl b)):=λ_ _ _ H _ I h=>Constant_bool #[.bl b,H,I,2,h]
theorem fi{j pos}:PE X (.Constant .none j pos) (tC .non):=λ_ _ _ H _ I h=>Constant_none #[.non,H,I,2,h]
theorem dU{x j pos}:PE X (.Constant (.str x) j pos) (tC (.str x)):=λ_ _ _ H _ I h=>Calls.Constant_str #[.str x,H,I.tok _,#[7],h]
def Gl(X:Cx)(x:Str):Prop:=X.env.kindOf x=some .globalImplicit
theorem yM{E:Value->Shared->Prop}{d:List (Addr×Obj)}{s:Shared}{e:St}{H:Hp}{x:Str}{u:Value}{pos:Pos}{Q:Value->Shared->Prop}(I:Inv X d e H s)(b:Gl X x)(c:X.mg x=some u)(h:Q u s)(a:(x==(Vo:Str))=false:=by decide):wpAny (model X.prog X.w) X.A (eval (.Name x pos) X.env) Q E s:=
 Calls.Name_function_global I.ok.kind b (Calls.loadGlobal_global (by rw[I.ok.glob];exact I.mod.glob.keeps I.bk) c h) a
theorem kq{E:Value->Shared->Prop}{i:List (Addr×Obj)}{s:Shared}{j:St}{H:Hp}{x:Str}{u:Value}{pos:Pos}{Q:Value->Shared->Prop}(I:Inv X i j H s)(d:Gl X x)(e:X.mg x=none)(g:bootBuiltins x=some u)(h:Q u s)(f:x≠ VQ:=by decide)(c:(x==(Vo:Str))=false:=by decide):wpAny (model X.prog X.w) X.A (eval (.Name x pos) X.env) Q E s:=by
 obtain⟨k,a,b⟩:=I.mod.blt;exact Calls.Name_function_global I.ok.kind d (Calls.loadGlobal_builtin (by rw[I.ok.glob];exact I.mod.glob.keeps I.bk) e (by rw[I.ok.blt];exact a.keeps I.bk) ((b x f).trans g) h) c
theorem c9{x:Str}{v:V}{u:Value}{pos:Pos}(b:Gl X x)(c:X.mg x=some u)(r:bY v u)(a:(x==(Vo:Str))=false:=by decide):PE X (.Name x pos) (tC v):=
 λ_ _ _ H _ I h=>yM I b c #[v,H,I,r,h] a
theorem nE{x:Str}{v:V}{u:Value}{pos:Pos}(b:Gl X x)(c:X.mg x=none)(e:bootBuiltins x=some u)(r:bY v u)(d:x≠ VQ:=by decide)(a:(x==(Vo:Str))=false:=by decide):PE X (.Name x pos) (tC v):=
 λ_ _ _ H _ I h=>kq I b c e #[v,H,I,r,h] d a
variable{a b:Expr}{ta tb:TE}{pos:Pos}
inductive RdB(Q:Bool->Hp->Prop)(x:V)(H:Hp):Prop
 |mk(k:Bool) (e:x= .bl k) (q:Q k H):RdB Q x H
def tB(t:TE):TT:=λc H Q=>t c H (RdB Q)
theorem di{e:Expr}{t:TE}(h:PE X e t)(g:∀whole,isTrue e X.env whole=(do let v<-whole;standAt e.pos;holding [v] (truthy v)):=by intro _;rfl):PT X e (tB t):=by intro j s m H Q I i;refine isTrue_plain (thn (h j s m H _ I i) λv n ⟨x,c,f,l,k⟩=> ?_) (g _);obtain⟨d,rfl,q⟩:=k;cases l;exact R4 #[c,f,q]
variable{tA tB':TT}{rest:List Expr}
def OR(t u:TT):TT:=λe H Q=>t e H λc d=>if c=true then u e d Q else Q false d
def tOr(t u:TT):TT:=λe H Q=>t e H λc d=>if c=true then Q true d else u e d Q
def OP(t:TT):TT:=λe H Q=>t e H λc d=>Q (!c) d
theorem fP(d:PT X a tA):PW X (.BoolOp .And [a] pos) tA:=by
 intro j f s g H Q I h;refine isTrue_and (thn (d f s g H Q I h) λc i e=> ?_);cases c with
 |true=>exact isTrue_and_nil e
 |false=>exact e
theorem ie(d:PT X a tA):PW X (.BoolOp .Or [a] pos) tA:=by
 intro j f s g H Q I h;refine isTrue_or (thn (d f s g H Q I h) λc i e=> ?_);cases c with
 |false=>exact isTrue_or_nil e
 |true=>exact e
theorem d9(j:PT X a tA)(k:PW X (.BoolOp .And (b::rest) pos) tB'):PW X (.BoolOp .And (a::b::rest) pos) (OR tA tB'):=by
 intro m f s i H Q I h;refine isTrue_and (thn (j f s i H _ I h) λc l ⟨d,e,g⟩=> ?_);cases c with
 |true=>exact k m f l i d Q e g
 |false=>exact#[d,e,g]
theorem iA(j:PT X a tA)(k:PW X (.BoolOp .Or (b::rest) pos) tB'):PW X (.BoolOp .Or (a::b::rest) pos) (tOr tA tB'):=by
 intro m f s i H Q I h;refine isTrue_or (thn (j f s i H _ I h) λc l ⟨d,e,g⟩=> ?_);cases c with
 |true=>exact#[d,e,g]
 |false=>exact k m f l i d Q e g
theorem kf(e:PT X a tA):PT X (.UnaryOp .Not a pos) (OP tA):=by intro f s g H Q I h;exact isTrue_not (e f s g H (λc d=>Q (!c) d) I h)
def N9(ta tb:TE):TE:=λe H Q=>ta e H (RdB λc d=>if c=true then tb e d Q else Q (.bl false) d)
def NZ(ta:TE):TE:=λe H Q=>ta e H (RdB λc d=>Q (.bl (!c)) d)
theorem Cw{op}(h:PE X a t):PE X (.BoolOp op [a] pos) t:=λd s e H Q I c=>BoolOp_one (h d s e H Q I c)
theorem Cy(j:PE X a ta)(k:PE X (.BoolOp .And (b::rest) pos) tb):PE X (.BoolOp .And (a::b::rest) pos) (N9 ta tb):=by
 intro g s i H Q I h;refine BoolOp_and (thn (j g s i H _ I h) λv m ⟨x,e,f,l,d⟩=> ?_);obtain⟨c,rfl,d⟩:=d;cases l;refine R4 ?_;cases c with
 |true=>exact k g m i e Q f d
 |false=>exact#[.bl false,e,f,2,d]
theorem Nc(g:PE X a ta):PE X (.UnaryOp .Not a pos) (NZ ta):=by intro i s k H Q I h;refine UnaryOp_ (thn (g i s k H _ I h) λv l ⟨x,e,f,j,d⟩=> ?_);obtain⟨c,rfl,d⟩:=d;cases j;exact not_of (R4 #[.bl (!c),e,f,2,d])
def tIf(t:TT)(ta tb:TE):TE:=λd H Q=>t d H λc e=>if c=true then ta d e Q else tb d e Q
theorem pV(n:PT X c tA)(l:PE X a ta)(m:PE X b tb):PE X (.IfExp c a b pos) (tIf tA ta tb):=by
 intro e s f H Q I h;refine wpAny_IfExp (thn (n e s f H _ I h) λd k ⟨g,i,j⟩=> ?_);cases d with
 |true=>exact l e k f g Q i j
 |false=>exact m e k f g Q i j
end
def SqL(K:Frag)(H:Hp)(a:Addr)(xs:List V):Prop:=
 Rd H a (.lst xs)\/
  ∃(o:Obj)(b:Array Value)(n:Nat),K.lookup a=some o/\o.cls= .type Vt/\o.dict=none/\o.data= .seq b n/\b.size<=sizeLine/\Vals xs b.toList
def SqT(K:Frag)(H:Hp)(a:Addr)(xs:List V):Prop:=
 Rd H a (.tup xs)\/
  ∃(o:Obj)(b:Array Value)(n:Nat),K.lookup a=some o/\o.cls= .type VA/\o.data= .seq b n/\b.size<=sizeLine/\Vals xs b.toList
def O4:Value->Option V
 | .none=>some .non
 | .bool b=>some (.bl b)
 | .int i _=>some (.int i)
 | .str x _=>some (.str x)
 | .bytes b _=>some (.byt b)
 | .float b _=>some (.flt b)
 | .ref a=>some (.ref a)
 | .type n=>some (.ty n)
 |_=>none
theorem bY.abs(r:bY x u):O4 u=some x:=by
 cases x with
 |non=>cases r;rfl
 |bl _=>cases r;rfl
 |int _=>obtain⟨t,rfl⟩:=r;rfl
 |str _=>obtain⟨t,rfl⟩:=r;rfl
 |byt _=>obtain⟨t,rfl⟩:=r;rfl
 |flt _=>obtain⟨t,rfl⟩:=r;rfl
 |ref _=>cases r;rfl
 |ty _=>cases r;rfl
theorem bY.inj(r:bY x u)(q:bY y u):x=y:=Qq (r.abs.symm.trans q.abs)
theorem Vals.inj:∀ {xs a:List V} {us:List Value},Vals xs us->Vals a us->xs=a
 |_,_,_, .nil, .nil=>rfl
 |_,_,_, .cons r t, .cons b t'=>by rw[r.inj b,Vals.inj t t']
section
variable{X:Cx}{pins:List (Addr×Obj)}{σ:St}{H:Hp}{s:Shared}{a:Addr}{xs ys:List V}
theorem SqL.of{K:Frag}(h:H a=some (.lst xs)):SqL K H a xs:= .inl (.inl h)
theorem SqT.of{K:Frag}(h:H a=some (.tup xs)):SqT K H a xs:= .inl (.inl h)
theorem Inv.list(I:Inv X pins σ H s)(h:SqL X.K H a xs):∃b:List Value,Vals xs b/\PlainL s.heap a b.toArray/\xs.length<=sizeLine:=by
 rcases h with h|⟨o,b,n,f,c,d,g,i,r⟩
 .obtain⟨z,b,n,r,e⟩:=h.ok I.hok;exact#[b,r,#[_,n,e,222],z]
 .refine#[b.toList,r,#[o,n,I.kIn a o f,c,d,#[5,g]],6];have e:=r.length;simp only[Se]at e;lia
theorem Inv.tuple(I:Inv X pins σ H s)(h:SqT X.K H a xs):∃b:List Value,Vals xs b/\IsTup s.heap a b.toArray/\xs.length<=sizeLine:=by
 rcases h with h|⟨o,b,n,d,c,f,g,r⟩
 .obtain⟨z,b,r,p⟩:=h.ok I.hok;exact#[b,r,p,z]
 .refine#[b.toList,r,#[o,I.kIn a o d,c,n,#[5,f]],6];have e:=r.length;simp only[Se]at e;lia
theorem Inv.list_inj(I:Inv X pins σ H s)(h:SqL X.K H a xs)(h':SqL X.K H a ys):xs=ys:=by
 obtain⟨f,r,⟨o,n,e,_,_,d⟩,_⟩:=I.list h;obtain⟨its',g,⟨j,i,b,_,_,d'⟩,_⟩:=I.list h';rw[e]at b;cases b;rw[d]at d';injection d' with c _
 have:f=its':=#[5,Qd Array.toList c]
 subst this;exact r.inj g
theorem Inv.tuple_inj(I:Inv X pins σ H s)(h:SqT X.K H a xs)(h':SqT X.K H a ys):xs=ys:=by
 obtain⟨f,r,⟨o,e,_,n,d⟩,_⟩:=I.tuple h;obtain⟨its',g,⟨j,b,_,i,d'⟩,_⟩:=I.tuple h';rw[e]at b;cases b;rw[d]at d';injection d' with c _
 have:f=its':=#[5,Qd Array.toList c]
 subst this;exact r.inj g
end
abbrev Cx.wish(X:Cx)(E:Value->Shared->Prop):Cx:={X with xe:=E}
abbrev Cx.nox(X:Cx):Cx:=X.wish λ_ _=>False
theorem Cx.Ok.wish{X:Cx}(ok:X.Ok)(E:Value->Shared->Prop):(X.wish E).Ok:=
 #[ok.mod,ok.kind,ok.glob,ok.blt,ok.above,ok.inj,ok.has,ok.cab,ok.hd,ok.frames,ok.stk,ok.exf,ok.bs,ok.bsz,ok.noex,ok.exfs,ok.funs,ok.frf]
theorem Cx.Ok.unwish{X:Cx}(ok:(X.wish E).Ok):X.Ok:=
 #[ok.mod,ok.kind,ok.glob,ok.blt,ok.above,ok.inj,ok.has,ok.cab,ok.hd,ok.frames,ok.stk,ok.exf,ok.bs,ok.bsz,ok.noex,ok.exfs,ok.funs,ok.frf]
section
variable{X:Cx}{pins:List (Addr×Obj)}{σ:St}{H:Hp}{s:Shared}{E:Value->Shared->Prop}
theorem Inv.wish(I:Inv X pins σ H s)(E:Value->Shared->Prop):Inv (X.wish E) pins σ H s:=#[I.ok.wish E,I.os,I.bare,I.base,I.loc,I.cell,I.free,I.freeC,I.pin,I.hok,I.len]
theorem Inv.unwish(I:Inv (X.wish E) pins σ H s):Inv X pins σ H s:=#[I.ok.unwish,I.os,I.bare,I.base,I.loc,I.cell,I.free,I.freeC,I.pin,I.hok,I.len]
theorem SP.unwish(h:SP (X.wish E) pins D f s'):SP X pins D f s':=by
 cases f with
 |next=>obtain⟨a,H',I,q⟩:=h;exact#[a,H',I.unwish,q]
 |brk=>obtain⟨a,H',I,q⟩:=h;exact#[a,H',I.unwish,q]
 |cont=>obtain⟨a,H',I,q⟩:=h;exact#[a,H',I.unwish,q]
 |ret u=>obtain⟨v,a,H',I,r,q⟩:=h;exact#[v,a,H',I.unwish,r,q]
theorem PSs.nox{st:List Stmt}(h:PSs X.nox st t):PSs X st t:=λpins s σ H D I a=>
 Tn (h pins s σ H D (I.wish _) a) (λ_ _ q=>q.unwish) λ_ _ z=>False.elim z
end
section
variable{X:Cx}{st:Stmt}{rest:List Stmt}{t u:TS}{e:Expr}{te:TE}{pos:Pos}
def N2:TS:=λD a H=>D.nx a H
def G5(t u:TS):TS:=λD a H=>t {D with nx:=u D} a H
theorem aO:PSs X [] N2:=λ_ _ a H _ I h=>To #[a,H,I,h]
theorem ab(c:PS X st t)(d:PSs X rest u):PSs X (st::rest) (G5 t u):=by
 intro a s i H D I h;refine wpAny_execs_cons (thn (c a s i H {D with nx:=u D} I h) λf g q=> ?_);cases f with
 |next=>
  obtain⟨j,H',b,q⟩:=q;exact d a g j H' D b q
 |ret v=>exact q
 |brk=>exact q
 |cont=>exact q
theorem aj(a:PS X st t):PSs X [st] t:=by
 intro b s c H D I h;refine wpAny_execs_cons (thn (a b s c H D I h) λf d q=> ?_);cases f with
 |next=>exact To q
 |ret v=>exact q
 |brk=>exact q
 |cont=>exact q
theorem Inv.quiet{a:St}(I:Inv X pins a H s):interactive X.env=false:=by simp[interactive,I.ok.kind]
def N5(te:TE):TS:=λD a H=>te a H λ_ b=>D.nx a b
theorem c8(d:PE X e te)(f:swapsWith e none pos.line X.env=pure false:=by rfl):PS X (.Expr e pos) (N5 te):=by intro g s a H D I h;exact wpAny_Expr_any (thn (d g s a H _ I h) λv k ⟨x,b,c,j,i⟩=>#[a,b,c,i]) I.quiet f
def OO(te:TE):TS:=λD a H=>te a H D.rt
theorem aC(d:PE X e te):PS X (.Return (some e) pos) (OO te):=by intro f s a H D I h;exact wpAny_Return_some (thn (d f s a H _ I h) λv j ⟨x,b,c,i,g⟩=>#[x,a,b,c,i,g])
def OQ(c:TT)(t u:TS):TS:=λD a H=>c a H λb d=>if b=true then t D a d else u D a d
theorem aZ(o:PT X c tc)(m:PSs X a t)(n:PSs X b u):PS X (.If c a b pos) (OQ tc t u):=by
 intro f s g H D I h;refine wpAny_If (thn (o f s g H _ I h) λd l ⟨i,j,k⟩=> ?_);cases d with
 |true=>exact m f l g i D j k
 |false=>exact n f l g i D j k
end
abbrev TG:=V->St->Hp->(St->Hp->Prop)->Prop
abbrev TGs:=List V->St->Hp->(St->Hp->Prop)->Prop
def PG(X:Cx)(target:Expr)(t:TG):Prop:=
 ∀(a:List (Addr×Obj)) (s:Shared) (b:St) (H:Hp) (v:V) (u:Value) (Q:St->Hp->Prop),Inv X a b H s->bY v u->t v b H Q->
  wpAny (model X.prog X.w) X.A (assign target X.env u) (λ_ d=>∃c H',Inv X a c H' d/\Q c H') X.xe s
def PGs(X:Cx)(ts:List Expr)(t:TGs):Prop:=
 ∀(a:List (Addr×Obj)) (s:Shared) (b:St) (H:Hp) (vs:List V) (us:List Value) (Q:St->Hp->Prop),Inv X a b H s->Vals vs us->t vs b H Q->
  wpAny (model X.prog X.w) X.A (assignInOrder ((assignEach ts X.env).map (·.2)) us) (λ_ d=>∃c H',Inv X a c H' d/\Q c H') X.xe s
section
variable{X:Cx}{pos:Pos}
def bC(i:Nat):TG:=λv a H Q=>Q (a.set i (some v)) H
theorem D9{i:Nat}{x:Str}(b:X.N.Nodup)(d:X.N[i]?=some x)(e:Loc X.env.scope x)(c:X.fn x=true\/X.env.scope.names.lookup x=some .local:=by first|exact .inl rfl|exact .inr rfl|assumption):PG X (.Name x pos) (bC i):=by intro f s j H v u Q I r h;exact wpAny_assign_Name (Aa I b d e r (λg a=>#[_,H,a,h]) c)
def OZ:TGs:=λvs a H Q=>vs=[]/\Q a H
inductive RdC(t:TG)(u:TGs)(vs:List V)(σ:St)(H:Hp)(Q:St->Hp->Prop):Prop
 |mk(v:V) (r:List V) (e:vs=v::r) (q:t v σ H λσ' H'=>u r σ' H' Q):RdC t u vs σ H Q
def Oy(t:TG)(u:TGs):TGs:=λvs a H Q=>RdC t u vs a H Q
theorem sH:PGs X [] OZ:=by intro b s a H vs us Q I r h;obtain⟨e,h⟩:=h;subst e;cases r;exact assignInOrder_nil #[a,H,I,h]
theorem jd{e:Expr}{a:List Expr}{t:TG}{u:TGs}(g:PG X e t)(i:PGs X a u)(j:(assignEach (e::a) X.env).map (·.2)=assign e X.env::(assignEach a X.env).map (·.2):=by rfl):PGs X (e::a) (Oy t u):=by
 intro b s n H vs us Q I r h;obtain⟨v,p,f,h⟩:=h;subst f;cases r with
 |cons r l=>
  rw[j];refine assignInOrder_cons (thn (g b s n H _ _ _ I r h) λ_ m ⟨o,c,d,k⟩=> ?_);exact i b m o c _ _ Q d l k
inductive RdT(K:Frag)(n:Nat)(t:TGs)(v:V)(σ:St)(H:Hp)(Q:St->Hp->Prop):Prop
 |mk(a:Addr) (xs:List V) (e:v= .ref a) (s:SqT K H a xs) (l:xs.length=n) (q:t xs σ H Q):RdT K n t v σ H Q
def Ox(K:Frag)(n:Nat)(t:TGs):TG:=λv a H Q=>RdT K n t v a H Q
theorem Na{c:List Expr}{k:Nat}{t:TGs}{n:Nat}(m:X.calm=true)(h:PGs X c t)(p:(assignEach c X.env).length=n:=by rfl)(w:(assignEach c X.env).findIdx? (·.1)=none:=by rfl):PG X (.Tuple c k pos) (Ox X.K n t):=by
 intro f s i H v u Q I r d;obtain⟨a,xs,l,q,hl,d⟩:=d;subst l;cases r;obtain⟨A,g,x,z⟩:=I.tuple q;refine assign_Tuple_tuple (I.ok.hd m) x (by simp[p,<-hl,g.length]) w λh' y=> ?_;have j:Inv X f i H {s with heap:=h'}:=I.kept (t':=s.toks) λb o e=>y b o (Qz (P5 e)) e;exact h f _ i H xs _ Q j #[5,g] d
def Hc(c:TE)(g:TG):TS:=λD a H=>c a H λx b=>g x a b D.nx
theorem Il{i:Nat}{x:Str}{e:Expr}{a:TE}{pos':Pos}(f:X.N.Nodup)(k:X.N[i]?=some x)(m:Loc X.env.scope x)(g:PE X e a)(l:swapsWith e (some (.Name x pos')) pos.line X.env=pure false:=by rfl)(j:X.fn x=true\/X.env.scope.names.lookup x=some .local:=by first|exact .inl rfl|exact .inr rfl|assumption):
  PS X (.Assign [.Name x pos'] e pos) (Hc a (bC i)):=by
 intro n s q H D I h;refine wpAny_Assign_Name (thn (g n s q H _ I h) λv r ⟨y,b,c,p,o⟩=> ?_) l;exact Aa c f k m p (λt d=>#[_,b,d,o]) j
end
section
variable{X:Cx}{pos:Pos}
def MG(c:TT)(g:TS):TS:=λD a H=>∃W:Nat->St->Hp->Prop,(∃m,W m a H)/\∀m a H,W m a H->
 c a H λb d=>if b=true then∃N:St->Hp->Prop,(∀f H',N f H'->∃e,e<m/\W e f H')/\g {D with nx:=N,ct:=N,bk:=D.nx} a d else D.nx a d
theorem Ik(x:PassesOwn (model X.prog X.w) X.A X.env X.xe)(G:PT X c tc)(B:PSs X body tb):PS X (.While c body [] pos) (MG tc tb):=by
 intro o s Q H D I h;obtain⟨W,⟨m0,M⟩,turn⟩:=h;refine wpAny_While (codeAny_whileLoop (λn J=>∃y H',Inv X o y H' J/\W n y H') ?_ m0 #[Q,H,I,M]);rintro n K ⟨i,q,z,O⟩;refine R0 x (thn (G o K i q _ z (turn n i q O)) λb L ⟨r,t,e⟩=> ?_);cases b with
 |true=>
  obtain⟨N,u,e⟩:=e;rw[Pd rfl];refine R0 x (thn (B o L i r _ t e) λf U g=> ?_);cases f with
  |next=>
   obtain⟨d,a,j,m⟩:=g;obtain⟨l,k,p⟩:=u d a m;exact#[l,k,d,a,j,p]
  |cont=>
   obtain⟨d,a,j,m⟩:=g;obtain⟨l,k,p⟩:=u d a m;exact#[l,k,d,a,j,p]
  |brk=>exact g
  |ret v=>exact g
 |false=>
  rw[Pb PQ];exact To #[i,r,t,e]
end
structure It where
 go:Nat->Hp->Prop
 yld:Nat->Hp->V->Hp->Prop
 stop:Nat->Hp->Prop
def zH(X:Cx)(a:List (Addr×Obj))(H:Hp)(b:Addr):Prop:=
 H b=none/\b≠X.env.locals/\b∉X.fs/\(b∈X.ex\/X.s₀.heap.objs.size<=b)/\(∀x c,X.env.cells.lookup x=some c->c≠b)/\∀p∈X.pn++a,p.1≠b
theorem Inv.fpOk{g:St}{s:Shared}{b:Addr}(I:Inv X pins g H s)(a:s.heap.objs.size<=b)(d:H' b=none):zH X pins H' b:=by
 refine#[d,T5 (Pg I.lt a),I.nofs a, .inr (Pr I.sz a),λx c e z=> ?_,λp f z=> ?_]
 .obtain⟨v,q⟩:=I.cell x c e;exact absurd (Pg q.lt (by rw[z];exact a)) (Rg _)
 .exact absurd (Pg (P5 (I.pin p f).1) (by rw[z];exact a)) (Rg _)
structure Turn(P:Program)(w:World)(K:Frag)(tg:Expr)(J:It)(fp:List Addr)(it:Addr)(tn:Nat->Heap->Prop):Prop where
 mem:it∈fp
 obj:∀i h,tn i h->∀b∈fp,∃o,h.get? b=some o/\∀v,o.data≠ .cell v
 keep:∀i h h',tn i h->(∀b∈fp,∀o,h.get? b=some o->h'.get? b=some o)->tn i h'
 item:∀(X:Cx),X.prog=P->X.w=w->X.K=K->X.calm=true->∀(i:Nat) (pins:List (Addr×Obj)) (s:Shared) (σ:St) (H:Hp) (E:Value->Shared->Prop),Inv X pins σ H s->(∀b∈fp,zH X pins H b)->tn i s.heap->J.go i H->
  wpAny (model P w) X.A (pyNext (.ref it)) (λr s1=>∃u,r=some u/\
   wpAny (model P w) X.A (letOwnedTupleGo tg (.ref it) u) (λ_ s2=>∃x H',Inv X pins σ H' s2/\bY x u/\J.yld i H x H'/\tn (i+1) s2.heap/\∀b∈fp,H' b=none) E s1) E s
 done:∀(X:Cx),X.prog=P->X.w=w->X.K=K->X.calm=true->∀(i:Nat) (pins:List (Addr×Obj)) (s:Shared) (σ:St) (H:Hp) (E:Value->Shared->Prop),Inv X pins σ H s->(∀b∈fp,zH X pins H b)->tn i s.heap->J.stop i H->
  wpAny (model P w) X.A (pyNext (.ref it)) (λr s1=>r=none/\Inv X pins σ H s1) E s
 self:∀(A:Around)(i:Nat)(s:Shared)(Q:Value->Shared->Prop)(E:Value->Shared->Prop),tn i s.heap->Q (.ref it) s->wpAny (model P w) A (pyIter (.ref it)) Q E s
abbrev TI:=St->Hp->(It->Hp->Prop)->Prop
def PIE(X:Cx)(c:List (Addr×Obj))(h:St)(g:Expr)(R:It->Hp->Prop)(f:Value)(d:Shared):Prop:=
 ∃(it:Addr)(a:List Addr)(e:Nat->Heap->Prop)(J:It)(H':Hp),f= .ref it/\Inv X c h H' d/\Turn X.prog X.w X.K g J a it e/\e 0 d.heap/\(∀b∈a,zH X c H' b)/\R J H'
def PI(X:Cx)(d iter:Expr)(e:TI):Prop:=
 ∀(b:List (Addr×Obj)) (s:Shared) (a:St) (H:Hp) (R:It->Hp->Prop),Inv X b a H s->e a H R->
  wpAny (model X.prog X.w) X.A (eval iter X.env) (λv c=>wpAny (model X.prog X.w) X.A (pyIter v) (PIE X b a d R) X.xe c) X.xe s
theorem Em{s:Shared}{o:Obj}(e:s.heap.get? it=some o)(b:o.cls= .type n)(c:o.data= .fields vs)(d:Uy.contains n=false)(a:Q Unit.unit s):wpAny M A (letOwnedTupleGo f (.ref it) u) Q E s:=by
 unfold letOwnedTupleGo;cases f<;>first
  |exact QX a
  |(cases u<;>first
    |exact QX a
    |(refine Qi (wpAny_load e ?_)
      rw[b,c];show wpAny M A (if(Uy.contains n&&vs[0]?==some (rawInt _))=true then _ else _) Q E s;rw[Pb (by intro h;rw[d,Qv]at h;cases h)];exact QX a))
def Itl(K:Frag)(a:Addr):It:=
 #[λi H=>∃xs x,SqL K H a xs/\xs[i]?=some x,λi H x H'=>H'=H/\∀xs,SqL K H a xs->xs[i]?=some x,λi H=>∃xs,SqL K H a xs/\xs.length<=i]
def Itt(K:Frag)(a:Addr):It:=
 #[λi H=>∃xs x,SqT K H a xs/\xs[i]?=some x,λi H x H'=>H'=H/\∀xs,SqT K H a xs->xs[i]?=some x,λi H=>∃xs,SqT K H a xs/\xs.length<=i]
def Itr(a:Int)(n:Nat):It:=#[λi _=>i<n,λi H x H'=>H'=H/\x= .int (a+i),λi _=>n<=i]
theorem EN{P:Program}{w:World}{K:Frag}{tg:Expr}(a it:Addr):Turn P w K tg (Itl K a) [it] it (λi h=>h.IsListIter it a i) where
 mem:=#[5]
 obj:=λi h st b f=>by
  have e:b=it:=#[5,f]
  subst e;obtain⟨o,e,c,d⟩:=st;exact#[o,e,λv z=>by rw[d]at z;cases z]
 keep:=λi h h' st k=>st.at λo e=>k it #[5] o e
 item:=by intro X r y q B i G s L H E I g st t;subst r y q;obtain⟨xs,x,j,hx⟩:=t;obtain⟨Q,A,p,hz⟩:=I.list j;obtain⟨u,O,U⟩:=A.get hx;obtain⟨f0,f1,f2,l,m,n⟩:=g it #[5];refine wpAny_pyNext_list_item st p.isList (x:=u) #[5,O] λh' J sb=> ?_;have M:Inv X G L H {s with heap:=h'}:=I.turned (t':=s.toks) (λb o f e=>(sb.2 b f).trans e) f0 f1 l m n;obtain⟨o,e,c,d⟩:=id J;exact#[u,2,Em (s:={s with heap:=h'}) e c d ∅ #[x,H,M,U,#[2,λys hy=>by rw[I.list_inj hy j];exact hx],J,λb f=>(g b f).1]]
 done:=by intro X r y q B i G s L H E I g st t;subst r y q;obtain⟨xs,j,hx⟩:=t;obtain⟨Q,A,p,hz⟩:=I.list j;obtain⟨f0,f1,f2,l,m,n⟩:=g it #[5];have hl:=A.length;exact wpAny_pyNext_list_end (I.ok.hd B) st p.isList (by simp;lia) λh' N=>#[2,I.turned (t':=s.toks) (λb o f e=>N b o f e) f0 f1 l m n]
 self:=λ_ _ _ _ _ st h=>wpAny_pyIter_listiter st h
theorem Cc{P:Program}{w:World}{K:Frag}{tg:Expr}(a it:Addr):Turn P w K tg (Itt K a) [it] it (λi h=>h.IsTupleIter it a i) where
 mem:=#[5]
 obj:=λi h st b f=>by
  have e:b=it:=#[5,f]
  subst e;obtain⟨o,e,c,d⟩:=st;exact#[o,e,λv z=>by rw[d]at z;cases z]
 keep:=λi h h' st k=>st.at λo e=>k it #[5] o e
 item:=by intro X r y q G i J s M H E I g st t;subst r y q;obtain⟨xs,x,j,hx⟩:=t;obtain⟨A,B,p,hz⟩:=I.tuple j;obtain⟨u,Q,U⟩:=B.get hx;obtain⟨f0,f1,f2,l,m,n⟩:=g it #[5];refine wpAny_pyNext_tuple_item st (show s.heap.IsTuple a A.toArray from p) (x:=u) #[5,Q] λh' L sb=> ?_;have N:Inv X J M H {s with heap:=h'}:=I.turned (t':=s.toks) (λb o f e=>(sb.2 b f).trans e) f0 f1 l m n;obtain⟨o,e,c,d⟩:=id L;exact#[u,2,Em (s:={s with heap:=h'}) e c d ∅ #[x,H,N,U,#[2,λys hy=>by rw[I.tuple_inj hy j];exact hx],L,λb f=>(g b f).1]]
 done:=by intro X r y q G i J s M H E I g st t;subst r y q;obtain⟨xs,j,hx⟩:=t;obtain⟨A,B,p,hz⟩:=I.tuple j;obtain⟨f0,f1,f2,l,m,n⟩:=g it #[5];have hl:=B.length;exact wpAny_pyNext_tuple_end (I.ok.hd G) st (show s.heap.IsTuple a A.toArray from p) (by simp;lia) λh' O=>#[2,I.turned (t':=s.toks) (λb o f e=>O b o f e) f0 f1 l m n]
 self:=λ_ _ _ _ _ st h=>wpAny_pyIter_tupleiter st h
theorem Cd{P:Program}{w:World}{K:Frag}{L:Expr}(it:Addr)(d:Int)(n:Nat):Turn P w K L (Itr d n) [it] it (λi h=>IsRangeIter h it (d+(i:Nat)*1) ((n:Int) - (i:Nat)) 1) where
 mem:=#[5]
 obj:=λi h st b a=>by
  have e:b=it:=#[5,a]
  subst e;exact#[_,st,λv z=>by have M:Data.fields _=Data.cell v:=z;cases M]
 keep:=λi h h' st k=>k it #[5] _ st
 item:=by intro X m r l p i u s A H E I c st q;subst m r l;obtain⟨f0,f1,f2,f,g,j⟩:=c it #[5];have W:=Walks.range (prog:=X.prog) (w:=X.w) (I.ok.hd p) it d 1 n;refine W.item i s _ _ q st λv h' y hv x J=> ?_;obtain⟨t,rfl⟩:=hv;have B:Inv X u A H {s with heap:=h',toks:=y}:=I.turned (λb o a e=>J b o #[5,a] e) f0 f1 f g j;refine#[7,Em (s:={s with heap:=h',toks:=y}) (n:= Vl) x rfl rfl ∅ #[.int (d+i),H,B,#[t,6],#[22],x,λb a=>(c b a).1]];rw[Ri]
 done:=by intro X m r l p i u s A H E I c st q;subst m r l;obtain⟨f0,f1,f2,f,g,j⟩:=c it #[5];exact wpAny_pyNext_range_end (I.ok.hd p) st (by have:n<=i:=q;lia) λh' G=>#[2,I.turned (t':=s.toks) (λb o a e=>G b o a e) f0 f1 f g j]
 self:=λ_ _ _ _ _ st h=>S3 st h
section
variable{X:Cx}{tg:Expr}
inductive RdL(K:Frag)(R:It->Hp->Prop)(x:V)(H:Hp):Prop
 |mk(a:Addr) (e:x= .ref a) (s:∃xs,SqL K H a xs) (q:R (Itl K a) H):RdL K R x H
def JB(K:Frag)(a:TE):TI:=λb H R=>a b H (RdL K R)
def ND(K:Frag)(c:TE):TI:=λd H R=>c d H λx b=>∃a,x= .ref a/\(∃xs,SqT K b a xs)/\R (Itt K a) b
theorem K9(hl:PE X l tl):PI X tg l (JB X.K tl):=by
 intro j s n H R I h;refine thn (hl j s n H _ I h) λv d ⟨x,f,c,m,k⟩=> ?_;obtain⟨a,e,⟨xs,i⟩,q⟩:=k;subst e;cases m;obtain⟨t,u,p,r⟩:=c.list i;refine wpAny_pyIter_list p.isList ?_;refine#[d.heap.objs.size,[d.heap.objs.size],11,f,2,c.kept (t':=d.toks) λb o e=>Qe _ e,EN a _,#[_,QK _ rfl,22],λb g=> ?_,q];have e:b=d.heap.objs.size:=#[5,g]
 subst e;exact c.fpOk (Pu _) (c.hok.fresh (Pu _))
theorem M8(hl:PE X l tl):PI X tg l (ND X.K tl):=by
 intro k s r H R I h;refine thn (hl k s r H _ I h) λv c ⟨x,f,d,n,m⟩=> ?_;obtain⟨a,e,⟨xs,i⟩,q⟩:=m;subst e;cases n;obtain⟨j,u,p,t⟩:=d.tuple i;refine wpAny_pyIter_tuple (show c.heap.IsTuple a j.toArray from p) ?_;refine#[c.heap.objs.size,[c.heap.objs.size],11,f,2,d.kept (t':=c.toks) λb o e=>Qe _ e,Cc a _,#[_,QK _ rfl,22],λb g=> ?_,q];have e:b=c.heap.objs.size:=#[5,g]
 subst e;exact d.fpOk (Pu _) (d.hok.fresh (Pu _))
theorem AH{f:St}{s:Shared}{a c:Int}(I:Inv X g f H s)(j: -(2^62)<=a)(k:a<2^62)(l: -(2^62)<=c)(m:c<2^62)(q:R (Itr a (c-a).toNat) H):wpAny (model X.prog X.w) X.A (pyIter (.ref s.heap.objs.size)) (PIE X g f tg R) E {s with heap:=s.heap.push {cls:= .type Vn,data:= .fields #v[.int a t, .int c u, .int 1 v]},toks:=tk}:=by
 refine wpAny_pyIter_range (IsRange.new ..) (small_one j k l m) ?_;have d:Inv X g f H {s with heap:=s.heap.push {cls:= .type Vn,data:= .fields #v[.int a t, .int c u, .int 1 v]},toks:=tk}:=I.kept λb o e=>Qe _ e;refine#[(s.heap.push {cls:= .type Vn,data:= .fields #v[.int a t, .int c u, .int 1 v]}).objs.size,[(s.heap.push {cls:= .type Vn,data:= .fields #v[.int a t, .int c u, .int 1 v]}).objs.size],11,H,2,
  d.kept (t':=tk) λb o e=>Qe _ e,Cd _ a (c-a).toNat,6,λb n=> ?_,q]
 .have h:a+((0:Nat):Int)*1=a:=#[5]
  have i:(((c-a).toNat:Nat):Int) - ((0:Nat):Int)=Builtin.Range.rangeSize a c 1:=by rw[rangeSize_one];split<;>lia
  show IsRangeIter _ _ (a+((0:Nat):Int)*1) ((((c-a).toNat:Nat):Int) - ((0:Nat):Int)) 1;rw[h,i];exact QK _ rfl
 .have e:b=(s.heap.push {cls:= .type Vn,data:= .fields #v[.int a t, .int c u, .int 1 v]}).objs.size:=#[5,n]
  subst e;exact d.fpOk (Pu _) (d.hok.fresh (Pu _))
def Mr(b:TA):TI:=λc H R=>b c H λvs a=>∃j:Int,vs=[.int j]/\ -(2^62)<=j/\j<2^62/\R (Itr 0 j.toNat) a
def Ow(b:TA):TI:=λc H R=>b c H λvs a=>∃i j:Int,vs=[.int i, .int j]/\(-(2^62)<=i/\i<2^62/\ -(2^62)<=j/\j<2^62)/\R (Itr i (j-i).toNat) a
theorem Ft{a:Expr}{c:TA}{p pos:Pos}(g:Gl X Vn)(i:X.mg Vn=none)(f:PA X [a] c)(k:starEach [a] X.env=[(false,eval a X.env)]:=by rfl):PI X tg (.Call (.Name Vn p) [a] [] pos) (Mr c):=by
 intro l s u H R I h;refine Call_ (kq I g i boot_range (Q4 (thn (f pos l s u H _ I h) λus w ⟨vs,v,d,n,b⟩=> ?_) k rfl));obtain⟨j,e,b,m,q⟩:=b;subst e;cases n with
 |cons r o=>
  cases o;obtain⟨t,rfl⟩:=r;exact call_range_1 (AH d () () b m #[5,q])
theorem Fs{a b:Expr}{g:TA}{p pos:Pos}(m:Gl X Vn)(n:X.mg Vn=none)(l:PA X [a,b] g)(o:starEach [a,b] X.env=[(false,eval a X.env),(false,eval b X.env)]:=by rfl)(f:starEach [b] X.env=[(false,eval b X.env)]:=by rfl):
  PI X tg (.Call (.Name Vn p) [a,b] [] pos) (Ow g):=by
 intro u s A H R I h;refine Call_ (kq I m n boot_range (Q4 (thn (l pos u s A H _ I h) λus G ⟨vs,B,k,z,c⟩=> ?_) (by rw[o,f]) (by rw[f];rfl)));obtain⟨i,j,e,⟨c,v,w,x⟩,q⟩:=c;subst e;cases z with
 |cons r d=>
  cases d with
  |cons y d=>
   cases d;obtain⟨t,rfl⟩:=r;obtain⟨t',rfl⟩:=y;exact call_range_2 (AH k c v w x q)
def N4(h:TI)(g:TG)(f:TS):TS:=λD a H=>h a H λJ d=>∃W:Nat->Nat->St->Hp->Prop,(∃m,W 0 m a d)/\∀i m a H,W i m a H->
 (J.stop i H/\D.nx a H)\/(J.go i H/\∃N:St->Hp->Prop,(∀c H',N c H'->∃b,b<m/\W (i+1) b c H')/\∀x H',J.yld i H x H'->g x a H' λj e=>f {D with nx:=N,ct:=N,bk:=D.nx} j e)
def ud(a:List Addr)(h:Heap):List (Addr×Obj):=a.filterMap λb=>(h.get? b).map λo=>(b,o)
theorem k4{h:Heap}(a:b∈fp)(e:h.get? b=some o):(b,o)∈ud fp h:=List.mem_filterMap.mpr #[b,a,by rw[e];rfl]
theorem FK{h:Heap}(d:p∈ud fp h):p.1∈fp/\h.get? p.1=some p.2:=by
 obtain⟨b,c,e⟩:=List.mem_filterMap.mp d;cases q:h.get? b with
 |none=>rw[q]at e;cases e
 |some o=>
  rw[q]at e;have a:(b,o)=p:=Qq e;subst a;exact#[c,q]
theorem Inv.pinned{g:St}{s:Shared}(I:Inv X pins g H s)(h:∀b∈c,zH X pins H b)(i:∀b∈c,∃o,s.heap.get? b=some o/\∀v,o.data≠ .cell v):Inv X (pins++ud c s.heap) g H s:=
 I.pins_of λp j=>(Pz.mp j).elim (λz=>I.pin p (Qj _ z)) λz=>by obtain⟨f,e⟩:=FK z;obtain⟨f0,f1,f2,_⟩:=h p.1 f;obtain⟨o,a,d⟩:=i p.1 f;rw[e]at a;cases a;exact#[e,f0,f1,f2,d]
theorem Inv.unpinned{a:St}(I:Inv X (pins++pl) a H s):Inv X pins a H s:=I.pins_of λp b=>I.pin p (Qj _ (Rf _ b))
theorem MY{iter:Expr}{U:List Stmt}{wi:TI}{g:TG}{tb:TS}{pos:Pos}(t:PassesOwn (model X.prog X.w) X.A X.env X.xe)(hc:X.calm=true)(hi:PI X tg iter wi)(hg:PG X tg g)(j:PSs X U tb)(hs:∀x,foldedSetIterable iter X.env x=pure x:=by intro _;rfl):PS X (.For tg iter U [] pos) (N4 wi g tb):=by
 intro p s σ H D I h;refine wpAny_For (thn (hi p s σ H _ I h) λv s1 h1=>thn h1 λcK s2 h2=> ?_) hs;obtain⟨it,q,tn,J,H2,e,I2,T,cm,f2,W,⟨m0,w0⟩,turn⟩:=h2;subst e;have M:∀ {H':Hp},(∀b∈q,H' b=none)->∀b∈q,zH X p H' b:=λhn b j=>#[hn b j,(f2 b j).2];refine codeAny_forLoop_any (λn s'=>∃i z H',Inv X p z H' s'/\tn i s'.heap/\(∀b∈q,H' b=none)/\W i n z H') ?_ m0 #[0,σ,H2,I2,cm,λb j=>(f2 b j).1,w0];rintro n s3 ⟨i,B,G,Q,az,ag,w3⟩;rcases turn i n B G w3 with ⟨stop,qn⟩|⟨go,N,hN,step⟩
 .refine R0 t (thn (T.done X rfl rfl rfl hc i p s3 B G X.xe Q (M ag) az stop) λr s4 ⟨K,I4⟩=> ?_);subst K;exact To #[B,G,I4,qn]
 .refine R0 t (thn (T.item X rfl rfl rfl hc i p s3 B G X.xe Q (M ag) az go) λr s4 ⟨u,K,h4⟩=> ?_);subst K;refine R0 t (thn h4 λ_ s5 ⟨x,O,I5,r5,y5,L,bA⟩=> ?_);have bt:=I5.pinned (M bA) (T.obj _ _ L);refine R0 t (thn (hg _ s5 B O x u _ bt r5 (step x O y5)) λ_ s6 ⟨cE,H6,I6,q6⟩=> ?_);refine R0 t (thn (j _ s6 cE H6 _ I6 q6) λf s7 l=> ?_);have again:∀ {k:St} {a:Hp},Inv X (p++ud q s5.heap) k a s7->N k a->∃m,m<n/\∃i z H',Inv X p z H' s7/\tn i s7.heap/\(∀b∈q,H' b=none)/\W i m z H':=λ{k a} c y=>by obtain⟨m',hm,w7⟩:=hN k a y;refine#[m',hm,i+1,k,a,c.unpinned,T.keep _ _ _ L λb j o e=>(c.pin (b,o) (Qj _ (Qj _ (k4 j e)))).1,λb j=> ?_,w7];obtain⟨o,e,d⟩:=T.obj _ _ L b j;exact(c.pin (b,o) (Qj _ (Qj _ (k4 j e)))).2.1
  cases f with
  |next=>obtain⟨k,a,c,y⟩:=l;exact again c y
  |cont=>obtain⟨k,a,c,y⟩:=l;exact again c y
  |brk=>obtain⟨k,a,c,l⟩:=l;exact#[k,a,c.unpinned,l]
  |ret v=>obtain⟨x7,k,a,c,r7,l⟩:=l;exact#[x7,k,a,c.unpinned,r7,l]
end
theorem cY{K:Frag}{xs:List V}{g:TG}{l:TS}{D:Ends}(Pv:Nat->St->Hp->Prop)(n:Pv 0 b H)(hl:∀i b H,i<=xs.length->Pv i b H->SqL K H a xs)(r:∀i x b H,xs[i]?=some x->Pv i b H->g x b H λh d=>l {D with nx:=Pv (i+1),ct:=Pv (i+1),bk:=D.nx} h d)(o:∀b H,Pv xs.length b H->D.nx b H):
  ∃W:Nat->Nat->St->Hp->Prop,(∃m,W 0 m b H)/\∀i m b H,W i m b H->
   ((Itl K a).stop i H/\D.nx b H)\/((Itl K a).go i H/\∃N:St->Hp->Prop,(∀f H',N f H'->∃k,k<m/\W (i+1) k f H')/\∀x H',(Itl K a).yld i H x H'->g x b H' λh d=>l {D with nx:=N,ct:=N,bk:=D.nx} h d):=by
 refine#[λi m b H=>m=xs.length-i/\i<=xs.length/\Pv i b H,#[xs.length,#[5],Qu _,n],6];rintro i m b H ⟨rfl,j,p⟩;have q:=hl i b H j p;by_cases c:i<xs.length
 .refine .inr #[#[xs,xs[i],q,by simp[c]],Pv (i+1),λf H' s=>#[xs.length- (i+1),QN c (QL _),2,c,s],λx H' y=> ?_];obtain⟨e,y⟩:=y;subst e;exact r i x b _ (y xs q) p
 .have e:i=xs.length:=QR j (QM c);subst e;exact .inl #[#[xs,q,Pu _],o b H p]
theorem dz{c:Int}{g:TG}{k:TS}{D:Ends}(Pv:Nat->St->Hp->Prop)(l:Pv 0 a H)(r:∀i a H,i<n->Pv i a H->g (.int (c+i)) a H λh d=>k {D with nx:=Pv (i+1),ct:=Pv (i+1),bk:=D.nx} h d)(o:∀a H,Pv n a H->D.nx a H):
  ∃W:Nat->Nat->St->Hp->Prop,(∃m,W 0 m a H)/\∀i m a H,W i m a H->
   ((Itr c n).stop i H/\D.nx a H)\/((Itr c n).go i H/\∃N:St->Hp->Prop,(∀f H',N f H'->∃j,j<m/\W (i+1) j f H')/\∀x H',(Itr c n).yld i H x H'->g x a H' λh d=>k {D with nx:=N,ct:=N,bk:=D.nx} h d):=by
 refine#[λi m a H=>m=n-i/\i<=n/\Pv i a H,#[n,#[5],Qu _,l],6];rintro i m a H ⟨rfl,q,p⟩;by_cases b:i<n
 .refine .inr #[b,Pv (i+1),λf H' s=>#[n- (i+1),QN b (QL _),2,b,s],λx H' y=> ?_];obtain⟨e,y⟩:=y;subst e y;exact r i a _ b p
 .have e:i=n:=QR q (QM b);subst e;exact .inl #[Pu _,o a H p]
abbrev R2:=V->V->Hp->VK->Prop
def OpR(X:Cx)(f:Value->Value->Sem Value)(r:R2):Prop:=
 ∀(a:List (Addr×Obj)) (s:Shared) (b:St) (H:Hp) (x y:V) (v u:Value) (Q:VK),Inv X a b H s->bY x v->bY y u->r x y H Q->
  wpAny (model X.prog X.w) X.A (f v u) (EP X a b Q) X.xe s
def UnR(X:Cx)(f:Value->Sem Value)(r:V->Hp->VK->Prop):Prop:=
 ∀(a:List (Addr×Obj)) (s:Shared) (b:St) (H:Hp) (x:V) (v:Value) (Q:VK),Inv X a b H s->bY x v->r x H Q->
  wpAny (model X.prog X.w) X.A (f v) (EP X a b Q) X.xe s
def gg(X:Cx)(f:Value)(r:List V->Hp->VK->Prop):Prop:=
 ∀(a:List (Addr×Obj)) (s:Shared) (b:St) (H:Hp) (xs:List V) (us:List Value) (Q:VK),Inv X a b H s->Vals xs us->r xs H Q->
  wpAny (model X.prog X.w) X.A (call f us) (EP X a b Q) X.xe s
def O5(X:Cx)(r:V->Hp->(Bool->Hp->Prop)->Prop):Prop:=
 ∀(a:List (Addr×Obj)) (s:Shared) (b:St) (H:Hp) (x:V) (v:Value) (Q:Bool->Hp->Prop),Inv X a b H s->bY x v->r x H Q->
  wpAny (model X.prog X.w) X.A (truthy v) (TP X a b Q) X.xe s
def tOp(r:R2)(d e:TE):TE:=λa H Q=>d a H λx b=>e a b λy c=>r x y c Q
def tUn(r:V->Hp->VK->Prop)(b:TE):TE:=λc H Q=>b c H λx a=>r x a Q
inductive RdI(C:Int->Int->Prop)(g:Int->Int->V)(x y:V)(H:Hp)(Q:VK):Prop
 |mk(i j:Int) (e1:x= .int i) (e2:y= .int j) (c:C i j) (q:Q (g i j) H):RdI C g x y H Q
def rI(C:Int->Int->Prop)(g:Int->Int->V):R2:=λx y H Q=>RdI C g x y H Q
inductive OH(g:Int->Int->V)(x y:V)(H:Hp)(Q:VK):Prop
 |mk(i j:Int) (e1:x= .int i) (e2:y= .int j) (q:Q (g i j) H):OH g x y H Q
def rI0(g:Int->Int->V):R2:=λx y H Q=>OH g x y H Q
def rU(g:Int->V):V->Hp->VK->Prop:=λx H Q=>∃i,x= .int i/\Q (g i) H
section
variable{X:Cx}{a b c:Expr}{ta tb tc:TE}{pos:Pos}
theorem NS(l:PE X a ta)(m:PE X b tb){e:St}{R:V->V->Hp->Prop}(I:Inv X pins e H s)(h:ta e H λx i=>tb e i λy d=>R x y d){f:Value->Value->Sem Value}(n:∀v u g x y d,Inv X pins e d g->bY x v->bY y u->R x y d->wpAny (model X.prog X.w) X.A (f v u) Q X.xe g):
  wpAny (model X.prog X.w) X.A (eval a X.env) (λv z=>wpAny (model X.prog X.w) X.A (eval b X.env) (λu B=>wpAny (model X.prog X.w) X.A (f v u) Q X.xe B) X.xe z) X.xe s:=by
 refine thn (l pins s e H _ I h) λv t ⟨x,i,j,q,o⟩=> ?_;refine thn (m pins t e i _ j o) λu g ⟨y,d,k,r,p⟩=> ?_;exact n v u g x y d k q r p
theorem aB(i:OpR X (binaryOp op) r)(f:PE X a ta)(g:PE X b tb):PE X (.BinOp a op b pos) (tOp r ta tb):=by intro j s n H Q I h;exact wpAny_BinOp (NS f g I h λv u m x y d e k l q=>i j m n d x y v u Q e k l q)
theorem jW(j:UnR X (unaryOp op) r)(i:PE X a ta):PE X (.UnaryOp op a pos) (tUn r ta):=by intro d s e H Q I h;exact UnaryOp_ (thn (i d s e H _ I h) λv m ⟨x,f,g,l,k⟩=>j d m e f x v Q g l k)
theorem opI{g:Int->Int->Int}(rule:∀(i j:Int)(t u:Tok)(s:Shared)(Q:Value->Shared->Prop)(E:Value->Shared->Prop),C i j->Q (.int (g i j) s.toks) {s with toks:=s.toks+1}->wpAny (model X.prog X.w) X.A (f (.int i t) (.int j u)) Q E s):
  OpR X f (rI C λi j=> .int (g i j)):=by
 intro l s m H x y v u Q I e k h;obtain⟨i,j,rfl,rfl,d,q⟩:=h;obtain⟨t,rfl⟩:=e;obtain⟨t',rfl⟩:=k;exact rule i j t t' s _ _ d #[.int (g i j),H,I.tok _,#[7],q]
theorem IF{g:Int->Int->Int}(rule:∀(i j:Int)(t u:Tok)(s:Shared)(Q:Value->Shared->Prop)(E:Value->Shared->Prop),Q (.int (g i j) s.toks) {s with toks:=s.toks+1}->wpAny (model X.prog X.w) X.A (f (.int i t) (.int j u)) Q E s):
  OpR X f (rI0 λi j=> .int (g i j)):=by
 intro k s l H x y v u Q I d e h;obtain⟨i,j,rfl,rfl,q⟩:=h;obtain⟨t,rfl⟩:=d;obtain⟨t',rfl⟩:=e;exact rule i j t t' s _ _ #[.int (g i j),H,I.tok _,#[7],q]
theorem Nl{g:Int->Int->Bool}(rule:∀(i j:Int)(t u:Tok)(s:Shared)(Q:Value->Shared->Prop)(E:Value->Shared->Prop),Q (.bool (g i j)) s->wpAny (model X.prog X.w) X.A (f (.int i t) (.int j u)) Q E s):
  OpR X f (rI0 λi j=> .bl (g i j)):=by
 intro k s l H x y v u Q I d e h;obtain⟨i,j,rfl,rfl,q⟩:=h;obtain⟨t,rfl⟩:=d;obtain⟨t',rfl⟩:=e;exact rule i j t t' s _ _ #[.bl (g i j),H,I,2,q]
def Pa(i j:Int):Prop:=0<j/\j<1073741824
def O9(i j:Int):Prop:=0<=j/\j<=1000000/\i.natAbs<2^64
def NU(i j:Int):Prop:=(-(2^64)<i/\i<2^64)\/(-(2^64)<j/\j<2^64)
theorem NU.ok(h:NU i j):IntMulOk i j:=by
 rcases h with ⟨d,e⟩|⟨d,e⟩
 .exact .of_left (intBits_le_64 d e)
 .exact .of_right (intBits_le_64 d e)
theorem ou(k:Nat):(0:Int)<=2^k:=by rw[two_pow_cast];exact QT _
theorem dJ:OpR X (binaryOp .Add) (rI0 λi j=> .int (i+j)):=IF λ_ _ _ _ _ _ _ q=>add_int q
theorem gs:OpR X (binaryOp .Sub) (rI0 λi j=> .int (i-j)):=IF λ_ _ _ _ _ _ _ q=>sub_int q
theorem eg:OpR X (binaryOp .Mult) (rI NU λi j=> .int (i*j)):=opI λ_ _ _ _ _ _ _ d q=>mul_int q d.ok
theorem iq:OpR X (binaryOp .FloorDiv) (rI Pa λi j=> .int (i/j)):=opI λi j _ _ _ _ _ d q=>by have e:(0:Int)<j:=d.1;have f:j<1073741824:=d.2;exact floordiv_int () (by rw[TY i ()];exact q) (.inl (PyProof.noPylong_small ()))
theorem bI:OpR X (binaryOp .Mod) (rI (λ_ j=>0<j) λi j=> .int (i % j)):=opI λi j _ _ _ _ _ d q=>by have e:(0:Int)<j:=d;exact mod_int' () (by rw[Int.fmod_eq_emod_of_nonneg i ()];exact q)
theorem gu:OpR X (binaryOp .LShift) (rI O9 λi j=> .int (i*2^j.toNat)):=opI λ_ _ _ _ _ _ _ d q=>lshift_int_small d.1 d.2.1 d.2.2 q
theorem mD:OpR X (binaryOp .RShift) (rI (λ_ j=>0<=j) λi j=> .int (i/2^j.toNat)):=opI λi j _ _ _ _ _ d q=>
 rshift_int d (by rw[TY i (ou _)];exact q)
theorem gv:OpR X (binaryOp .BitAnd) (rI0 λi j=> .int (Builtin.bitAnd i j)):=IF λ_ _ _ _ _ _ _ q=>and_int q
theorem pW:OpR X (binaryOp .BitOr) (rI0 λi j=> .int (Builtin.bitOr i j)):=IF λ_ _ _ _ _ _ _ q=>or_int q
theorem ID:OpR X (binaryOp .BitXor) (rI0 λi j=> .int (Builtin.bitXor i j)):=IF λ_ _ _ _ _ _ _ q=>xor_int q
theorem unI{g:Int->Int}(rule:∀(i:Int)(t:Tok)(s:Shared)(Q:Value->Shared->Prop)(E:Value->Shared->Prop),Q (.int (g i) s.toks) {s with toks:=s.toks+1}->wpAny (model X.prog X.w) X.A (f (.int i t)) Q E s):
  UnR X f (rU λi=> .int (g i)):=by
 intro e s j H x v Q I d h;obtain⟨i,rfl,q⟩:=h;obtain⟨t,rfl⟩:=d;exact rule i t s _ _ #[.int (g i),H,I.tok _,#[7],q]
theorem iE:UnR X (unaryOp .USub) (rU λi=> .int (-i)):=unI λ_ _ _ _ _ q=>neg_int q
theorem MB:UnR X (unaryOp .Invert) (rU λi=> .int (Builtin.bitNot i)):=unI λ_ _ _ _ _ q=>invert_int q
end
def scal:V->V->Bool
 | .non, .non=>true| .non, .int _=>true| .int _, .non=>true| .non, .bl _=>true| .bl _, .non=>true| .non, .str _=>true| .str _, .non=>true
 | .int _, .int _=>true| .bl _, .bl _=>true| .str _, .str _=>true| .byt _, .byt _=>true
 | .int _, .str _=>true| .str _, .int _=>true| .bl _, .str _=>true| .str _, .bl _=>true
 |_,_=>false
def rEq:R2:=λx y H Q=>scal x y=true/\Q (.bl (decide (x=y))) H
def rNe:R2:=λx y H Q=>scal x y=true/\Q (.bl (!decide (x=y))) H
theorem a8:decide (V.int i=V.int j)=(i==j):=by rw[Q8];simp
theorem JX:decide (V.bl i=V.bl j)=(i==j):=by rw[Q8];simp
theorem Es:decide (V.str i=V.str j)=(i==j):=by rw[Q8];simp
theorem Et{i j:Array UInt8}:decide (V.byt i=V.byt j)=(i.toList==j.toList):=by rw[Q8];cases i;cases j;simp
section
variable{X:Cx}{a b c:Expr}{ta tb tc:TE}{pos:Pos}
theorem bT{d:St}(I:Inv X pins d H s)(q:Q (.bl k) H)(e:k=k'):EP X pins d Q (.bool k') s:=by subst e;exact#[.bl k,H,I,2,q]
theorem a7:OpR X (compareOp .Eq) rEq:=by
 intro g s k H x y v u Q I f d h;obtain⟨e,q⟩:=h;cases x with
 |non=>
  cases f;cases y with
  |non=>cases d;exact PySem.EqNone.eq_none_none (bT I q #[5])
  |bl j=>cases d;exact PySem.EqNone.eq_none_bool (bT I q #[5])
  |int j=>obtain⟨t',rfl⟩:=d;exact PySem.EqNone.eq_none_int (bT I q #[5])
  |str j=>obtain⟨t',rfl⟩:=d;exact PySem.EqNone.eq_none_str (bT I q #[5])
  |_=>exact absurd (show false=true from e) PQ
 |bl i=>
  cases f;cases y with
  |non=>cases d;exact PySem.EqNone.eq_bool_none (bT I q #[5])
  |bl j=>cases d;exact eq_bool (bT I q JX)
  |str j=>obtain⟨t',rfl⟩:=d;exact PySem.EqMixed.eq_bool_str (bT I q #[5])
  |_=>exact absurd (show false=true from e) PQ
 |int i=>
  obtain⟨t,rfl⟩:=f;cases y with
  |non=>cases d;exact PySem.EqNone.eq_int_none (bT I q #[5])
  |int j=>obtain⟨t',rfl⟩:=d;exact eq_int (bT I q a8)
  |str j=>obtain⟨t',rfl⟩:=d;exact PySem.EqMixed.eq_int_str (bT I q #[5])
  |_=>exact absurd (show false=true from e) PQ
 |str i=>
  obtain⟨t,rfl⟩:=f;cases y with
  |non=>cases d;exact PySem.EqNone.eq_str_none (bT I q #[5])
  |bl j=>cases d;exact PySem.EqMixed.eq_str_bool (bT I q #[5])
  |int j=>obtain⟨t',rfl⟩:=d;exact PySem.EqMixed.eq_str_int (bT I q #[5])
  |str j=>obtain⟨t',rfl⟩:=d;exact eq_str (bT I q Es)
  |_=>exact absurd (show false=true from e) PQ
 |byt i=>
  obtain⟨t,rfl⟩:=f;cases y with
  |byt j=>obtain⟨t',rfl⟩:=d;exact PySem.W.eq_bytes (bT I q Et)
  |_=>exact absurd (show false=true from e) PQ
 |_=>cases y<;>exact absurd (show false=true from e) PQ
theorem iB:OpR X (compareOp .NotEq) rNe:=by
 intro g s k H x y v u Q I f d h;obtain⟨e,q⟩:=h;cases x with
 |non=>
  cases f;cases y with
  |non=>cases d;exact PySem.EqNone.ne_none_none (bT I q #[5])
  |bl j=>cases d;exact PySem.EqNone.ne_none_bool (bT I q #[5])
  |int j=>obtain⟨t',rfl⟩:=d;exact PySem.EqNone.ne_none_int (bT I q #[5])
  |str j=>obtain⟨t',rfl⟩:=d;exact PySem.EqNone.ne_none_str (bT I q #[5])
  |_=>exact absurd (show false=true from e) PQ
 |bl i=>
  cases f;cases y with
  |non=>cases d;exact PySem.EqNone.ne_bool_none (bT I q #[5])
  |bl j=>cases d;exact ne_bool (bT I q (Qd not JX))
  |str j=>obtain⟨t',rfl⟩:=d;exact PySem.EqMixed.ne_bool_str (bT I q #[5])
  |_=>exact absurd (show false=true from e) PQ
 |int i=>
  obtain⟨t,rfl⟩:=f;cases y with
  |non=>cases d;exact PySem.EqNone.ne_int_none (bT I q #[5])
  |int j=>obtain⟨t',rfl⟩:=d;exact ne_int (bT I q (Qd not a8))
  |str j=>obtain⟨t',rfl⟩:=d;exact PySem.EqMixed.ne_int_str (bT I q #[5])
  |_=>exact absurd (show false=true from e) PQ
 |str i=>
  obtain⟨t,rfl⟩:=f;cases y with
  |non=>cases d;exact PySem.EqNone.ne_str_none (bT I q #[5])
  |bl j=>cases d;exact PySem.EqMixed.ne_str_bool (bT I q #[5])
  |int j=>obtain⟨t',rfl⟩:=d;exact PySem.EqMixed.ne_str_int (bT I q #[5])
  |str j=>obtain⟨t',rfl⟩:=d;exact ne_str (bT I q (Qd not Es))
  |_=>exact absurd (show false=true from e) PQ
 |byt i=>
  obtain⟨t,rfl⟩:=f;cases y with
  |byt j=>obtain⟨t',rfl⟩:=d;exact PySem.W.ne_bytes (bT I q (Qd not Et))
  |_=>exact absurd (show false=true from e) PQ
 |_=>cases y<;>exact absurd (show false=true from e) PQ
theorem rF:OpR X (compareOp .Lt) (rI0 λi j=> .bl (decide (i<j))):=Nl λ_ _ _ _ _ _ _ q=>lt_int q
theorem pX:OpR X (compareOp .Gt) (rI0 λi j=> .bl (decide (j<i))):=Nl λ_ _ _ _ _ _ _ q=>gt_int q
theorem Oo:OpR X (compareOp .GtE) (rI0 λi j=> .bl (decide (j<=i))):=Nl λ_ _ _ _ _ _ _ q=>ge_int q
theorem Nk:OpR X (compareOp .Is) (λx y H Q=>y= .non/\Q (.bl (decide (x= .non))) H):=by
 intro f s g H x y v u Q I d e h;obtain⟨rfl,q⟩:=h;cases e;refine is_none_gen (bT I q ?_);cases x<;>first
  |(cases d;rfl)
  |(obtain⟨t,rfl⟩:=d;rfl)
theorem yy:OpR X (compareOp .IsNot) (λx y H Q=>y= .non/\Q (.bl (!decide (x= .non))) H):=by
 intro f s g H x y v u Q I d e h;obtain⟨rfl,q⟩:=h;cases e;refine isnot_none_gen (bT I q ?_);cases x<;>first
  |(cases d;rfl)
  |(obtain⟨t,rfl⟩:=d;rfl)
theorem nomark(b:Expr){d:CmpOp}(h:d≠ .In:=by decide)(g:d≠ .NotIn:=by decide):behindInMarks d b=false:=by
 have e:(d==CmpOp.In)=false:=by cases d<;>first|rfl|exact absurd rfl h
 have f:(d==CmpOp.NotIn)=false:=by cases d<;>first|rfl|exact absurd rfl g
 cases b<;>simp[behindInMarks,e,f]
theorem Le(j:OpR X (compareOp op) r)(f:PE X a ta)(g:PE X b tb)(i:behindInMarks op b=false):PE X (.Compare a [op] [b] pos) (tOp r ta tb):=by intro k s o H Q I h;exact wpAny_Compare1 (NS f g I h λv u n x y d e l m q=>j k n o d x y v u Q e l m q) i
def Mb(t:TE):TT:=λd H Q=>t d H (RdB Q)
theorem pR(t:OpR X (compareOp op) r)(o:PE X a ta)(p:PE X b tb)(q:behindInMarks op b=false):PT X (.Compare a [op] [b] pos) (Mb (tOp r ta tb)):=by
 intro d s f H Q I h;refine wpAny_isTrue_Compare1 (thn (o d s f H _ I h) λv L ⟨x,g,l,G,w⟩=>thn (p d L f g _ l w) λu M ⟨y,i,m,J,A⟩=>
  thn (t d M f i x y v u _ m G J A) λc N ⟨z,j,n,K,k,e,B⟩=> ?_) q
 subst e;cases K;exact R4 #[j,n,B]
def OG(K:Frag)(x:V)(H:Hp)(k:Bool):Prop:=
 match x with
 | .non=>k=false
 | .bl b=>k=b
 | .int i=>k=(i !=0)
 | .str y=>y.length<=sizeLine/\k=((y.length:Int) !=0)
 | .byt y=>y.size<=sizeLine/\k=((y.size:Int) !=0)
 | .ref p=>(∃xs,SqL K H p xs/\k= !xs.isEmpty)\/(∃xs,SqT K H p xs/\k= !xs.isEmpty)\/∃kvs,H p=some (.dK kvs)/\k= !kvs.isEmpty
 |_=>False
theorem CZ{kvs:List (κ×V)}{vs:List (κ×Value)}(r:KV kvs vs):(!vs.isEmpty)= !kvs.isEmpty:=by cases r<;>rfl
theorem uH{xs:List V}{d:List Value}(r:Vals xs d):(!d.toArray.isEmpty)= !xs.isEmpty:=by cases r<;>simp
theorem yK:(sizeLine:Nat)<2^63:=by rw[sizeLine_eq];decide
theorem MC:O5 X (λx H Q=>∃k,OG X.K x H k/\Q k H):=by
 intro A s B H x v Q I f h;obtain⟨k,e,q⟩:=h;have hl:=yK;have z:sizeLine=16777216:=sizeLine_eq;cases x with
 |non=>
  cases f;have d:k=false:=e;subst d;exact truthy_none #[H,I,q]
 |bl b=>
  cases f;have d:k=b:=e;subst d;exact R4 #[H,I,q]
 |int i=>
  obtain⟨t,rfl⟩:=f;have d:k=(i !=0):=e;subst d;exact PySem.P.truthy_int #[H,I,q]
 |str y=>
  obtain⟨t,rfl⟩:=f;obtain⟨o,d⟩:y.length<=sizeLine/\k=((y.length:Int) !=0):=e;subst d;exact PySem.P.truthy_str () #[H,I.tok _,q]
 |byt y=>
  obtain⟨t,rfl⟩:=f;obtain⟨o,d⟩:y.size<=sizeLine/\k=((y.size:Int) !=0):=e;subst d;exact PySem.W.truthy_bytes () #[H,I.tok _,q]
 |ref p=>
  cases f;have d:(∃xs,SqL X.K H p xs/\k= !xs.isEmpty)\/(∃xs,SqT X.K H p xs/\k= !xs.isEmpty)\/∃kvs,H p=some (.dK kvs)/\k= !kvs.isEmpty:=e;rcases d with ⟨xs,g,d⟩|⟨xs,g,d⟩|⟨kvs,g,d⟩
  .subst d;obtain⟨u,r,pl,l⟩:=I.list g;have j:=r.length;exact wpAny_truthy_list pl.isList (by simp only[Qh];lia) #[H,I.tok _,by rw[uH r];exact q]
  .subst d;obtain⟨u,r,pl,l⟩:=I.tuple g;have j:=r.length;exact truthy_tuple pl (by simp only[Qh];lia) #[H,I.tok _,by rw[uH r];exact q]
  .subst d;obtain⟨l,n,vs,r,m⟩:kvs.length<=sizeLine/\(p==sysModules)=false/\∃vs,KV kvs vs/\s.heap.DictOf (eu X.prog X.w) p vs:=I.hok p _ g;have j:kvs.length=vs.length:=S6 r;exact wpAny_truthy_dict n m () #[H,I.tok _,by rw[CZ r];exact q]
 |_=>exact(show False from e).elim
theorem Ij(i:PE X a ta)(j:∀whole,isTrue a X.env whole=(do let v<-whole;standAt a.pos;holding [v] (truthy v))):
  PT X a (λd H Q=>ta d H λx H'=>∃k,OG X.K x H' k/\Q k H'):=by
 intro e s d H Q I h;exact isTrue_plain (thn (i e s d H _ I h) λv n ⟨x,f,g,m,l⟩=>MC e n d f x v Q g m l) (j _)
theorem rp(r:Vals [x] us):∃u,us=[u]/\bY x u:=by
 cases r with
 |cons d e=>cases e;exact#[7,d]
theorem Ma(r:Vals [x,y] us):∃u d,us=[u,d]/\bY x u/\bY y d:=by
 cases r with
 |cons e f=>
  cases f with
  |cons g h=>cases h;exact#[17,e,g]
theorem GC(e:X.calm=true):gg X (.builtin "min") (λxs H Q=>∃i j,xs=[.int i, .int j]/\Q (.int (if j<i then j else i)) H):=by
 intro f s m H xs us Q I r h;obtain⟨i,j,rfl,q⟩:=h;obtain⟨u,l,rfl,⟨t,rfl⟩,⟨t',rfl⟩⟩:=Ma r;refine min_two_ints (I.ok.hd e) λh' g k=>#[_,H,I.kept k,6,q];by_cases d:j<i
 .rw[Pd d,Pd d];exact#[7]
 .rw[Pb d,Pb d];exact#[7]
end
structure Dw(h:Heap)(x dx C:Addr)(mA:Str->Option Value):Prop where
 obj:h.get? x=some (instObj C dx)
 ns:h.Ns1 dx mA
 ne:dx≠x
theorem FZ{h:Heap}(n:h.Ns1 dx mA):∃c,h.get? dx=some c/\∀name,lookIn name c=some (mA name):=by
 obtain⟨o,b,ep,k,f,g,_,j⟩:=n;refine#[o,k,λname=> ?_];have e:=j name;unfold nsFind findBy at e;rw[<-Array.find?_toList]at e;unfold lookIn;rw[f];dsimp only;split
 .rename_i y q;rw[q]at e;exact Qd some e
 .rename_i q;rw[q]at e;have a:b.toList.any (·.refKey)=false:=by rw[List.any_eq_false];intro y l;obtain⟨z,t,i⟩:=g y (Array.mem_toList_iff.mp l);simp[DictEntry.refKey,i]
  have d:¬b.toList.any (·.refKey)=true:=by rw[a];exact PQ
  rw[Pb d];exact Qd some e
theorem Dw.look(I:Dw h x dx C mA):∃a,PySem.W.InstAt h x (instObj C dx) C (some a)/\∀name,lookIn name a=some (mA name):=
 let⟨a,b,hl⟩:=FZ I.ns
 #[a,#[I.obj,22,b],hl]
section
variable{prog:Program}{w:World}{A:Around}{E:Value->Shared->Prop}{s:Shared}{K:Frag}{x dx C f:Addr}{mA:Str->Option Value}{name:Str}{v:Value}
theorem LK(X:K.In s.heap)(I:Dw s.heap x dx C mA)(b:plainGet K C name=true)(c:hasDictIn K C=true)(a:findIn K (.ref C) name=some none)(d:mA name=some v)(e:PySem.W.handedIn v=true)(h:Q v {s with toks:=s.toks+1}):
  wpAny (model prog w) A (getAttr (.ref x) name expr) Q E s:=by
 obtain⟨g,J,hl⟩:=I.look;exact PySem.W.get_value X J (TH b).1 (PySem.W.findObj_own c a rfl (by rw[hl,d])) e h
theorem JF(X:K.In s.heap)(I:Dw s.heap x dx C mA)(a:plainGet K C name=true)(b:findIn K (.ref C) name=some (some (.ref f)))(c:isFn K (.ref f)=true)(d:mA name=none)(h:Q (.ref f,[.ref x]) s):
  wpAny (model prog w) A (getMethod (.ref x) name pl) Q E s:=by
 obtain⟨e,J,hl⟩:=I.look;exact PySem.W.method_fn X J (TH a).1 (TH a).2 b (Tp.mp c) (by show(lookIn name e).map (·.isSome)=some false;rw[hl,d];rfl) h
theorem KI{ns:List Str}(X:K.In s.heap)(I:Dw s.heap x dx C mA)(n:findIn K (.ref C) "__setattr__"=some (some (.builtin "object.__setattr__")))(m:plainOver K C=true)(o:takerIn K C name=some none)(k:hasDictIn K C=true)(p:PySem.Within mA ns)(hsz:ns.length<=sizeLine)(h:∀h',Dw h' x dx C (λy=>if y=name then some v else mA y)->Heap.SameBut dx s.heap h'->Q Unit.unit {s with heap:=h',toks:=s.toks+2}):
  wpAny (model prog w) A (setAttr (.ref x) name v) Q E s:=by
 obtain⟨G,J,hl⟩:=I.look;refine PySem.W.set_plain X J n (PySem.W.osa_open (s:={s with toks:=s.toks+1}) (r:=none) X J m o λb=> ?_);obtain⟨t,e,i⟩:=PySem.W.any_some k;have q:s.heap.get? x=some #[.ref C,some dx, .plain, #v[]]:=I.obj;refine Qi (QX (Qi (Qi (wpAny_loadPart q (Qi (PySem.W.Looks.here (s:={s with toks:=s.toks+1}) (PySem.W.looks_clsIn X e) ?_))))));rw[i];refine QX (a:=some dx) (Qi (QX (Qi ?_)));refine wpAny_nsSet1 (s:={s with toks:=s.toks+1}) I.ns λh' c d=> ?_;obtain⟨B,z,u,l,j,g⟩:=c.count (PySem.Within.cons name v p);refine Qi (wpAny_lookBehind l (by rw[j];exact pastItsLine_dict (Pr g (by rw[PM];lia))) ?_);exact QX (h _ #[(d.2 _ (Q7 I.ne)).trans I.obj,c,I.ne] d)
theorem Ji(X:K.In s.heap)(e:makesIn K C=true)(c:findIn K (.ref C) Vk=some (some (.ref f)))(b:PySem.W.typeIn K (.ref f)=some (.type "function"))(h:codeAny (model prog w) (A.under (.builtin Vz #[.ref C::vs,a])) (.call (.ref f) #[.ref (s.heap.objs.size+1)::vs,a]) (PySem.W.InitBack (s.heap.objs.size+1) R)
   {s with heap:=(s.heap.push emptyDict).push (instObj C s.heap.objs.size)}):
  codeAny (model prog w) A (.call (.ref C) #[vs,a]) R s:=by
 obtain⟨i,g,d,t,os⟩:=s;exact PySem.W.make_core (PySem.W.makes_of X e) (PySem.W.looks_findIn X c) (λself=>PySem.W.bind_fn X self b) (.inl rfl) h
end
def aY(f:Str)(v:V):List (Str×V)->List (Str×V)
 | []=>[(f,v)]
 |(g,x)::r=>if g=f then(g,v)::r else(g,x)::aY f v r
theorem j4(f g:Str)(v:V):∀fs:List (Str×V),(aY f v fs).lookup g=if g=f then some v else fs.lookup g
 | []=>by
  show List.lookup g [(f,v)]=_;by_cases h:g=f
  .have a:(g==f)=true:=Tp.mpr h;simp only[List.lookup,a,Pd h]
  .have a:(g==f)=false:=Sd.mpr h;simp only[List.lookup,a,Pb h]
 |(k,x)::r=>by
  have c:=j4 f g v r;rw[show aY f v ((k,x)::r)=(if k=f then(k,v)::r else(k,x)::aY f v r)from rfl];by_cases b:k=f
  .rw[Pd b];by_cases h:g=k
   .have a:(g==k)=true:=Tp.mpr h;simp only[List.lookup,a,Pd (h.trans b)]
   .have a:(g==k)=false:=Sd.mpr h;simp only[List.lookup,a,Pb (λe:g=f=>h (e.trans b.symm))]
  .rw[Pb b];by_cases h:g=k
   .have a:(g==k)=true:=Tp.mpr h;simp only[List.lookup,a,Pb (λe:g=f=>b (h.symm.trans e))]
   .have a:(g==k)=false:=Sd.mpr h;simp only[List.lookup,a];exact c
theorem qT(f:Str)(v:V):∀fs:List (Str×V),f∈(aY f v fs).map (·.1)/\∀g,g∈fs.map (·.1)->g∈(aY f v fs).map (·.1)
 | []=>#[by simp[aY],λg h=>by simp at h]
 |(k,x)::r=>by
  obtain⟨b,c⟩:=qT f v r;rw[show aY f v ((k,x)::r)=(if k=f then(k,v)::r else(k,x)::aY f v r)from rfl];by_cases a:k=f
  .rw[Pd a];subst a;exact#[#[5],λg h=>#[5,h]]
  .rw[Pb a];refine#[6,λg h=> ?_]
   .rw[Qb];exact Po _ b
   .rw[Qb]at h⊢;rcases Pk.mp h with e|e
    .exact Pk.mpr (.inl e)
    .exact Po _ (c g e)
theorem aG(f:Str)(v:V):∀fs:List (Str×V),(aY f v fs).length<=fs.length+1
 | []=>by simp[aY]
 |(k,x)::r=>by
  have b:=aG f v r;rw[show aY f v ((k,x)::r)=(if k=f then(k,v)::r else(k,x)::aY f v r)from rfl];by_cases a:k=f
  .rw[Pd a,PM,PM];lia
  .rw[Pb a,PM,PM];lia
theorem nY.some_of(r:nY (some v) o):∃u,o=some u/\bY v u:=by
 cases o with
 |none=>exact(show False from r).elim
 |some u=>exact#[u,2,r]
theorem nY.none_of(r:nY none o):o=none:=by
 cases o with
 |none=>rfl
 |some u=>exact(show False from r).elim
theorem Gf(r:bY v u):PySem.W.handedIn u=true:=by
 cases v with
 |non=>cases (show u=Value.none from r);rfl
 |bl b=>cases (show u=Value.bool b from r);rfl
 |int i=>obtain⟨t,e⟩:=(show∃t,u=Value.int i t from r);cases e;rfl
 |str x=>obtain⟨t,e⟩:=(show∃t,u=Value.str x t from r);cases e;rfl
 |byt b=>obtain⟨t,e⟩:=(show∃t,u=Value.bytes b t from r);cases e;rfl
 |flt b=>obtain⟨t,e⟩:=(show∃t,u=Value.float b t from r);cases e;rfl
 |ref a=>cases (show u=Value.ref a from r);rfl
 |ty n=>cases (show u=Value.type n from r);rfl
section
variable{P:Program}{w:World}{H H':Hp}{h h':Heap}{a C dx:Addr}{fs fs':List (Str×V)}
theorem sU(c:HOk P w H h)(e:H a=some (.ins C dx fs)):∃b,Dw h a dx C b/\(∀f,nY (fs.lookup f) (b f))/\PySem.Within b (fs.map (·.1))/\fs.length<=1000/\H dx=some (.own a):=by obtain⟨d,z,ne,g,b,n,r,q⟩:=(show cF P w H h a (.ins C dx fs)from c a _ e);exact#[b,#[g,n,ne],r,q,z,d]
end
structure Cls(K:Frag)(C:Addr):Prop where
 pg:plainGet K C Str.empty=true
 hd:hasDictIn K C=true
 po:plainOver K C=true
 sa:findIn K (.ref C) "__setattr__"=some (some (.builtin "object.__setattr__"))
theorem Cls.get{K:Frag}(c:Cls K C)(f:Str):plainGet K C f=true:=c.pg
def aR(K:Frag)(C:Addr)(f:Str):Prop:=findIn K (.ref C) f=some none
theorem aR.taker{K:Frag}(n:aR K C f):takerIn K C f=some none:=by unfold takerIn;rw[show findIn K (.ref C) f=some none from n];rfl
structure Meth(K:Frag)(C:Addr)(m:Str)(f:Addr):Prop where
 at_:findIn K (.ref C) m=some (some (.ref f))
 fn:isFn K (.ref f)=true
 kp:keepIn K (.ref f)=true
section
variable{X:Cx}{pins:List (Addr×Obj)}{σ:St}{H:Hp}{s:Shared}{a C dx:Addr}{fs:List (Str×V)}{f:Str}{v:V}{A:Around}{E:Value->Shared->Prop}
theorem C7(I:Inv X pins σ H s)(e:H a=some (.ins C dx fs))(c:Cls X.K C)(n:aR X.K C f)(l:fs.lookup f=some v)(h:∀u g,Inv X pins σ H g->bY v u->Q u g):wpAny (model X.prog X.w) A (getAttr (.ref a) f b) Q E s:=by
 obtain⟨j,O,r,_,_,_⟩:=sU I.hok e;obtain⟨u,i,d⟩:=nY.some_of (v:=v) (o:=j f) (by rw[<-l];exact r f);exact LK I.kIn O (c.get f) c.hd n i (Gf d) (h u _ (I.tok _) d)
theorem uL(I:Inv X pins σ H s)(e:H a=some (.ins C dx fs))(c:Cls X.K C)(k:Meth X.K C m g)(l:fs.lookup m=none)(h:Q (.ref g,[.ref a]) s):wpAny (model X.prog X.w) A (getMethod (.ref a) m pl) Q E s:=by
 obtain⟨d,O,r,_,_,_⟩:=sU I.hok e;have b:d m=none:=nY.none_of (by rw[<-l];exact r m);exact JF I.kIn O (c.get m) k.at_ k.fn b h
theorem Ci(I:Inv X pins σ H s)(e:H a=some (.ins C dx fs))(c:Cls X.K C)(n:aR X.K C f)(hl:fs.length<1000)(J:bY y u)(h:∀k,Inv X pins σ (upd H a (.ins C dx (aY f y fs))) k->Q Unit.unit k):wpAny (model X.prog X.w) A (setAttr (.ref a) f u) Q E s:=by
 obtain⟨j,O,r,l,_,i⟩:=sU I.hok e;have G:(fs.map (·.1)).length<=sizeLine:=by rw[My,sizeLine_eq];lia
 refine KI I.kIn O c.sa c.po n.taker c.hd l G λh' d L=>h _ ?_;have t:∃o,h'.get? dx=some o:=let⟨o,_,_,m,_⟩:=d.ns;#[o,m];refine I.write (x:=a) (e:=dx) (by rw[e];exact RK) (.inr i) (λb q p z=>(L.2 b p).trans z) t ?_;refine#[by rw[aA O.ne];exact i,6,O.ne,d.obj,_,d.ns,λg=> ?_,λg B=> ?_]
 .have:=aG f y fs;lia
 .show nY ((aY f y fs).lookup g) (if g=f then some u else j g);rw[j4];by_cases q:g=f
  .rw[Pd q,Pd q];exact J
  .rw[Pb q,Pb q];exact r g
 .by_cases q:g=f
  .rw[q];exact(qT f y fs).1
  .refine(qT f y fs).2 g (l g λz=>B ?_);show(if g=f then some u else j g)=none;rw[Pb q];exact z
theorem Inv.made(I:Inv X pins σ H s):Inv X pins σ (upd (upd H s.heap.objs.size (.own (s.heap.objs.size+1))) (s.heap.objs.size+1) (.ins C s.heap.objs.size []))
  {s with heap:=(s.heap.push emptyDict).push (instObj C s.heap.objs.size)}:=by
 have c:(s.heap.push emptyDict).get? s.heap.objs.size=some emptyDict:=QK s.heap rfl;have g:((s.heap.push emptyDict).push (instObj C s.heap.objs.size)).get? (s.heap.objs.size+1)=some (instObj C s.heap.objs.size):=by
  have:=QK (s.heap.push emptyDict) (o:=instObj C s.heap.objs.size) rfl
  rwa [Ss]at this
 have h:(s.heap.push emptyDict).Ns s.heap.objs.size (λ_=>none):=#[emptyDict, #v[],_,c,2,(λe i=>absurd i #[5]),λ_=>rfl];have d:=I.laid (a:=s.heap.objs.size) (o:= .own (s.heap.objs.size+1)) (h':=s.heap.push emptyDict) (t':=s.toks) (λb u q=>Qe _ q) (Pu _) #[_,c];refine d.laid (a:=s.heap.objs.size+1) (o:= .ins C s.heap.objs.size []) (t':=s.toks) (λb u q=>Qe _ q) (Nat.le_of_eq (Ss _ _)) ?_;have ne:s.heap.objs.size≠s.heap.objs.size+1:=Qz (QL _);refine#[by rw[aA ne,ah],Qu _,ne,g,λ_=>none,(Heap.Ns1.of_empty h).at λo q=>Qe _ q,λ_=>RK,λy j=>absurd rfl j]
theorem LV(b:attributeBase e f env (eval e env)=eval e env)(h:wpAny (model prog w) A (eval e env) (λo c=>wpAny (model prog w) A (getAttr o f true) Q E c) E s):wpAny (model prog w) A (eval (.Attribute e f pos) env) Q E s:=
 Attribute_any_ h (by rw[arm_eval_Attribute,b])
end
inductive RdF(K:Frag)(f:Str)(Q:VK)(x:V)(H:Hp):Prop
 |mk(a C dx:Addr) (fs:List (Str×V)) (v:V) (e1:x= .ref a) (e2:H a=some (.ins C dx fs)) (c:Cls K C) (n:aR K C f) (l:fs.lookup f=some v) (q:Q v H):RdF K f Q x H
def MI(K:Frag)(a:TE)(f:Str):TE:=λb H Q=>a b H (RdF K f Q)
def MQ(K:Frag)(g tv:TE)(f:Str):TS:=λD b H=>tv b H λy e=>g b e λx c=>∃a C d fs,x= .ref a/\c a=some (.ins C d fs)/\Cls K C/\aR K C f/\fs.length<1000/\
 D.nx b (upd c a (.ins C d (aY f y fs)))
section
variable{X:Cx}{o e value:Expr}{f:Str}{pos pos' tpos:Pos}{ta tv:TE}
theorem Nf(k:PE X e ta)(j:attributeBase e f X.env (eval e X.env)=eval e X.env):PE X (.Attribute e f pos) (MI X.K ta f):=by intro p s w H Q I h;refine LV j (thn (k p s w H _ I h) λu z m=> ?_);obtain⟨x,b,d,t,a,C,y,fs,v,ex,i,c,n,l,q⟩:=m;subst ex;obtain rfl:u=Value.ref a:=t;exact C7 d i c n l λB A g r=>#[v,b,g,r,q]
theorem MZ(p:PE X o ta)(v:PE X value tv)(t:swapsWith value (some (.Attribute o f pos')) pos.line X.env=pure false):PS X (.Assign [.Attribute o f pos'] value pos) (MQ X.K ta tv f):=by intro d s b H D I h;refine plainObj_wpAny_Assign_Attribute (thn (v d s b H _ I h) λu B ⟨y,g,i,A,q⟩=>thn (p d B b g _ i q) λov L r=> ?_) t;obtain⟨x,G,j,z,a,C,J,fs,ex,m,c,n,l,w⟩:=r;subst ex;obtain rfl:ov=Value.ref a:=z;exact Ci j m c n l A λM k=>#[b,_,k,w]
end
section
variable{X:Cx}{pins:List (Addr×Obj)}{σ:St}{H:Hp}{s:Shared}{A:Around}{E:Value->Shared->Prop}{Q:Value->Shared->Prop}{c:Value}{b:Bool}
inductive rh(K:Frag)(H:Hp):V->Value->Prop where
 |non:rh K H .non (.type "NoneType")
 |bl (x:Bool):rh K H (.bl x) (.type "bool")
 |int (i:Int):rh K H (.int i) (.type "int")
 |str (x:Str):rh K H (.str x) (.type "str")
 |flt (x:UInt64):rh K H (.flt x) (.type "float")
 |lst {a:Addr} {xs:List V} (e:H a=some (.lst xs)):rh K H (.ref a) (.type Vt)
 |frz {a:Addr} {o:Obj} {xs:List V} (e:H a=some (.frz o (.lst xs))):rh K H (.ref a) (.type Vt)
 |tup {a:Addr} {xs:List V} (e:H a=some (.tup xs)):rh K H (.ref a) (.type VA)
 |dK {a:Addr} {kvs:List (Key×V)} (e:H a=some (.dK kvs)):rh K H (.ref a) (.type VH)
 |dT {a:Addr} {kvs:List (List Key×V)} (e:H a=some (.dT kvs)):rh K H (.ref a) (.type VH)
 |ins {a C dx:Addr} {fs:List (Str×V)} (e:H a=some (.ins C dx fs)) (cl:Cls K C) (ha:findIn K (.ref C) "__class__"=some (some (.builtin Vs)))
   (hn:specialIn K (.builtin Vs) "__get__"=some (some (.builtin VG))) (htk:takesIn K (.builtin Vs)=some true)
   (hm:mroIn K C (.type "object")=some true):rh K H (.ref a) (.ref C)
theorem Gb(I:Inv X pins σ H s)(f:bY x u)(ty:rh X.K H x t)(e:kitOne X.K t c=some b)(h:∀L,Q (.bool b) {s with toks:=L}):
  wpAny (model X.prog X.w) A (call (.builtin VU) [u,c]) Q E s:=by
 cases ty with
 |non=>cases (show u=Value.none from f);exact Rw PySem.W.kitx_none I.kIn RK e (λz=>nomatch z) h
 |bl y=>cases (show u=Value.bool y from f);exact Rw PySem.W.kitx_bool I.kIn RK e (λz=>nomatch z) h
 |int i=>obtain⟨t,q⟩:=(show∃t,u=Value.int i t from f);cases q;exact Rw PySem.W.kitx_int I.kIn RK e (λz=>nomatch z) h
 |str y=>obtain⟨t,q⟩:=(show∃t,u=Value.str y t from f);cases q;exact Rw PySem.W.kitx_str I.kIn RK e (λz=>nomatch z) h
 |flt y=>obtain⟨t,q⟩:=(show∃t,u=Value.float y t from f);cases q;exact Rw PySem.W.kitx_float I.kIn RK e (λz=>nomatch z) h
 | @lst a xs d=>
  cases (show u=Value.ref a from f);obtain⟨_,_,n,_,g⟩:=(show cF X.prog X.w H s.heap a (.lst xs)from I.hok a _ d);exact Rw PySem.W.kitx_list I.kIn #[_,g,2] e (λz=>nomatch z) h
 | @frz a G xs d=>
  cases (show u=Value.ref a from f);obtain⟨_,_,_,n,_,g⟩:=(show cF X.prog X.w H s.heap a (.frz G (.lst xs))from I.hok a _ d);exact Rw PySem.W.kitx_list I.kIn #[_,g,2] e (λz=>nomatch z) h
 | @tup a xs d=>
  cases (show u=Value.ref a from f);obtain⟨_,_,_,p⟩:=(show cF X.prog X.w H s.heap a (.tup xs)from I.hok a _ d);obtain⟨o,g,j,_⟩:=p;exact Rw PySem.W.kitx_tuple I.kIn #[o,g,j] e (λz=>nomatch z) h
 | @dK a kvs d=>
  cases (show u=Value.ref a from f);obtain⟨_,_,vs,_,p⟩:=(show cF X.prog X.w H s.heap a (.dK kvs)from I.hok a _ d);obtain⟨o,l,ep,g,j,_⟩:=p;exact Rw PySem.W.kitx_dict I.kIn #[o,g,j.1] e (λz=>nomatch z) h
 | @dT a kvs d=>
  cases (show u=Value.ref a from f);obtain⟨_,_,xs,_,o,l,ep,g,j,_⟩:=(show cF X.prog X.w H s.heap a (.dT kvs)from I.hok a _ d);exact Rw PySem.W.kitx_dict I.kIn #[o,g,j.1] e (λz=>nomatch z) h
 | @ins a C M fs d k m v B r=>
  cases (show u=Value.ref a from f);obtain⟨N,O,_⟩:=sU I.hok d;obtain⟨U,J,_⟩:=O.look;exact Rw (PySem.W.kitx_own (k.get _) k.hd m v B r) I.kIn J e (λz=>nomatch z) h
end
structure Room(k:Nat)(A:Around):Prop where
 hd:A.handled=none
 dp:A.depth+3*k+5<recursionLimit
 un:A.units+16*k+200<cLine
 gd:A.guards=some []
theorem Room.mono(r:Room k A)(h:j<=k):Room j A:=#[r.hd,by have:=r.dp;lia,by have:=r.un;lia,r.gd]
theorem Room.deeper{A:Around}(r:Room (k+1) A)(env:Env):Room k (A.deeper env):=
 #[r.hd,by have:=r.dp;show A.depth+1+3*k+5<_;lia,by have:=r.un;show A.units+3+16*k+200<_;lia,r.gd]
theorem CT{A:Around}:(A.under (.builtin Vz #[.ref C::us,kw])).depth=A.depth+1:=by
 first|rfl|simp[Around.under,Code.weight,Code.isCreation,Code.isGuard,Code.isCaller,Code.frames,Code.isFrame,guardIds]
theorem CS{A:Around}:(A.under (.builtin Vz #[.ref C::us,kw])).units=A.units+1:=by
 first|rfl|simp[Around.under,Code.cUnits,Code.frames,Code.isFrame]
theorem Room.make{A:Around}(r:Room (k+1) A)(C:Addr)(us:List Value)(a:List (Str×Value)):Room k (A.under (.builtin Vz #[.ref C::us,a])):=
 #[r.hd,by have:=r.dp;rw[CT];lia,by have:=r.un;rw[CS];lia,r.gd]
theorem Room.depth{A:Around}(r:Room k A):A.depth<recursionLimit:=by have:=r.dp;lia
theorem Room.units{A:Around}(r:Room k A):A.units+64<cLine:=by have:=r.un;lia
def KA:TA:=λ_ H Q=>Q [] H
def G7(d:TE)(e:TA):TA:=λa H Q=>d a H λx b=>e a b λxs c=>Q (x::xs) c
section
variable{X:Cx}{e:Expr}{es:List Expr}{te:TE}{t:TA}{pos:Pos}
theorem af:PA X [] KA:=λ_ _ _ _ H Q I h=>Calls.spliced_nil #[[],H,I, .nil,h]
theorem aa(i:PE X e te)(j:PA X es t)(k:starEach (e::es) X.env=(false,eval e X.env)::starEach es X.env:=by rfl):PA X (e::es) (G7 te t):=by intro pos a s b H Q I h;rw[k];show wpAny _ _ (spliced ((false,eval e X.env)::backTo pos (starEach es X.env))) _ _ s;refine Calls.spliced_cons (thn (i a s b H _ I h) λu p ⟨x,c,f,n,l⟩=> ?_);exact thn (j pos a p b c _ f l) λus q ⟨xs,d,g,o,m⟩=>#[x::xs,d,g, .cons n o,m]
def OM(t:TA):TE:=λb H Q=>t b H λxs a=>xs.length<=sizeLine/\∀p,a p=none->Q (.ref p) (upd a p (.tup xs))
def N3(t:TA):TE:=λb H Q=>t b H λxs a=>xs.length<=sizeLine/\∀p,a p=none->Q (.ref p) (upd a p (.lst xs))
theorem kg{x1}(h:PA X es t):PE X (.Tuple es x1 pos) (OM t):=by intro i s j H Q I g;refine wpAny_Tuple_spliced (thn (h pos i s j H _ I g) λus a ⟨xs,c,d,r,z,q⟩=>#[by rw[<-r.length];exact z,6]);have f:c a.heap.objs.size=none:=d.hok.fresh (Pu _);refine#[.ref a.heap.objs.size,upd c a.heap.objs.size (.tup xs),d.laid (t':=a.toks) (λb u e=>Qe _ e) (Pu _) ?_,2,q _ f];exact#[z,us,r,#[_,QK _ rfl,27]]
theorem cw(h:PA X es t):PE X (.List es pos) (N3 t):=by intro i s j H Q I g;refine wpAny_List_spliced (thn (h pos i s j H _ I g) λus a ⟨xs,c,d,r,z,q⟩=>#[by rw[<-r.length];exact z,6]);have f:c a.heap.objs.size=none:=d.hok.fresh (Pu _);refine#[.ref a.heap.objs.size,upd c a.heap.objs.size (.lst xs),d.laid (t':=a.toks) (λb u e=>Qe _ e) (Pu _) ?_,2,q _ f];exact#[z,us,0,r,QK _ rfl]
end
abbrev Sp:=List V->Hp->VK->XK->Prop
abbrev CXT:=List Env->Hp->Shared->XK->Value->Shared->Prop
structure Dx(P:Program)(w:World)(K:Frag)(mg:Str->Option Value)(base:Heap)(A:Around)(outer:List Env)(s:Shared)(H:Hp):Prop where
 frames:A.frames=some outer
 mod:Mod K mg base
 bs:∀b o,base.get? b=some o->s.heap.get? b=some o/\H b=none
 bsz:base.objs.size<=s.heap.objs.size
 funs:s.heap.FunFrames base outer
 frf:∀b∈frs outer,H b=none
 hok:HOk P w H s.heap
 bare:AllBare s.gens
def CE(outer:List Env)(P:Program)(w:World)(H:Hp)(s:Shared)(Q:VK)(u:Value)(a:Shared):Prop:=
 ∃v H',a.os=s.os/\AllBare a.gens/\Un (frs outer) [] H H' s.heap a.heap/\HOk P w H' a.heap/\bY v u/\Q v H'
def CR(CX:CXT)(outer:List Env)(P:Program)(w:World)(H:Hp)(s:Shared)(Q:VK)(E:XK)(r:Result)(a:Shared):Prop:=
 match r with
 | .ok (.ret u)=>CE outer P w H s Q u a
 | .ok _=>False
 | .error e=>CX outer H s E e a
structure lj(P:Program)(w:World)(K:Frag)(mg:Str->Option Value)(base:Heap)(CX:CXT)(k:Nat)(f:Addr)(fd:FuncData)(ps:List Str)(sp:Sp):Prop where
 len:∀vs H Q E,sp vs H Q E->vs.length=ps.length
 run:∀(A:Around)(outer:List Env)(s:Shared)(H:Hp)(args:Args)(us:List Value)(vs:List V)(Q:VK)(E:XK),Room k A->Dx P w K mg base A outer s H->BindsTo s fd args (ps.zip us)->Vals vs us->sp vs H Q E->
  codeAny (model P w) A (.call (.ref f) args) (CR CX outer P w H s Q E) s
theorem lj.mono{K:Frag}{a:FuncData}{ps:List Str}{sp:Sp}(F:lj P w K mg base CX j f a ps sp)(h:j<=k):
  lj P w K mg base CX k f a ps sp:=#[F.len,λA outer s H args us vs Q E b=>F.run A outer s H args us vs Q E (b.mono h)]
theorem lj.imp{K:Frag}{a:FuncData}{ps:List Str}{sp b:Sp}(F:lj P w K mg base CX k f a ps sp)(h:∀vs H Q E,b vs H Q E->sp vs H Q E):lj P w K mg base CX k f a ps b:=
 #[λvs H Q E q=>F.len vs H Q E (h _ _ _ _ q),λA outer s H args us vs Q E e d c i g=>F.run A outer s H args us vs Q E e d c i (h _ _ _ _ g)]
theorem Dx.make{K:Frag}{A:Around}(e:Dx P w K mg base A outer s H)(C:Addr)(us:List Value)(a:List (Str×Value)):
  Dx P w K mg base (A.under (.builtin Vz #[.ref C::us,a])) outer s H:=#[by first|exact e.frames|(simpa [Around.under,Code.envs,Code.isFrame,pushEnvs]using e.frames),e.mod,e.bs,e.bsz,e.funs,e.frf,e.hok,e.bare]
section
variable{X:Cx}{pins:List (Addr×Obj)}{σ:St}{H:Hp}{s s':Shared}
theorem Inv.env0(I:Inv X pins σ H s):Dx X.prog X.w X.K X.mg X.base X.A X.stack s H:=
 #[I.ok.frames,I.ok.mod,I.bs,Pr I.ok.bsz I.sz,I.stack,I.stkFree,I.hok,I.bare]
theorem Inv.after(I:Inv X pins σ H s)(h:CE X.stack X.prog X.w H s Q u s'):EP X pins σ Q u s':=by obtain⟨v,H',os,bare,un,c,r,q⟩:=h;obtain⟨a,g,d,t,e⟩:=s';obtain rfl:e=s.os:=os;exact#[v,H',I.call (h':=a) (g':=g) (d':=d) (t':=t) (ch:=[]) un c bare (λb z=>absurd z #[5]),r,q]
end
def G9(sp:Sp)(dvs:List V)(E:XK)(t:TA):TE:=λb H Q=>t b H λvs a=>sp (vs++dvs) a Q E
def Mc(C:Addr)(sp:Sp)(dvs:List V)(E:XK)(t:TA):TE:=λd H Q=>t d H λvs b=>∀x a,b x=none->b a=none->a≠x->
 sp (.ref x::(vs++dvs)) (upd (upd b a (.own x)) x (.ins C a [])) (λv c=>v= .non/\Q (.ref x) c) E
def nh(K:Frag)(b:FuncData)(ps:List Str)(a:List Value):Prop:=
 ∀(s:Shared)(us:List Value),K.In s.heap->(us++a).length=ps.length->BindsTo s b #[us,[]] (ps.zip (us++a))
theorem nh.all{K:Frag}{ps:List Str}(h:∀us:List Value,us.length=ps.length->bindArgs fd #[us,[]]=pure (ps.zip us)):nh K fd ps []:=λs us _ hl=>by rw[Q0]at hl⊢;exact .of_eq (h us hl)
def vh(CX:CXT)(X:Cx)(E:XK):Prop:=∀(b:List (Addr×Obj)) (c:St) (H:Hp) (s:Shared) (e:Value) (a:Shared),Inv X b c H s->CX X.stack H s E e a->X.xe e a
section
variable{X:Cx}{CX:CXT}{k:Nat}{f C:Addr}{fd:FuncData}{ps:List Str}{sp:Sp}{dvs:List V}{ds:List Value}{E:XK}{x m:Str}{p pos apos:Pos}{e o:Expr}{es:List Expr}{ta:TE}{t:TA}
theorem yk{b:St}(F:lj X.prog X.w X.K X.mg X.base CX k f fd ps sp)(j:Room k X.A)(g:nh X.K fd ps ds)(i:Vals dvs ds)(l:vh CX X E)(I:Inv X pins b H s)(r:Vals vs us)(h:sp (vs++dvs) H Q E):wpAny (model X.prog X.w) X.A (call (.ref f) us) (EP X pins b Q) X.xe s:=by
 have c:Vals (vs++dvs) (us++ds):=r.append i;have hl:(us++ds).length=ps.length:=by rw[<-c.length];exact F.len _ _ _ _ h
 refine wpAny_call (T6 (F.run X.A X.stack s H #[us,[]] (us++ds) (vs++dvs) Q E j I.env0 (g s us I.kIn hl) c h) λr n a=> ?_);cases r with
 |error e=>exact l pins b H s e n I a
 |ok d=>
  cases d with
  |ret u=>exact I.after a
  |next=>exact False.elim a
  |brk=>exact False.elim a
  |cont=>exact False.elim a
theorem Lf(F:lj X.prog X.w X.K X.mg X.base CX k f fd ps sp)(v:Room k X.A)(j:Gl X x)(n:X.mg x=some (.ref f))(l:keepIn X.K (.ref f)=true)(c:nh X.K fd ps ds)(d:Vals dvs ds)(y:vh CX X E)(b:PA X (e::es) t)(g:(x==(Vo:Str))=false:=by decide)(i:starEach (e::es) X.env=(false,eval e X.env)::starEach es X.env:=by rfl)(u:(backTo pos (starEach es X.env)).any (·.1)=false:=by rfl):
  PE X (.Call (.Name x p) (e::es) [] pos) (G9 sp dvs E t):=by
 intro z s B H Q I h;refine Sj (yM I j n ?_ g);refine SH (h₀:=X.base) I.ok.mod.kin l (thn (b pos z s B H _ I h) λus J ⟨vs,G,a,r,q⟩=>#[a.kIn,6]) i u;exact yk F v c d y a r q
structure Mk(K:Frag)(C f:Addr):Prop where
 makes:makesIn K C=true
 init:findIn K (.ref C) Vk=some (some (.ref f))
 fn:isFn K (.ref f)=true
 kp:keepIn K (.ref C)=true
theorem HH{d:St}(M:Mk X.K C f)(F:lj X.prog X.w X.K X.mg X.base CX k f fd ps sp)(z:Room (k+1) X.A)(q:nh X.K fd ps ds)(y:Vals dvs ds)(B:vh CX X E)(I:Inv X pins d H s)(r:Vals vs us)(h:∀x c,H x=none->H c=none->c≠x->sp (.ref x::(vs++dvs)) (upd (upd H c (.own x)) x (.ins C c [])) (λv j=>v= .non/\Q (.ref x) j) E):
  wpAny (model X.prog X.w) X.A (call (.ref C) us) (EP X pins d Q) X.xe s:=by
 have g:=h (s.heap.objs.size+1) s.heap.objs.size (I.hok.fresh (Nat.le_succ _)) (I.hok.fresh (Pu _)) (Qz (QL _));have b:=Inv.made (C:=C) I;have i:Vals (V.ref (s.heap.objs.size+1)::(vs++dvs)) (Value.ref (s.heap.objs.size+1)::(us++ds)):= .cons rfl (r.append y);have hl:(Value.ref (s.heap.objs.size+1)::us++ds).length=ps.length:=by have e:=i.length;rw[F.len _ _ _ _ g]at e;exact e.symm
 refine wpAny_call (Ji (f:=f) I.kIn M.makes M.init (Tp.mp M.fn) (T6 (F.run _ X.stack _ _ #[Value.ref (s.heap.objs.size+1)::us,[]] (Value.ref (s.heap.objs.size+1)::(us++ds)) _ _ E (z.make C us [])
  (b.env0.make C us []) (q _ (Value.ref (s.heap.objs.size+1)::us) b.kIn hl) i g) λr L a=> ?_))
 cases r with
 |error e=>exact B pins d _ _ e L b a
 |ok n=>
  cases n with
  |ret u=>
   obtain⟨v,H',l,J,ev,G⟩:=b.after a;subst ev;exact#[J,#[V.ref (s.heap.objs.size+1),H',l,2,G]]
  |next=>exact False.elim a
  |brk=>exact False.elim a
  |cont=>exact False.elim a
theorem Lc(M:Mk X.K C f)(F:lj X.prog X.w X.K X.mg X.base CX k f fd ps sp)(u:Room (k+1) X.A)(j:Gl X x)(l:X.mg x=some (.ref C))(c:nh X.K fd ps ds)(d:Vals dvs ds)(v:vh CX X E)(b:PA X (e::es) t)(g:(x==(Vo:Str))=false:=by decide)(i:starEach (e::es) X.env=(false,eval e X.env)::starEach es X.env:=by rfl)(n:(backTo pos (starEach es X.env)).any (·.1)=false:=by rfl):
  PE X (.Call (.Name x p) (e::es) [] pos) (Mc C sp dvs E t):=by
 intro y s z H Q I h;refine Sj (yM I j l ?_ g);refine SH (h₀:=X.base) I.ok.mod.kin M.kp (thn (b pos y s z H _ I h) λus G ⟨vs,B,a,r,q⟩=>#[a.kIn,6]) i n;exact HH M F u c d v a r q
end
structure aE(N P:List Str)(sc:Scope):Prop where
 kind:sc.kind= .function
 co:sc.isCoroutine=false
 gen:sc.isGenerator=false
 nd:N.Nodup
 pre:N.take P.length=P
 par:∀x∈P,sc.names.lookup x=some .local\/sc.names.lookup x=some .cell
 nofree:∀y∈sc.names,y.2≠ .free
theorem wR{kindOf:Str->Option NameKind}:∀ {binds:List (Str×Value)} {m:Str->Option Value},(∀v,(x,v)∉binds)->bindL kindOf binds m x=m x
 | [],_,_=>rfl
 |(n,v)::r,m,h=>by
  unfold bindL;rw[wR λw a=>h w (Po _ a)];split
  .have:x≠n:=by rintro rfl;exact h v Pt
   simp[this]
  .rfl
theorem wV{kindOf:Str->Option NameKind}:∀ {binds:List (Str×Value)} {m:Str->Option Value},(∀v,(x,v)∉binds)->bindC kindOf binds m x=m x
 | [],_,_=>rfl
 |(n,v)::r,m,h=>by
  unfold bindC;rw[wV λw a=>h w (Po _ a)];split
  .rfl
  .have:x≠n:=by rintro rfl;exact h v Pt
   simp[this]
theorem wU{kindOf:Str->Option NameKind}:∀ {P:List Str} {vs:List Value} {i:Nat} {m:Str->Option Value},P.Nodup->P[i]?=some x->vs[i]?=some v->kindOf x=some .local->
  bindL kindOf (P.zip vs) m x=some v
 | [],_,_,_,_,h,_,_=>by simp at h
 |_::_,[],_,_,_,_,h,_=>by simp at h
 |p::P,w::vs,0,m,d,a,b,c=>by simp at a b;subst a;subst b;show bindL kindOf ((p,w)::P.zip vs) m p=_;unfold bindL;rw[wR λv e=>(Qr.mp d).1 (Ul e).1,Pd c];simp
 |p::P,w::vs,i+1,m,d,a,b,c=>by show bindL kindOf ((p,w)::P.zip vs) m x=_;unfold bindL;exact wU (i:=i) (Qr.mp d).2 #[5,a] #[5,b] c
theorem wW{kindOf:Str->Option NameKind}:∀ {P:List Str} {vs:List Value} {i:Nat} {m:Str->Option Value},P.Nodup->P[i]?=some x->vs[i]?=some v->kindOf x≠some .local->
  bindC kindOf (P.zip vs) m x=some v
 | [],_,_,_,_,h,_,_=>by simp at h
 |_::_,[],_,_,_,_,h,_=>by simp at h
 |p::P,w::vs,0,m,d,a,b,c=>by simp at a b;subst a;subst b;show bindC kindOf ((p,w)::P.zip vs) m p=_;unfold bindC;rw[wV λv e=>(Qr.mp d).1 (Ul e).1,Pb c];simp
 |p::P,w::vs,i+1,m,d,a,b,c=>by show bindC kindOf ((p,w)::P.zip vs) m x=_;unfold bindC;exact wW (i:=i) (Qr.mp d).2 #[5,a] #[5,b] c
def start(N:List Str)(vs:List V):St:=vs.map some++List.replicate (N.length-vs.length) none
def yZ(CX:CXT)(P:Program)(w:World)(K:Frag)(mg:Str->Option Value)(base:Heap)(N:List Str)(b:Str)(scope:Scope)(f:Addr)(a:Value)(A:Around)(outer:List Env)(s:Shared)(H:Hp)(E:XK):Cx where
 prog:=P
 w:=w
 K:=K
 mg:=mg
 base:=base
 A:=A.deeper (envOfC b scope s.heap.objs.size f a)
 N:=N
 s₀:=s
 H₀:=H
 env:=envOfC b scope s.heap.objs.size f a
 outer:=outer
 stack:=envOfC b scope s.heap.objs.size f a::outer
 ex:=[]
 calm:=true
 fn:=λ_=>true
 pn:=[]
 xe:=λe g=>wpAny (model P w) (A.deeper (envOfC b scope s.heap.objs.size f a)) (leaving (envOfC b scope s.heap.objs.size f a) e) (λ_ c=>CX outer H s E e c) (λd c=>CX outer H s E d c) g
theorem Bx{a:Scope}(h:a.names.lookup x=some .cell):∃c,(cellsFrom n a.names []).lookup x=some c:=by have q:=PySem.W.cellsFrom_some a.names n [] (.inl h);exact Option.isSome_iff_exists.mp q
theorem Gd{K:Frag}{N ps:List Str}{scope:Scope}{m:Value}{A:Around}{outer:List Env}{s O:Shared}{H:Hp}{E:XK}{us:List Value}{vs:List V}(S:aE N ps scope)(U:A.handled=none)(g:Dx P w K mg base A outer s H)(hl:vs.length=ps.length)(r:Vals vs us)(x:InCallC s s.heap.objs.size (bindL (envOfC G scope s.heap.objs.size f m).kindOf (ps.zip us) λ_=>none) (cellsFrom (s.heap.objs.size+1) scope.names []) (bindC (envOfC G scope s.heap.objs.size f m).kindOf (ps.zip us) λ_=>none) O):
  Inv (yZ CX P w K mg base N G scope f m A outer s H E) [] (start N vs) H O:=by
 have ar:ps.length<=N.length:=by have:=Qd List.length S.pre;rw[P6]at this;lia
 obtain⟨o,tk,rfl,J⟩:=x.done;have B:∀b:Addr,b∉ (yZ CX P w K mg base N G scope f m A outer s H E).ex:=λb z=>absurd (show b∈([]:List Addr)from z) #[5];refine#[#[g.mod,S.kind,22,Pu _,λy z c o d=> ?_,λy j=> ?_,λy c _ h=> ?_,λ_=>U,Around.frames_deeper g.frames, .inr #[22],λb z=>absurd z (B b),g.bs,g.bsz,λb _ _=>B b,λb z=>absurd z (B b),g.funs,g.frf],2,g.bare,Un.kept J,#[_,x.toInCall.ns,λi y v o d h3=> ?_],λy c h=>#[_,x.cell y c h],g.hok.fresh (Pu _),λy c h=> ?_,λp l=>absurd (show p∈([]:List (Addr×Obj))from l) #[5],g.hok.kept J,6]
 .exact name_of_addr x.apart (QV o) (QV d)
 .have j:scope.names.lookup y=some .cell\/scope.names.lookup y=some .free:=j;rcases j with j|j
  .exact Bx j
  .exact absurd rfl (S.nofree _ (QV j))
 .exact Tj (x.above y c (QV h))
 .have t:i<vs.length:=by
   unfold start at d;by_cases t:i<vs.length
   .exact t
   .rw[P2 #[5,t]]at d;rw[Uh]at d;split at d<;>cases d
  have Q:vs[i]?=some v:=by
   unfold start at d;rw[P1 #[5,t],PB]at d;cases e:vs[i]? with
   |none=>rw[e]at d;cases d
   |some a=>rw[e]at d;cases d;rfl
  obtain⟨u,L,rv⟩:=r.get Q;have l:ps[i]?=some y:=by rw[<-S.pre,RC ()];exact o
  have M:ps.Nodup:=by rw[<-S.pre];exact S.nd.sublist (List.take_sublist _ _)
  refine#[u,rv,6];rcases S.par y (Pq l)with k|k
  .exact .inl #[k,wU M l L k]
  .obtain⟨c,e⟩:=Bx (n:=s.heap.objs.size+1) k;refine .inr #[.inl k,c,e,6];have q:=x.cell y c e;rwa[wW M l L (by show scope.names.lookup y≠_;rw[k];decide)]at q
 .exact g.hok.fresh (Tj (x.above y c (QV h)))
 .unfold start;show _=N.length;rw[PK,My,Td];lia
theorem Oz{K:Frag}{params:Arguments}{h:List Stmt}{scope:Scope}{z kV B M cdv p oc:Value}{an od:Option Addr}{a6:Array (Option Value)}{N ps:List Str}{sp:Sp}(lk:K.lookup f=some #[oc,od, .func (fnOf name c params h scope z kV B M an cdv p),a6])(ar:codeIn K cdv c=true)(S:aE N ps scope)(len:∀vs H Q E,sp vs H Q E->vs.length=ps.length)(ai:∀(A:Around)(outer:List Env)(s:Shared)(H:Hp)(vs:List V)(Q:VK)(E:XK),Room k (A.deeper (envOfC c scope s.heap.objs.size f cdv))->sp vs H Q E->
   ∃t,PSs (yZ CX P w K mg base N c scope f cdv A outer s H E) h t/\t {nx:=λ_ H'=>Q .non H',rt:=Q} (start N vs) H):
  lj P w K mg base CX (k+1) f (fnOf name c params h scope z kV B M an cdv p) ps sp:=by
 refine#[len,λA outer s H args us vs Q E i d hb r L=> ?_];have hl:=len _ _ _ _ L;have m:K.In s.heap:=d.mod.kin.keeps λb o e=>(d.bs b o e).1;have a3:s.heap.NoLimit:=d.mod.nolimit.keeps λb o e=>(d.bs b o e).1;have ay:∀y∈ps.zip us,scope.names.lookup y.1=some .local\/(scope.names.lookup y.1=some .cell/\((cellsFrom (s.heap.objs.size+1) scope.names []).lookup y.1).isSome=true):=λ⟨n,v⟩ hy=>by
  rcases S.par n (Ul hy).1 with q|q
  .exact .inl q
  .exact .inr #[q,PySem.W.cellsFrom_some _ _ _ (.inl q)]
 refine codeAny_call_function i.depth (m _ _ lk) rfl S.co S.gen rfl (PySem.W.codeRec_of m ar) (hb _ _ _ _ ?_);refine wpAny_newFunctionEnv_cells S.kind ay λenv he O x=> ?_;subst he;refine#[a3.keeps x.toInCall.keep,codeAny_func ?_];obtain⟨t,ht,hq⟩:=ai A outer s H vs Q E (i.deeper _) L;have I:Inv (yZ CX P w K mg base N c scope f cdv A outer s H E) [] (start N vs) H O:=Gd S i.hd d hl r x;refine Tn (ht [] O (start N vs) H _ I hq) (λU l a=> ?_) λe l a=>a;have G:∀ {g:St} {H':Hp} {v:V} {u:Value},Inv (yZ CX P w K mg base N c scope f cdv A outer s H E) [] g H' l->bY v u->Q v H'->CE outer P w H s Q u l:=
  λ{g H' v u} J j q=>#[v,H',J.os,J.bare,J.base,J.hok,j,q]
 cases U with
 |ret u=>
  obtain⟨v,g,H',J,j,q⟩:=a;exact G J j q
 |next=>
  obtain⟨g,H',J,q⟩:=a;exact G (v:=V.non) (u:=Value.none) J rfl q
 |brk=>
  obtain⟨_,_,_,q⟩:=a;exact False.elim q
 |cont=>
  obtain⟨_,_,_,q⟩:=a;exact False.elim q
section
variable{X:Cx}{x:Str}{p pos:Pos}{e:Expr}{es:List Expr}{t:TA}{id T:String}{r:List V->Hp->VK->Prop}
def tCB(r:List V->Hp->VK->Prop)(t:TA):TE:=λb H Q=>t b H λvs a=>r vs a Q
theorem eO(g:gg X (.builtin id) r)(k:Gl X x)(l:X.mg x=none)(o:bootBuiltins x=some (.builtin id))(f:PA X (e::es) t)(m:x≠ VQ:=by decide)(i:(x==(Vo:Str))=false:=by decide)(j:starEach (e::es) X.env=(false,eval e X.env)::starEach es X.env:=by rfl)(n:(backTo pos (starEach es X.env)).any (·.1)=false:=by rfl):PE X (.Call (.Name x p) (e::es) [] pos) (tCB r t):=by
 intro a s b H Q I h;refine Sj (kq I k l o ?_ m i);exact PyProof.Rows.callWith_builtin1 (thn (f pos a s b H _ I h) λus v ⟨vs,c,d,u,q⟩=>g a v b c vs us Q d u q) j n
theorem eY(g:gg X (.type T) r)(k:Gl X x)(l:X.mg x=none)(o:bootBuiltins x=some (.type T))(f:PA X (e::es) t)(m:x≠ VQ:=by decide)(i:(x==(Vo:Str))=false:=by decide)(j:starEach (e::es) X.env=(false,eval e X.env)::starEach es X.env:=by rfl)(n:(backTo pos (starEach es X.env)).any (·.1)=false:=by rfl):PE X (.Call (.Name x p) (e::es) [] pos) (tCB r t):=by
 intro a s b H Q I h;refine Sj (kq I k l o ?_ m i);exact Q4 (thn (f pos a s b H _ I h) λus v ⟨vs,c,d,u,q⟩=>g a v b c vs us Q d u q) j n
end
end L2
namespace HT
open PySem PyProof.Rows
section
variable{prog:Program}{w:World}{A:Around}{E:Value->Shared->Prop}{s:Shared}
def sIx(n d:Nat):Option Int->Nat
 |none=>d
 |some v=>if v<0 then(v+(n:Int)).toNat else min v.toNat n
theorem t7(n d:Nat):sIx n d none=d:=rfl
theorem yj(n d k:Nat):sIx n d (some (k:Int))=min k n:=by show(if(k:Int)<0 then((k:Int)+(n:Int)).toNat else min (k:Int).toNat n)=min k n;rw[Pb (),Pj]
end
end HT
namespace L2
open PySem PySem.Spec PyProof.Rows
abbrev TO:=St->Hp->(Option Int->Hp->Prop)->Prop
def PO(X:Cx)(e:Option Expr)(t:TO):Prop:=
 ∀(b:List (Addr×Obj)) (s:Shared) (a:St) (H:Hp) (Q:Option Int->Hp->Prop),Inv X b a H s->t a H Q->
  wpAny (model X.prog X.w) X.A (evalPart e X.env) (λu c=>∃o H',Inv X b a H' c/\IsPart u o/\Q o H') X.xe s
def Kz:TO:=λ_ H Q=>Q none H
def NY(t:TE):TO:=λb H Q=>t b H λx a=>∃i,x= .int i/\Q (some i) a
theorem uJ{ns:List Int}:∀ {us:List Value},Vals (ns.map V.int) us->IntsAre us ns:=by
 induction ns with
 |nil=>intro us r;rw[Su]at r;cases r;exact .nil
 |cons n ns a=>
  intro us r;rw[Qb]at r;cases r with
  |cons b c=>
   obtain⟨t,e⟩:=b;subst e;exact .cons n t (a c)
section
variable{X:Cx}{e:Expr}{te:TE}{lo hi:Option Expr}{tl th:TO}{pos p2:Pos}
theorem sG:PO X none Kz:=by intro a s b H Q I h;rw[evalPart_none];exact QX #[none,H,I, .none,h]
theorem sF(h:PE X e te):PO X (some e) (NY te):=by intro d s j H Q I c;rw[evalPart_some];refine thn (h d s j H _ I c) λu k ⟨x,a,b,g,f⟩=> ?_;obtain⟨i,rfl,q⟩:=f;obtain⟨t,rfl⟩:=g;exact#[some i,a,b, .int i t,q]
def SlR(X:Cx)(r:V->Option Int->Option Int->Hp->VK->Prop):Prop:=
 ∀(a:List (Addr×Obj)) (s:Shared) (f:St) (H:Hp) (x:V) (v c d:Value) (lo hi:Option Int) (b:Addr) (Q:VK),Inv X a f H s->bY x v->s.heap.IsSliceOf b c d .none->IsPart c lo->IsPart d hi->r x lo hi H Q->
  ∃T id,typeLookup (.type T) "__getitem__"=pure (some (.builtin id))/\s.TypeIs v T/\wpAny (model X.prog X.w) X.A (getItem v (.ref b)) (EP X a f Q) X.xe s
def tSl(r:V->Option Int->Option Int->Hp->VK->Prop)(te:TE)(tl th:TO):TE:=λa H Q=>te a H λx b=>tl a b λl c=>th a c λu d=>r x l u d Q
theorem pU(B:SlR X r)(y:PE X e te)(hl:PO X lo tl)(J:PO X hi th):PE X (.Subscript e (.Slice lo hi none p2) pos) (tSl r te tl th):=by intro c s d H Q I h;refine Subscript_ (thn (y c s d H _ I h) λv U ⟨x,j,m,O,L⟩=> ?_);refine wpAny_Slice (thn (hl c U d j _ m L) λf s2 ⟨l,k,n,pl,M⟩=>thn (J c s2 d k _ n M) λg a ⟨u,i,o,K,N⟩=> ?_);rw[evalPart_none];refine QX ?_;have p:Inv X c d i {a with heap:=a.heap.push {cls:= .type "slice",data:= .fields #v[f,g, .none]}}:=o.kept (t':=a.toks) λb ob q=>Qe _ q;obtain⟨T,id,t,G,z⟩:=B c {a with heap:=a.heap.push {cls:= .type "slice",data:= .fields #v[f,g, .none]}} d i x v f g l u a.heap.objs.size Q p O (Heap.IsSliceOf.new ..) pl K N;show wpAny (model X.prog X.w) X.A (subscriptTail e (.Slice lo hi none p2) v (.ref a.heap.objs.size)) (EP X c d Q) X.xe {a with heap:=a.heap.push {cls:= .type "slice",data:= .fields #v[f,g, .none]}};exact tail_any (ops:=[.ref a.heap.objs.size,v]) G t z (by with_unfolding_all rfl)
def so(xs:List V)(lo hi:Option Int):List V:=(xs.drop (HT.sIx xs.length 0 lo)).take (HT.sIx xs.length xs.length hi-HT.sIx xs.length 0 lo)
theorem Bu(xs:List V)(lo hi:Option Int):(so xs lo hi).length<=xs.length:=by unfold so;rw[P6,RD];exact Pr (Nat.min_le_right _ _) (Nat.sub_le _ _)
end
def ixN(n:Nat)(i:Int):Option Nat:=if 0<=i then(if i<n then some i.toNat else none)else if-(n:Int)<=i then some (i+n).toNat else none
def atI{a:Type}(xs:List a)(i:Int):Option a:=(ixN xs.length i).bind λj=>xs[j]?
theorem LG(h:ixN n i=some j):seqIndex? i n=some j/\j<n/\ -(n:Int)<=i/\i<n:=by
 unfold ixN at h;by_cases b:0<=i
 .rw[Pd b]at h;by_cases a:i<n
  .rw[Pd a]at h;have e:i.toNat=j:=Qq h;exact#[by rw[seqIndex_of b a,e],99,a]
  .rw[Pb a]at h;cases h
 .rw[Pb b]at h;by_cases a: -(n:Int)<=i
  .rw[Pd a]at h;have e:(i+n).toNat=j:=Qq h;exact#[by rw[seqIndex_neg () a,e],9,a,9]
  .rw[Pb a]at h;cases h
theorem Ey{xs:List α}(h:atI xs i=some v):∃j,seqIndex? i xs.length=some j/\xs[j]?=some v/\j<xs.length/\ -(xs.length:Int)<=i/\i<xs.length:=by
 unfold atI at h;cases e:ixN xs.length i with
 |none=>rw[e]at h;cases h
 |some j=>
  rw[e]at h;obtain⟨a,b,c,d⟩:=LG e;exact#[j,a,h,b,c,d]
theorem iw{j:Nat}(h:xs[j]?=some v):atI xs (j:Int)=some v:=by
 have a:j<xs.length:=(Pn.mp h).1;have e:ixN xs.length (j:Int)=some j:=by unfold ixN;rw[Pd (),Pd ()];simp
 unfold atI;rw[e];exact h
def zz(b:Expr):Prop:=∀o i,subscripted b false o i=operate [o,i] (getItem o i)
def IxR(X:Cx)(r:R2):Prop:=
 ∀(c slice:Expr) (a:List (Addr×Obj)) (s:Shared) (b:St) (H:Hp) (x y:V) (v u:Value) (Q:VK),Inv X a b H s->bY x v->bY y u->r x y H Q->
  subscripted slice false v u=operate [v,u] (getItem v u)->wpAny (model X.prog X.w) X.A (subscriptTail c slice v u) (EP X a b Q) X.xe s
def MtR(X:Cx)(id:String)(r:V->List V->Hp->VK->Prop):Prop:=
 ∀(a:List (Addr×Obj)) (s:Shared) (b:St) (H:Hp) (x:V) (xs:List V) (v:Value) (us:List Value) (Q:VK),Inv X a b H s->bY x v->Vals xs us->r x xs H Q->
  wpAny (model X.prog X.w) X.A (call (.builtin id) (v::us)) (EP X a b Q) X.xe s
section
variable{X:Cx}{a b:Expr}{ta tb:TE}{pos:Pos}
theorem Ea(g:IxR X r)(e:PE X a ta)(f:PE X b tb)(i:zz b):PE X (.Subscript a b pos) (tOp r ta tb):=by intro j s n H Q I h;exact Subscript_ (NS e f I h λv u m x y c d k l q=>g a b j m n c x y v u Q d k l q (i _ _))
inductive RdX(K:Frag)(x y:V)(H:Hp)(Q:VK):Prop
 |mk(p:Addr) (xs:List V) (i:Int) (v:V) (e1:x= .ref p) (e2:y= .int i) (s:SqL K H p xs) (a:atI xs i=some v) (q:Q v H):RdX K x y H Q
def Ii(K:Frag):R2:=λx y H Q=>RdX K x y H Q
def MW(K:Frag):R2:=λx y H Q=>∃p xs i v,x= .ref p/\y= .int i/\SqT K H p xs/\atI xs i=some v/\Q v H
theorem LF:IxR X (Ii X.K):=by
 intro ar slice l s m H x y v u Q I M N h k;obtain⟨p,xs,i,z,rfl,rfl,G,B,q⟩:=h;cases M;obtain⟨t,rfl⟩:=N;obtain⟨J,r,pl,hz⟩:=I.list G;obtain⟨j,c,n,U,o,A⟩:=Ey B;obtain⟨w,e,L⟩:=r.get n;have hl:=r.length;have hn:=yK;have f:EP X l m Q w s:=#[z,H,I,L,q];by_cases g:0<=i
 .have d:i.toNat=j:=by rw[seqIndex_of g A]at c;exact Qq c
  exact item_listR pl.isList g () (by rw[d];simpa using e) f k
 .have d:(i+(J.toArray.size:Int)).toNat=j:=by rw[seqIndex_neg () o]at c;rw[Qh,<-hl];exact Qq c
  exact subscriptTail_builtinR (x:=w) pl.isList.typeIs slot_list_getitem.lookup
   (wpAny_getItem_list_neg (Q:=λr O=>r=w/\EP X l m Q r O) pl.isList () (by rw[Qh]<;>lia) () (by rw[d];simpa using e) #[2,f]) k
theorem NC:IxR X (MW X.K):=by
 intro ag slice c s d H x y v u Q I A B h n;obtain⟨p,xs,i,z,rfl,rfl,m,l,q⟩:=h;cases A;obtain⟨t,rfl⟩:=B;obtain⟨U,r,pl,O⟩:=I.tuple m;obtain⟨j,g,k,J,L,M⟩:=Ey l;obtain⟨w,e,o⟩:=r.get k;have hl:=r.length;have N:=yK;have f:EP X c d Q w s:=#[z,H,I,o,q];exact subscriptTail_builtinR (x:=w) pl.typeIs slot_tuple_getitem.lookup
  (getItem_tuple (j:=j) (Q:=λr G=>r=w/\EP X c d Q r G) pl () () (by rw[Qh,<-hl];exact g) #[5,e] #[2,f]) n
theorem xZ(d c:Option Int)(n:Nat):(sliceBounds d c none n).1=((HT.sIx n 0 d:Nat):Int)/\(sliceBounds d c none n).2.1=((HT.sIx n n c:Nat):Int)/\(sliceBounds d c none n).2.2=1:=by
 refine#[662]
 .cases d with
  |none=>simp[sliceBounds,HT.sIx]
  |some i=>
   simp only[sliceBounds,HT.sIx,Option.getD_none,show(1:Int)>0 by decide,Uq];by_cases h:i<0
   .simp only[h,Uq]<;>lia
   .simp only[h,if_false]<;>lia
 .cases c with
  |none=>simp[sliceBounds,HT.sIx]
  |some i=>
   simp only[sliceBounds,HT.sIx,Option.getD_none,show(1:Int)>0 by decide,Uq];by_cases h:i<0
   .simp only[h,Uq]<;>lia
   .simp only[h,if_false]<;>lia
theorem vv(c:List Value)(d e:Option Int):slicePick c.toArray d e none=((c.drop (HT.sIx c.length 0 d)).take (HT.sIx c.length c.length e-HT.sIx c.length 0 d)).toArray:=by obtain⟨f,g,h⟩:=xZ d e c.toArray.size;unfold slicePick;rw[f,g,h];simp only[sliceRange_one,pick_run,Qh]<;>rfl
def Of(K:Frag):V->Option Int->Option Int->Hp->VK->Prop:=λx d c H Q=>∃a xs,x= .ref a/\SqL K H a xs/\∀p,H p=none->Q (.ref p) (upd H p (.lst (so xs d c)))
theorem KH:SlR X (Of X.K):=by intro p s y H x v u w c d t Q I l g pl k h;obtain⟨a,xs,rfl,i,q⟩:=h;cases l;obtain⟨m,r,e,j⟩:=I.list i;have f:=r.length;refine#[Vt,_,slot_list_getitem.lookup,e.isList.typeIs,6];refine wpAny_getItem_list_slice e.isList g pl k .none #[5] ?_ (by rw[Qh]<;>lia);rw[vv,<-f];refine#[.ref s.heap.objs.size,_,I.laid (t':=s.toks) (o:= .lst (so xs c d)) (λb n q=>Qe _ q) (Pu _) ?_,2,q _ (I.hok.fresh (Pu _))];exact#[Pr (Bu xs c d) j,_,0,(r.drop (HT.sIx xs.length 0 c)).take (HT.sIx xs.length xs.length d-HT.sIx xs.length 0 c),QK _ rfl]
def qj:V->Bool
 | .non=>true
 | .bl _=>true
 | .int _=>true
 | .str _=>true
 |_=>false
def eqV:V->V->Bool
 | .non, .non=>true
 | .bl a, .bl b=>a==b
 | .bl a, .int b=>(if a then 1 else 0)==b
 | .int a, .bl b=>a==(if b then 1 else 0)
 | .int a, .int b=>a==b
 | .str a, .str b=>a==b
 |_,_=>false
theorem NI(e:bY y u)(c:bY x v)(f:qj y=true)(d:qj x=true):SeqAt.EqAt A s u v (eqV y x):=by
 cases y with
 |non=>
  cases e;cases x with
  |non=>cases c;exact SeqAt.EqAt.same _
  |bl b=>cases c;exact SeqAt.EqAt.none_bool b
  |int b=>obtain⟨t,rfl⟩:=c;exact SeqAt.EqAt.none_int b t
  |str b=>obtain⟨t,rfl⟩:=c;exact SeqAt.EqAt.none_str b t
  |_=>exact absurd (show false=true from d) PQ
 |bl a=>
  cases e;cases x with
  |non=>cases c;exact SeqAt.EqAt.bool_none a
  |bl b=>cases c;exact SeqAt.EqAt.bool_bool a b
  |int b=>obtain⟨t,rfl⟩:=c;exact SeqAt.EqAt.bool_int a b t
  |str b=>obtain⟨t,rfl⟩:=c;exact SeqAt.EqAt.bool_str a b t
  |_=>exact absurd (show false=true from d) PQ
 |int a=>
  obtain⟨t',rfl⟩:=e;cases x with
  |non=>cases c;exact SeqAt.EqAt.int_none a t'
  |bl b=>cases c;exact SeqAt.EqAt.int_bool a t' b
  |int b=>obtain⟨t,rfl⟩:=c;exact SeqAt.EqAt.int_int a t' b t
  |str b=>obtain⟨t,rfl⟩:=c;exact SeqAt.EqAt.int_str a t' b t
  |_=>exact absurd (show false=true from d) PQ
 |str a=>
  obtain⟨t',rfl⟩:=e;cases x with
  |non=>cases c;exact SeqAt.EqAt.str_none a t'
  |bl b=>cases c;exact SeqAt.EqAt.str_bool a t' b
  |int b=>obtain⟨t,rfl⟩:=c;exact SeqAt.EqAt.str_int a t' b t
  |str b=>obtain⟨t,rfl⟩:=c;exact SeqAt.EqAt.str_str a t' b t
  |_=>exact absurd (show false=true from d) PQ
 |_=>exact absurd (show false=true from f) PQ
def eqU(x:V)(u:Value):Bool:=match u with
 | .none=>eqV .non x
 | .bool b=>eqV (.bl b) x
 | .int i _=>eqV (.int i) x
 | .str z _=>eqV (.str z) x
 |_=>false
theorem JQ(r:bY y u)(f:qj y=true):eqU x u=eqV y x:=by
 cases y with
 |non=>cases r;rfl
 |bl b=>cases r;rfl
 |int i=>obtain⟨t,rfl⟩:=r;rfl
 |str z=>obtain⟨t,rfl⟩:=r;rfl
 |_=>exact absurd (show false=true from f) PQ
theorem qv:∀ {xs:List V} {us:List Value},Vals xs us->xs.all qj=true->us.any (eqU x)=xs.any λy=>eqV y x
 |_,_, .nil,_=>rfl
 |y::xs,u::us, .cons r t,f=>by rw[TZ,PX]at f;rw[SA,SA,JQ r f.1,qv t f.2]
theorem mG(e:bY x v)(d:qj x=true):∀ {xs:List V} {us:List Value},Vals xs us->xs.all qj=true->∀u∈us,SeqAt.EqAt A s u v (eqU x u)
 |_,_, .nil,_=>λu c=>by cases c
 |y::xs,u::us, .cons r t,f=>λg c=>by
  rw[TZ,PX]at f;rcases Pk.mp c with rfl|c
  .rw[JQ r f.1];exact NI r e f.1 d
  .exact mG e d t f.2 g c
def inV(x:V)(xs:List V):Bool:=xs.any λy=>eqV y x
def rIn(K:Frag)(c:Bool):R2:=λx y H Q=>∃p xs,y= .ref p/\(SqL K H p xs\/SqT K H p xs)/\qj x=true/\xs.all qj=true/\Q (.bl (if c then !inV x xs else inV x xs)) H
theorem FC:OpR X (compareOp .In) (rIn X.K false):=by
 intro k s l H x y v u Q I g j h;obtain⟨p,xs,rfl,c,f,fs,q⟩:=h;cases j;rcases c with c|c
 .obtain⟨d,r,pl,i⟩:=I.list c;refine SeqAt.in_listAt (eqU x) pl.isList (λw e=>mG g f r fs w #[5,e]) #[.bl _,H,I,26];rw[show d.toArray.any (eqU x)=d.any (eqU x) by simp,qv r fs];exact q
 .obtain⟨d,r,pl,i⟩:=I.tuple c;refine SeqAt.in_tupleAt (eqU x) pl (λw e=>mG g f r fs w #[5,e]) #[.bl _,H,I,26];rw[show d.toArray.any (eqU x)=d.any (eqU x) by simp,qv r fs];exact q
theorem yz:OpR X (compareOp .NotIn) (rIn X.K true):=by
 intro k s l H x y v u Q I g j h;obtain⟨p,xs,rfl,c,f,fs,q⟩:=h;cases j;rcases c with c|c
 .obtain⟨d,r,pl,i⟩:=I.list c;refine SeqAt.notIn_listAt (eqU x) pl.isList (λw e=>mG g f r fs w #[5,e]) #[.bl _,H,I,26];rw[show d.toArray.any (eqU x)=d.any (eqU x) by simp,qv r fs];exact q
 .obtain⟨d,r,pl,i⟩:=I.tuple c;refine SeqAt.notIn_tupleAt (eqU x) pl (λw e=>mG g f r fs w #[5,e]) #[.bl _,H,I,26];rw[show d.toArray.any (eqU x)=d.any (eqU x) by simp,qv r fs];exact q
theorem zi:gg X (.builtin "len") (λxs H Q=>∃p c,xs=[.ref p]/\(SqL X.K H p c\/SqT X.K H p c)/\Q (.int c.length) H):=by
 intro l s m H xs us Q I r h;obtain⟨p,c,rfl,d,q⟩:=h;obtain⟨u,rfl,j⟩:=rp r;cases j;have k:=yK;rcases d with d|d
 .obtain⟨i,f,pl,g⟩:=I.list d;have e:=f.length;exact Calls.call_len_list pl.isList (by simp only[Qh]<;>lia) #[.int c.length,H,I.tok _,#[s.toks+1,by rw[Qh,e]],q]
 .obtain⟨i,f,pl,g⟩:=I.tuple d;have e:=f.length;exact len_tuple pl (by simp only[Qh]<;>lia) #[.int c.length,H,I.tok _,#[s.toks+1,by rw[Qh,e]],q]
theorem zh:gg X (.type Vt) (λxs H Q=>∃p g,xs=[.ref p]/\(SqL X.K H p g\/SqT X.K H p g)/\∀l,H l=none->Q (.ref l) (upd H l (.lst g))):=by
 intro A s G H xs us Q I r h;obtain⟨p,g,rfl,i,q⟩:=h;obtain⟨u,rfl,B⟩:=rp r;cases B;have x:∀(c:List Value),Vals g c->g.length<=sizeLine->∀(h':Heap)(d:Nat),(∀b y,s.heap.get? b=some y->h'.get? b=some y)->
   h'.get? s.heap.objs.size=some {cls:= .type Vt,dict:=none,data:= .seq c.toArray d,slots:= #v[]}->EP X A G Q (.ref s.heap.objs.size) {s with heap:=h'}:=λc f j h' d k e=>
  #[.ref s.heap.objs.size,_,I.laid (t':=s.toks) k (Pu _) (show cF X.prog X.w _ h' _ (.lst g)from#[j,c,d,f,e]),2,q _ (I.hok.fresh (Pu _))]
 rcases i with i|i
 .obtain⟨c,f,pl,j⟩:=I.list i;have z:=f.length;obtain⟨o,v,m,n,t⟩:=pl.isList;exact call_list_seq p (.inl rfl) v m t (λh' d k e=>x c f j h' d k e) (by simp only[Qh]<;>lia)
 .obtain⟨c,f,pl,j⟩:=I.tuple i;have z:=f.length;obtain⟨o,v,m,n,t⟩:=pl;exact call_list_seq p (.inr rfl) v m t (λh' d k e=>x c f j h' d k e) (by simp only[Qh]<;>lia)
theorem vT:gg X (.type VA) (λxs H Q=>∃p c,xs=[.ref p]/\((SqL X.K H p c/\∀l,H l=none->Q (.ref l) (upd H l (.tup c)))\/(SqT X.K H p c/\Q (.ref p) H))):=by
 intro k s m H xs us Q I r h;obtain⟨p,c,rfl,h⟩:=h;obtain⟨u,rfl,v⟩:=rp r;cases v;rcases h with ⟨d,q⟩|⟨d,q⟩
 .obtain⟨f,g,pl,j⟩:=I.list d;have x:=g.length;refine call_tuple_list pl.isList (λh' t=> ?_) (by simp only[Qh]<;>lia);have i:Inv X k m H {s with heap:=h'}:=I.kept (t':=s.toks) t;have n:Inv X k m (upd H h'.objs.size (.tup c)) {s with heap:=h'.push {cls:= .type VA,data:= .seq f.toArray}}:=
   i.laid (t':=s.toks) (λb o e=>Qe _ e) (Pu _) (show cF X.prog X.w _ _ _ (.tup c)from#[j,f,g,IsTup.new _ _])
  exact#[.ref h'.objs.size,_,n,2,q _ (i.hok.fresh (Pu _))]
 .obtain⟨f,g,pl,j⟩:=I.tuple d;exact call_tuple_same pl #[.ref p,H,I,2,q]
def tyV(K:Frag)(T:String)(x:V)(H:Hp):Prop:=match x with
 | .str _=>T= "str"
 | .int _=>T= "int"
 | .ref p=>(T= Vt/\∃xs,SqL K H p xs)\/(T= VA/\∃o,K.lookup p=some o/\o.cls= .type VA/\o.dict=none)\/
   (T= VH/\((∃kvs,H p=some (.dK kvs))\/∃kvs,H p=some (.dT kvs)))\/(T= "set"/\∃S n,H p=some (.set S n))
 |_=>False
theorem GO{l:St}{s:Shared}(I:Inv X pins l H s)(r:bY x v)(ty:tyV X.K T x H):
  s.TypeIs v T/\∀a,v= .ref a->∃h,s.heap.get? a=some h/\h.dict=none:=by
 cases x with
 |str z=>
  obtain⟨t,rfl⟩:=r;cases (show T= "str" from ty);exact#[typeIs_str s z t,λ_ e=>nomatch e]
 |int i=>
  obtain⟨t,rfl⟩:=r;cases (show T= "int" from ty);exact#[typeIs_int s i t,λ_ e=>nomatch e]
 |ref p=>
  cases r;rcases ty with ⟨rfl,xs,k⟩|⟨rfl,o,d,j,g⟩|⟨rfl,d⟩|⟨rfl,S,n,d⟩
  .obtain⟨m,_,pl,_⟩:=I.list k;refine#[pl.isList.typeIs,λa e=> ?_];cases e;obtain⟨o,n,e,c,g,_⟩:=pl;exact#[o,e,g]
  .refine#[#[o,I.kIn p o d,j],λa e=> ?_];cases e;exact#[o,I.kIn _ o d,g]
  .have z:∃o,s.heap.get? p=some o/\o.ExactDict:=by
    rcases d with ⟨kvs,d⟩|⟨kvs,d⟩
    .obtain⟨_,_,_,_,o,_,_,e,ex,_⟩:=I.hok p _ d;exact#[o,e,ex]
    .obtain⟨_,_,_,_,o,_,_,e,ex,_⟩:=I.hok p _ d;exact#[o,e,ex]
   obtain⟨o,e,ex⟩:=z;refine#[#[o,e,ex.1],λa f=> ?_];cases f;exact#[o,e,ex.2.1]
  .obtain⟨o,_,_,_,e,ex,_⟩:=I.hok p _ d;refine#[#[o,e,ex.1],λa f=> ?_];cases f;exact#[o,e,ex.2.1]
 |_=>exact False.elim ty
def N8(K:Frag)(T:String)(r:V->List V->Hp->VK->Prop)(to:TE):TE:=λd H Q=>to d H λx c=>tyV K T x c/\r x [] c Q
def tBM(K:Frag)(T:String)(r:V->List V->Hp->VK->Prop)(to:TE)(t:TA):TE:=λd H Q=>to d H λx c=>tyV K T x c/\t d c λxs e=>r x xs e Q
variable{o e:Expr}{es:List Expr}{to:TE}{t:TA}{name:Str}{apos cpos:Pos}{T id:String}{r:V->List V->Hp->VK->Prop}
theorem Nh(u:PlainAttrs T)(slot:Slot T name id)(q:typeOf (.builtin id)=pure (.type Vw))(n:MtR X id r)(p:PE X o to)(l:attributeBase o name X.env (eval o X.env)=eval o X.env:=by rfl)(m:(apos.endLine==cpos.line)=true:=by rfl):PE X (.Call (.Attribute o name apos) [] [] cpos) (N8 X.K T r to):=by
 intro d s g H Q I h;refine wpAny_Call_method0_late l m (thn (p d s g H _ I h) λv y ⟨x,i,c,f,ty,w⟩=> ?_);obtain⟨j,k⟩:=GO c f ty;exact#[T,id,u,slot,q,j,k,Calls.callWith_builtin rfl (PySem.evalArgs_none (n d y g i x [] v [] Q c f .nil w))]
theorem Ol(J:PlainAttrs T)(slot:Slot T name id)(G:typeOf (.builtin id)=pure (.type Vw))(y:MtR X id r)(z:PE X o to)(p:PA X (e::es) t)(q:attributeBase o name X.env (eval o X.env)=eval o X.env:=by rfl)(u:((backTo cpos (starEach (e::es) X.env)).all (λx=> !x.1)&&(backToKw cpos (keywordEach [] X.env)).all (λx=>x.1.isSome)
   &&decide ((e::es).length+([]:List Keyword).length+(if([]:List Keyword).isEmpty then 0 else 1)<30))=true:=by rfl)(w:(apos.endLine==cpos.line)=true:=by rfl)(B:starEach (e::es) X.env=(false,eval e X.env)::starEach es X.env:=by rfl)(A:(backTo cpos (starEach es X.env)).any (·.1)=false:=by rfl):
  PE X (.Call (.Attribute o name apos) (e::es) [] cpos) (tBM X.K T r to t):=by
 intro c s d H Q I h;refine wpAny_Call_method_late q u w rfl (thn (z c s d H _ I h) λv O ⟨x,j,f,i,ty,L⟩=> ?_);obtain⟨m,n⟩:=GO f i ty;refine#[T,id,J,slot,G,m,n,6];have g:=p cpos c O d j _ f L;rw[B]at g⊢;refine Calls.callWith_builtin (by show(false||(backTo cpos (starEach es X.env)).any (·.1))=false;rw[A]<;>rfl) (Calls.evalArgs_plain ?_);exact thn g λus U ⟨vs,k,l,N,M⟩=>y c U d k x vs v us Q l i N M
end
def MtM(X:Cx)(id:String)(r:V->List V->Hp->VK->Prop):Prop:=
 ∀(a:List (Addr×Obj)) (s:Shared) (b:St) (H:Hp) (x:V) (xs:List V) (v:Value) (us:List Value) (Q:VK),Inv X a b H s->bY x v->Vals xs us->r x xs H Q->
  wpAny (model X.prog X.w) X.A (call (.builtin id) (v::us)) (EP X a b Q) X.xe s
theorem Vals.one(h:Vals [x] us):∃u,us=[u]/\bY x u:=by
 cases h with
 |cons r q=>cases q;exact#[7,r]
theorem Vals.two(h:Vals [x,y] us):∃u v,us=[u,v]/\bY x u/\bY y v:=by
 cases h with
 |cons r q=>obtain⟨v,rfl,a⟩:=Vals.one q;exact#[17,r,a]
theorem Vals.zero:∀ {us:List Value},Vals [] us->us=[]
 |_, .nil=>rfl
section
variable{X:Cx}{pins:List (Addr×Obj)}{σ:St}{H:Hp}{s:Shared}{l b:Addr}{xs ys zs:List V}
theorem Inv.lset{a its':List Value}(I:Inv X pins σ H s)(c:H l=some (.lst xs))(e:s.heap.get? l=some {cls:= .type Vt,data:= .seq a.toArray n})(g:f a.toArray=its'.toArray)(i:Vals ys its')(j:ys.length<=sizeLine):
  Inv X pins σ (upd H l (.lst ys)) {s with heap:=s.heap.update l (Obj.mapSeq f),toks:=t'}:=by
 have q:=PySem.IsL.update e f;rw[g]at q;refine I.write (x:=l) (e:=l) (by rw[c];exact trivial) (.inl rfl) (λk u d h=>(Heap.get?_update_other s.heap (Obj.mapSeq f) (Q7 d)).trans h) #[_,q] ?_;exact#[j,its',_,i,q]
theorem Inv.lnew{a:List Value}(I:Inv X pins σ H s)(c:Vals ys a)(d:ys.length<=sizeLine):
  Inv X pins σ (upd H s.heap.objs.size (.lst ys)) {s with heap:=s.heap.push {cls:= .type Vt,data:= .seq a.toArray},toks:=t'}:=
 I.laid (λ_ _ q=>Qe _ q) (Pu _) #[d,a,0,c,QK _ rfl]
theorem Inv.fresh(I:Inv X pins σ H s):H s.heap.objs.size=none:=I.hok.fresh (Pu _)
theorem Inv.lstM(I:Inv X pins σ H s)(c:H l=some (.lst xs)):xs.length<=sizeLine/\∃(a:List Value)(n:Nat),Vals xs a/\xs.length=a.length/\s.heap.get? l=some {cls:= .type Vt,data:= .seq a.toArray n}:=by obtain⟨z,a,n,r,e⟩:=I.hok l _ c;exact#[z,a,n,r,r.length,e]
theorem IQ(h:n<=sizeLine):Builtin.List.listTooLong n=false:=by unfold Builtin.List.listTooLong;exact Pc ()
end
section
variable{X:Cx}
inductive RdA(x:V)(vs:List V)(H:Hp)(Q:VK):Prop
 |mk(l:Addr) (xs:List V) (y:V) (e1:x= .ref l) (e2:vs=[y]) (h:H l=some (.lst xs)) (n:xs.length<sizeLine) (q:Q .non (upd H l (.lst (xs++[y])))):RdA x vs H Q
def K2:V->List V->Hp->VK->Prop:=λx vs H Q=>RdA x vs H Q
theorem e7:MtM X "list.append" K2:=by intro i s j H x vs v us Q I f d h;obtain⟨l,xs,y,rfl,rfl,a,g,q⟩:=h;cases f;obtain⟨u,rfl,c⟩:=d.one;obtain⟨z,b,n,r,hl,e⟩:=I.lstM a;refine call_meets F.slot_list_append #[_,e,2] F.entry_list_append (F.args_list_append_2 _ _) (PySem.list_append l b.toArray n u (by rw[Qh];lia)) #[e,6];refine#[.non,_,I.lset (its':=b++[u]) a e #[5] (r.append (.cons c .nil)) ?_,2,q];rw[PK,Te];lia
def K1:V->List V->Hp->VK->Prop:=λx vs H Q=>∃l b xs a,x= .ref l/\vs=[.ref b]/\H l=some (.lst xs)/\H b=some (.lst a)/\xs.length+a.length<=sizeLine/\Q .non (upd H l (.lst (xs++a)))
theorem FO:MtM X "list.extend" K1:=by
 intro y s G H x vs v us Q I p o h;obtain⟨l,b,xs,B,rfl,rfl,d,g,w,q⟩:=h;cases p;obtain⟨u,rfl,m⟩:=o.one;cases m;obtain⟨z,a,n,r,hl,e⟩:=I.lstM d;obtain⟨A,c,j,k,t,f⟩:=I.lstM g;have hsz:a.toArray.size+c.toArray.size<=sizeLine:=by rw[Qh,Qh];lia
 have i:¬(!a.toArray.isEmpty&&Builtin.List.listTooLong (a.toArray.size+c.toArray.size))=true:=by rw[IQ hsz,Qw];exact PQ
 refine call_meets F.slot_list_extend #[_,e,2] F.entry_list_extend (F.args_list_extend_2 _ _)
  (AutoSeq1.list_extend_list_list_0 l a.toArray n b c.toArray j i (by rw[Qh];lia) ()) #[e,f,6]
 refine#[.non,_,I.lset (its':=a++c) d e #[5] (r.append k) ?_,2,q];rw[PK];lia
def OW:R2:=λx y H Q=>∃l b xs a,x= .ref l/\y= .ref b/\H l=some (.lst xs)/\H b=some (.lst a)/\xs.length+a.length<=sizeLine/\∀p,H p=none->Q (.ref p) (upd H p (.lst (xs++a)))
theorem um:OpR X (binaryOp .Add) OW:=by
 intro w s G H x y v u Q I k m h;obtain⟨l,b,xs,B,rfl,rfl,i,g,p,q⟩:=h;cases k;cases m;obtain⟨z,a,n,r,hl,e⟩:=I.lstM i;obtain⟨A,c,t,j,o,d⟩:=I.lstM g;refine PySem.P.add_list e d ?_ (by rw[Qh,Qh];lia);have f:a.toArray++c.toArray=(a++c).toArray:=#[5]
 rw[f];exact#[.ref _,_,I.lnew (t':=s.toks) (r.append j) (by rw[PK];lia),2,q _ I.fresh]
end
end L2
namespace Att
open PySem PySem.W PySem.Calls PyProof.Rows
theorem sk:∀(ns:List Int)(vs:List Value),WellAll P h vs (ns.map WData.int)->IntsAre vs ns:=by
 intro ns
 induction ns with
 |nil=>
  intro vs w;rw[Su]at w;cases w;exact .nil
 |cons n ns c=>
  intro vs w;rw[Qb]at w;cases w with
  |cons a b=>
   cases a;exact .cons _ _ (c _ b)
theorem E7{l:OpenLaw}(o:l.most=some n){h:Heap}(f:l.row.toRowW.claim.pre args=true)(t:WellAll P h vals args):
  ∃a vs ns,vals=[Value.ref a]/\args=[WData.list (ns.map WData.int)]/\h.get? a=some {cls:= .type Vt,data:= .seq vs.toArray}/\IntsAre vs ns/\ns.length<=n:=by
 have s:WShape.hasAll [] args [.list .int]=true:=(pre_splitW f).1;have e:l.pre.holds [] {args:=args}=true:=(pre_splitW f).2;obtain⟨d,r,rfl,g,i⟩:=hasAllW_cons s;obtain rfl:=hasAllW_nil i;obtain⟨xs,rfl,j⟩:=hasW_list g;obtain⟨ns,rfl⟩:=items_int j;have m:ns.length<=n:=by
  unfold OpenLaw.pre at e;have b:(WTm.not (.lt (.lit (.int (n:Int))) (.len (.arg 0)))).holds [] {args:=[.list (ns.map .int)]}=true:=by have b:=(holds_andW e).1;rwa[o]at b
  have c:=condW_of b (w_not (w_lt w_lit (w_len_list (w_arg rfl))));rw[My]at c;refine QM λq=> ?_;have u:(n:Int)<((ns.length:Nat):Int):=()
  first
   |(rw[Pe u]at c;exact absurd c ∅)
   |(simp at c;lia)
 cases t with
 |cons v w=>
  cases w;cases v with
  |list p k=>exact#[11,ns,22,p,sk ns _ k,m]
theorem Fp(l:OpenLaw)(args:List WData):l.row.toRowW.claim.post args (.bool true) args=true:=
 postW_of (r:=l.row.toRowW) (X:=(true==true))
  (show WShape.has [] (.bool true) .bool=true by first|rfl|decide|simp[WShape.has,WShape.arms,WShape.armsAll])
  (show(WTm.eq .res (.lit (.bool true))).value [] {args:=args,res:=some (.bool true),after:=args}=some (.bool (true==true))from w_eq_bool (w_res rfl) w_lit) rfl
theorem BE{l:OpenLaw}{d:DefRec}(J:l.most=some n)(y:d.params.defaults=[])(call:∀(w:World)(k b:Shared)(mg i:Str->Option Value)(c:Addr)(o:Obj)(j e h:Value)(a:Addr)(vs:List Value)(ns:List Int),
   Ground q loose [] XP w k mg i b.heap->YP w b.heap->
   b.heap.get? c=some o->o.data= .func (docDef d.name d.params d.body d.scope j e h)->b.heap.CodeRec e d.name->mg d.name=some (.ref c)->
   b.heap.get? a=some {cls:= .type Vt,data:= .seq vs.toArray}->IntsAre vs ns->ns.length<=n->b.gens= #v[]->
   codeAny (model l.prog w) callerA (.call (.ref c) #[[.ref a],[]]) (λr g=>r= .ok (.ret (.bool true))/\OldK b.heap g.heap/\g.os=b.os/\AllBare g.gens) b):
  WalkO q loose XP YP l.row.toRowW d [] (λf vs=>PySem.call f vs):=by
 intro w k b mg i G Y c o j e h p kV K x v m H z args vals as M Q ag O U;obtain rfl:p= .none:=Dflts.none m y;obtain rfl:kV= .none:=Dflts.noKw m;obtain⟨a,vs,ns,rfl,rfl,L,hints,A⟩:=E7 J M O;refine enter_call (T6 (call w k b mg i c o j e h a vs ns G Y K (fd_plain x) v H L hints A z) λr g N=> ?_);obtain⟨rfl,s,t,u⟩:=N;exact#[.inl #[.bool true, .bool true,[],2,λ_=>rfl, .bool true,Fp l _,λ_=>#[List.Pairwise.nil,λ_ B=>(nomatch B)]],s,t,u]
end Att
namespace L2
open PySem PySem.Spec PyProof.Rows
theorem vY:∀ {vs:List Value} {ns:List Int},IntsAre vs ns->Vals (ns.map V.int) vs
 |_,_, .nil=> .nil
 |_,_, .cons n t h=> .cons #[t,2] (vY h)
def Only(H:Hp):Prop:=∀b,H b=none\/∃o xs,H b=some (.frz o (.lst xs))
theorem Jt{K:Frag}{c:Shared}{vs:List Value}{ns:List Int}(A:K.In c.heap)(O:c.heap.Ns mainGlobals mg)(f:c.heap.Ns builtinsNs U)(a5:∀x:Str,x≠ VQ->U x=bootBuiltins x)(bp:c.heap.NoLimit)(hg:c.gens= #v[])(l:c.heap.get? a=some {cls:= .type Vt,data:= .seq vs.toArray})(N:IntsAre vs ns)(hl:ns.length<=sizeLine)(hr:Room k callerA)(F:∀base:Heap,K.In base->base.Ns mainGlobals mg->lj P w K mg base CX k fa fd [x] sp)(a6:∀(s:Shared)(u:Value),BindsTo s fd #[[u],[]] [(x,u)])(bu:∀H:Hp,Only H->SqL K H a (ns.map V.int)->sp [.ref a] H (λv _=>v= .bl true) λ_ _ _=>False)(aD:∀H e g,CX [] H c (λ_ _ _=>False) e g->False):
  codeAny (model P w) callerA (.call (.ref fa) #[[.ref a],[]]) (λr g=>r= .ok (.ret (.bool true))/\OldK c.heap g.heap/\g.os=c.os/\AllBare g.gens) c:=by
 have rv:=vY N;have bA:=N.length;have core:∀H:Hp,Only H->SqL K H a (ns.map V.int)->HOk P w H c.heap->(∀b,H b≠none->b=a)->(H a≠none->K.lookup a=none)->
   codeAny (model P w) callerA (.call (.ref fa) #[[.ref a],[]]) (λr g=>r= .ok (.ret (.bool true))/\OldK c.heap g.heap/\g.os=c.os/\AllBare g.gens) c:=by
  intro H M hS Q J hK;have B:∀ {b:Addr} {o:Obj},c.heap.get? b=some o->H b=none->(yQ c.heap H).get? b=some o:=λe n=>JE e n;have bM:∀ {b:Addr} {o:Obj} {i:Array DictEntry} {ep:Nat},c.heap.get? b=some o->o.data= .dict i ep->H b=none:=λ{b o i ep} e d=>by
   cases q:H b with
   |none=>rfl
   |some u=>
    have t:b=a:=J b (by rw[q];simp);subst t;rw[l]at e;cases e;have d':Data.seq vs.toArray _=Data.dict i ep:=d;cases d'
  have p:∀ {b:Addr} {m:Str->Option Value},c.heap.Ns b m->(yQ c.heap H).Ns b m:=λ{b m} ⟨o,i,ep,e,d,r⟩=>#[o,i,ep,B e (bM e d),d,r];have L:K.In (yQ c.heap H):=λb o e=>B (A b o e) (by
   cases q:H b with
   |none=>rfl
   |some u=>
    have t:b=a:=J b (by rw[q];simp);subst t;rw[hK (by rw[q];simp)]at e;cases e)
  have hM:Mod K mg (yQ c.heap H):=#[L,p O,#[U,p f,a5],let⟨mc,h1,h2⟩:=bp;#[mc,p h1,h2]];have e0:Dx P w K mg (yQ c.heap H) callerA [] c H:=#[2,hM,λb o e=>Lq e,Nat.le_of_eq (Ge _ _),trivial,λb f=>absurd (show b∈([]:List Addr)from f) #[5],Q, .of_eq hg];refine T6 ((F _ L (p O)).run callerA [] c H #[[.ref a],[]] [.ref a] [.ref a] _ _ hr e0 (a6 c (.ref a)) (.cons rfl .nil) (bu H M hS)) λr g h=> ?_;cases r with
  |error e=>exact(aD H e g h).elim
  |ok fl=>
   cases fl with
   |next=>exact False.elim h
   |brk=>exact False.elim h
   |cont=>exact False.elim h
   |ret u=>
    obtain⟨v,H',os,bare,un,br,r',q⟩:=h;have q':v= .bl true:=q;subst q';obtain rfl:u=Value.bool true:=r';refine#[2,OldK.of_keep λb o e=> ?_,os,bare];cases q:H b with
    |none=>exact un.keep b o e q (by intro z;exact absurd (show b∈([]:List Addr)from z) #[5]) #[5]
    |some u=>
     rcases M b with z|⟨ob,xs,z⟩
     .rw[q]at z;cases z
     .have z2:=un.frzs b ob _ z;obtain⟨G,_⟩:=Q b _ z;obtain⟨e2,_⟩:=br b _ z2;rw[e]at G;cases G;exact e2
 cases y:K.lookup a with
 |some o=>
  have e:=A a o y;rw[l]at e;cases e;refine core (λ_=>none) (λ_=> .inl rfl) (.inr #[_,vs.toArray,_,y,222,by rw[Qh,bA];exact hl,#[5,rv]]) (λb u z=>by have j:(none:Option HO)=some u:=z;cases j) (λb z=>absurd rfl z) λz=>absurd rfl z
 |none=>
  refine core (λb=>if b=a then some (.frz {cls:= .type Vt,data:= .seq vs.toArray} (.lst (ns.map V.int)))else none) (λb=> ?_) (.inl (.inr #[{cls:= .type Vt,data:= .seq vs.toArray},Pd rfl])) (λb u z=> ?_) (λb z=> ?_) λ_=>y
  .by_cases f:b=a
   .exact .inr #[11,Pd f]
   .exact .inl (Pb f)
  .by_cases f:b=a
   .have j:=(Pd f).symm.trans z;cases j;subst f;exact#[l,by rw[My];exact hl,vs,_,rv,l]
   .have j:=(Pb f).symm.trans z;cases j
  .by_cases f:b=a
   .exact f
   .exact absurd (Pb f) z
theorem DA{l:PySem.W.OpenLaw}{d:DefRec}{K:Params->Frag}{CX:World->CXT}{sp:World->Sp}{x:Str}(N:l.most=some n)(O:n<=sizeLine)(J:d.params.defaults=[])(U:Room k callerA)(A:∀(w:World)(h:Heap),YP w h->(K w.params).In h)(F:∀(w:World)(mg:Str->Option Value)(c:Addr)(h:Heap),(K w.params).In h->h.Ns mainGlobals mg->mg d.name=some (.ref c)->
   ∃i:FuncData,(∀(s:Shared)(u:Value),BindsTo s i #[[u],[]] [(x,u)])/\
    ∀base:Heap,(K w.params).In base->base.Ns mainGlobals mg->lj l.prog w (K w.params) mg base (CX w) k c i [x] (sp w))(ag:∀(w:World)(H:Hp)(a:Addr)(ns:List Int),ns.length<=n->Only H->SqL (K w.params) H a (ns.map V.int)->sp w [.ref a] H (λv _=>v= .bl true) λ_ _ _=>False)(r:∀(w:World)(H:Hp)(s:Shared)(e:Value)(j:Shared),CX w [] H s (λ_ _ _=>False) e j->False):
  PySem.W.WalkO q loose XP YP l.row.toRowW d [] (λf vs=>PySem.call f vs):=by
 refine Att.BE N J λw a4 ai mg mb c o pm cd ax a vs ns G Y ho hd ay M Q hints p L=> ?_;have m:=A w _ Y;obtain⟨i,B,t⟩:=F w mg c _ m G.T.g M;exact Jt m G.T.g G.T.b G.T.builtins G.T.nolimit L Q hints (Pr p O) U t B (λH y z=>ag w H a ns p y z) λH e j=>r w H ai e j
def cD(s:Stmt)(j:Nat):Stmt:=match s with
 | .ClassDef _ _ _ a _ _ _ _ _ _ _=>a.getD j (.Pass #[0,0,0,0])
 |_=> .Pass #[0,0,0,0]
def eC(s:Stmt):Arguments:=match s with
 | .FunctionDef _ a _ _ _ _ _ _ _ _=>a
 |_=>{posonlyargs:=[],args:=[],vararg:=none,kwonlyargs:=[],kw_defaults:=[],kwarg:=none,defaults:=[]}
def bx(s:Stmt):List Stmt:=match s with
 | .FunctionDef _ _ b _ _ _ _ _ _ _=>b
 |_=>[]
def aq(s:Stmt):Scope:=match s with
 | .FunctionDef _ _ _ _ _ _ a _ _ _=>a
 |_=>{kind:= .function,names:=[],isGenerator:=false,isCoroutine:=false}
abbrev CX0:CXT:=λ_ _ _ _ _ _=>False
abbrev E0:XK:=λ_ _ _=>False
theorem AK:vh CX0 X E0:=λ_ _ _ _ _ _ _ h=>h.elim
structure Fun(K:Frag)(x qual:Str)(st:Stmt)(f:Addr)(fd:FuncData):Prop where
 ex:∃(oc:Value)(od:Option Addr)(kV doc pm:Value)(an:Option Addr)(cdv ct:Value) (osl:Array (Option Value)),
  fd=fnOf x qual (eC st) (bx st) (aq st) .none kV doc pm an cdv ct/\K.lookup f=some #[oc,od, .func fd,osl]/\codeIn K cdv qual=true
 kp:keepIn K (.ref f)=true
section
variable{P:Program}{w:World}{K:Frag}{mg:Str->Option Value}{base:Heap}
theorem Fun.ok{x a:Str}{st:Stmt}{f:Addr}{b:FuncData}{N ps:List Str}{k:Nat}{sp:Sp}(F:Fun K x a st f b)(S:aE N ps (aq st))(c:∀(cdv:Value)(A:Around)(outer:List Env)(s:Shared)(H:Hp)(vs:List V)(Q:VK)(E:XK),Room k (A.deeper (envOfC a (aq st) s.heap.objs.size f cdv))->sp vs H Q E->
   ∃t,PSs (yZ CX0 P w K mg base N a (aq st) f cdv A outer s H E).nox (bx st) t/\t {nx:=λ_ H'=>Q .non H',rt:=Q} (start N vs) H)(len:∀vs H Q E,sp vs H Q E->vs.length=ps.length:=by intro _ _ _ _ h;cases h;subst_vars;rfl):lj P w K mg base CX0 (k+1) f b ps sp:=by
 obtain⟨l,m,kV,j,o,an,cdv,i,n,rfl,lk,d⟩:=F.ex;refine Oz lk d S len λA outer s H vs Q E e g=> ?_;obtain⟨t,h,q⟩:=c cdv A outer s H vs Q E e g;exact#[t,h.nox,q]
theorem Fun.binds{st:Stmt}{ps:List Str}(F:Fun K x qual st f fd)(h:∀(kV b c:Value)(an:Option Addr)(cdv a:Value)(us:List Value),us.length=ps.length->bindArgs (fnOf x qual (eC st) (bx st) (aq st) .none kV b c an cdv a) #[us,[]]=pure (ps.zip us)):nh K fd ps []:=by
 obtain⟨e,g,kV,b,c,an,cdv,a,i,rfl,lk,d⟩:=F.ex;exact .all (h kV b c an cdv a)
theorem uM{st:Stmt}{kV b d cdv a:Value}(l:K.lookup f=some #[e,g, .func (fnOf x qual (eC st) (bx st) (aq st) .none kV b d an cdv a),h])(c:codeIn K cdv qual=true)(k:keepIn K (.ref f)=true):Fun K x qual st f (fnOf x qual (eC st) (bx st) (aq st) .none kV b d an cdv a):=#[#[e,g,kV,b,d,an,cdv,a,h,2,l,c],k]
end
section
variable{X:Cx}
theorem pv(i:Nat){x:Str}{pos:Pos}(a:X.N[i]?=some x:=by rfl)(d:Vis X.env.scope x:=by first|exact Tq rfl|exact Or.inr (Tq rfl)|exact Or.inr (Or.inr rfl))(c:(x==(Vo:Str))=false:=by decide)(b:(x==("__classdict__":Str))=false:=by decide):PE X (.Name x pos) (MH i):=Nb a d c b
end
theorem dq{A B:Prop}(h:B):if false=true then A else B:=by rw[Pb PQ];exact h
theorem lF{A B:Prop}(h:A):if true=true then A else B:=by rw[Pd rfl];exact h
theorem cC{c A B:Prop}[Decidable c](a:c->A)(b:¬c->B):if c then A else B:=by
 by_cases h:c
 .rw[Pd h];exact a h
 .rw[Pb h];exact b h
theorem qf{c A B:Prop}[Decidable c](a:c)(h:B):if(!decide c)=true then A else B:=by rw[Pe a];exact dq h
def Same(H H':Hp):Prop:=∀b o,H b=some o->H' b=some o
theorem Same.refl(H:Hp):Same H H:=λ_ _ h=>h
theorem Same.trans(a:Same H H1)(b:Same H1 H2):Same H H2:=λc o h=>b c o (a c o h)
theorem Same.free(e:Same H H')(h:H' l=Option.none):H l=Option.none:=by
 cases q:H l with
 |none=>rfl
 |some o=>
  rw[e l o q]at h;cases h
theorem Same.seq{K:Frag}(e:Same H H')(h:SqL K H a xs):SqL K H' a xs:=by
 rcases h with (h|⟨o,h⟩)|h
 .exact .inl (.inl (e _ _ h))
 .exact .inl (.inr #[o,e _ _ h])
 .exact .inr h
theorem qV{b a:Type}{f:b->a->Sem (ForInStep a)}(g:a->b->a):∀(l:List b)(c:a),(∀x∈l,∀c,f x c=pure (.yield (g c x)))->forIn l c f=pure (l.foldl g c):=by
 intro l
 induction l with
 |nil=>intro c _;rfl
 |cons x l e=>
  intro c h;rw[List.forIn_cons,h x Pt,pure_bind];exact e _ λy d=>h y (Po _ d)
def jk(env:Env)(cs:List (Str×Addr))(y:Str×NameKind):List (Str×Addr):=if(y.2==NameKind.free)=true then(y.1,(env.cells.lookup y.1).getD 0)::cs else cs
def k5(env:Env)(a:List (Str×NameKind)):List (Str×Addr):=a.foldl (jk env) []
theorem oo{env:Env}{b:Scope}(h:∀y∈b.names,y.2= .free->∃c,env.cells.lookup y.1=some c):closureFor b env=pure (k5 env b.names):=by
 simp only[closureFor];rw[qV (jk env) b.names [] (λx i c=>by
  obtain⟨n,kind⟩:=x;by_cases f:kind= .free
  .subst f;obtain⟨a,g⟩:=h _ i rfl;have d:env.cells.lookup n=some a:=g;have e:cellOf env n=pure a:=by simp only[cellOf,d]
   simp only[jk,e,d,beq_self_eq_true,Uq,pure_bind,Option.getD_some]
  .have:(kind==NameKind.free)=false:=#[5,f]
   simp only[jk,this,Bool.false_eq_true,if_false])]
 rfl
theorem Gx(env:Env):∀(f:List (Str×NameKind)) (b:List (Str×Addr)),(∀y∈f,y.2= .free->∃c,env.cells.lookup y.1=some c)->(∀x c,b.lookup x=some c->env.cells.lookup x=some c)->
  ∀x c,(f.foldl (jk env) b).lookup x=some c->env.cells.lookup x=some c:=by
 intro f
 induction f with
 |nil=>intro b _ d x c e;exact d x c e
 |cons y r m=>
  intro b h d;refine m _ (λz l=>h z (Po _ l)) λx c e=> ?_;unfold jk at e;split at e
  .rename_i j;obtain⟨a,i⟩:=h y Pt #[5,j];rw[RL]at e;cases g:x==y.1 with
   |true=>
    rw[g]at e;have k:x=y.1:=#[5,g]
    rw[i]at e;rw[k,i];exact e
   |false=>rw[g]at e;exact d x c e
  .exact d x c e
theorem Gy(env:Env):∀(b:List (Str×NameKind)) (a:List (Str×Addr)) (x:Str),((∃y∈b,y.1=x/\y.2= .free)\/∃c,a.lookup x=some c)->∃c,(b.foldl (jk env) a).lookup x=some c:=by
 intro b
 induction b with
 |nil=>
  intro a x h;rcases h with ⟨y,i,_⟩|h
  .cases i
  .exact h
 |cons y r k=>
  intro a x h;refine k _ x ?_;have lk:∀c,a.lookup x=some c->∃c,(jk env a y).lookup x=some c:=λc e=>by
   unfold jk;split
   .rw[RL];cases l:x==y.1 with
    |true=>exact#[7]
    |false=>exact#[c,e]
   .exact#[c,e]
  rcases h with ⟨z,j,f,d⟩|⟨c,e⟩
  .rcases Pk.mp j with e|g
   .subst e;refine .inr ?_;unfold jk;rw[d,Pd ⋯,RL,f];simp
   .exact .inl #[z,g,f,d]
  .exact .inr (lk c e)
theorem NR{env:Env}(h:∀y∈a,y.2= .free->∃c,env.cells.lookup y.1=some c)(e:(k5 env a).lookup x=some c):env.cells.lookup x=some c:=
 Gx env a [] h (λ_ _ z=>by simp at z) x c e
theorem J4(h:∃y∈a,y.1=x/\y.2= .free):∃c,(k5 env a).lookup x=some c:=Gy env a [] x (.inl h)
def inner(a:Nat)(fr:List Nat)(b:St):St:=List.replicate a none++fr.map λj=>(b[j]?).join
def sr(X:Cx)(a:Scope):List Nat->List Str->Prop
 | [],[]=>True
 |j::b,x::xs=>(X.N[j]?=some x/\(X.env.kindOf x=some .cell\/X.env.kindOf x=some .free)/\((relabel a X.env).names.lookup x=some .cell\/(relabel a X.env).names.lookup x=some .free))/\sr X a b xs
 |_,_=>False
theorem sr.get{X:Cx}:∀ {fr:List Nat} {a:List Str} {k j:Nat},sr X sc fr a->fr[k]?=some j->
  ∃x,a[k]?=some x/\X.N[j]?=some x/\(X.env.kindOf x=some .cell\/X.env.kindOf x=some .free)/\((relabel sc X.env).names.lookup x=some .cell\/(relabel sc X.env).names.lookup x=some .free)
 | [],[],_,_,_,e=>by simp at e
 | [],_::_,_,_,h,_=>h.elim
 |_::_,[],_,_,h,_=>h.elim
 |j::f,x::xs,0,i,h,e=>by
  have b:j=i:=#[5,e]
  subst b;exact#[x,2,h.1]
 |j::f,x::xs,k+1,i,h,e=>by obtain⟨y,c,d⟩:=sr.get (k:=k) (j:=i) h.2 #[5,e];exact#[y,#[5,c],d]
theorem sr.len:∀ {fr:List Nat} {a:List Str},sr X sc fr a->fr.length=a.length
 | [],[],_=>rfl
 | [],_::_,h=>h.elim
 |_::_,[],h=>h.elim
 |_::_,_::_,h=>by rw[PM,PM,sr.len h.2]
def PTs(X:Cx)(ifs:List Expr)(t:TT):Prop:=
 ∀(b:List (Addr×Obj)) (s:Shared) (a:St) (H:Hp) (Q:Bool->Hp->Prop),Inv X b a H s->t a H Q->
  wpAny (model X.prog X.w) X.A (forIn ifs true λc r=>if r=true then do let ok<-isTrue c X.env (eval c X.env);pure (ForInStep.yield ok)else pure (ForInStep.yield r)) (TP X b a Q) X.xe s
def jg:TT:=λ_ H Q=>Q true H
theorem bW:PTs X [] jg:=λ_ _ _ H _ I h=>wpAny_tests_nil #[H,I,h]
theorem ee(h:PT X c t):PTs X [c] t:=λa s b H Q I q=>wpAny_tests_one (h a s b H Q I q)
def LCW(J:It)(g:TG)(p:TT)(q:TE)(o:Nat)(fr:List Nat)(r:St)(d:Hp)(Q:VK):Prop:=∀D,d D=none->
 ∃W:Nat->Nat->St->Hp->Prop,(∃m,W 0 m (inner o fr r) (upd d D (.lst [])))/\∀i m k H',W i m k H'->
  (J.stop i H'/\Q (.ref D) H')\/(J.go i H'/\∃N:St->Hp->Prop,(∀l c,N l c->∃j,j<m/\W (i+1) j l c)/\
   ∀x e,J.yld i H' x e->g x k e λa n=>p a n λb f=>if b=true then q a f λy h=>∃xs,h D=some (.lst xs)/\xs.length<sizeLine/\N a (upd h D (.lst (xs++[y])))else N a f)
def tLC(f:TI)(g:TG)(d:TT)(e:TE)(c:Nat)(fr:List Nat):TE:=λa H Q=>f a H λJ b=>LCW J g d e c fr a b Q
section
variable{X:Cx}{elt target iter:Expr}{ifs:List Expr}{sc:Scope}{pos:Pos}{wi:TI}{g:TG}{tc:TT}{te:TE}{vars frn:List Str}{fr:List Nat}
def Kl(X:Cx)(a:List (Addr×Obj))(d:St)(Q:VK)(D C:Addr)(b:Shared):Prop:=
 ∃H',Inv X a d H' b/\Q (.ref D) H'/\(∃m,b.heap.Ns C m)/\H' C=none/\C≠X.env.locals/\X.s₀.heap.objs.size<=C/\(∀x c,X.env.cells.lookup x=some c->c≠C)/\∀p∈X.pn++a,p.1≠C
theorem Mt{env:Env}(h:sc.names.all (λy=> !(y.2== .free)||(env.kindOf y.1==some .cell||env.kindOf y.1==some .free))=true):∀y∈sc.names,y.2= .free->env.kindOf y.1=some .cell\/env.kindOf y.1=some .free:=λy b a=>by have:=P9.mp h y b;rw[a]at this;simpa using this
theorem Mq(h:sc.names.all (λy=> !(y.2== .local)||(sc.names.lookup y.1==some .local))=true):∀y∈sc.names,y.2= .local->sc.names.lookup y.1=some .local:=λy b a=>by have:=P9.mp h y b;rw[a]at this;simpa using this
end
section
variable{X:Cx}{e st:Expr}{te ts:TE}{pos p2:Pos}
def Oi:V->List V->Hp->VK->Prop:=λx vs H Q=>∃i,x= .int i/\vs=[]/\Q (.int (Builtin.Int.intBits i:Nat)) H
theorem Lu:MtR X "int.bit_length" Oi:=by intro c s d H x vs v us Q I b a h;obtain⟨i,rfl,rfl,q⟩:=h;obtain⟨t,rfl⟩:=b;cases a.zero;exact call_gives F.slot_int_bit_length (typeIs_int s i t) F.entry_int_bit_length (F.args_int_bit_length_1 _) (PySem.AutoIntG2.int_bit_length_int_0 i t) #[.int (Builtin.Int.intBits i:Nat),H,I.tok _,#[7],q]
def Oh(K:Frag):List V->Hp->VK->Prop:=λxs H Q=>∃x n t b,xs=[x, .ty n]/\rh K H x t/\kitOne K t (.type n)=some b/\Q (.bl b) H
theorem BA:gg X (.builtin VU) (Oh X.K):=by intro g s i H vs us Q I c h;obtain⟨x,n,t,b,rfl,ty,e,q⟩:=h;obtain⟨u,w,rfl,a,d⟩:=c.two;cases (show w=Value.type n from d);exact Gb I a ty e λf=>#[.bl b,H,I.tok f,2,q]
end
def Ite(K:Frag)(a:Addr):It:=
 #[λi H=>∃xs x,SqL K H a xs/\xs[i]?=some x,
  λi H x H'=>∃t,x= .ref t/\H t=none/\∃v,(∀xs,SqL K H a xs->xs[i]?=some v)/\H'=upd H t (.tup [.int (i:Nat),v]),
  λi H=>∃xs,SqL K H a xs/\xs.length<=i]
theorem Inv.own{s:Shared}{j:St}{g:Heap}(ch:List Addr)(I:Inv X pins j H s)(d:∀b∈ch,zH X pins H b)(h:∀b o,b∉ch->s.heap.get? b=some o->g.get? b=some o):Inv X pins j H {s with heap:=g,gens:=s.gens,drawn:=s.drawn,toks:=t'}:=by
 have t:HOk X.prog X.w H g:=λb v e=>(I.hok b v e).stay (λc o a q=>h c o (λf=>by
   have n:=(d c f).1;rcases a with z|z
   .rw[z,e]at n;cases n
   .rw[z]at n;cases n) q) (λ_ q=>q) λ_ _ q=>q
 have l:∀m,s.heap.Ns X.env.locals m->g.Ns X.env.locals m:=λm f=>by obtain⟨o,k,ep,p,r⟩:=f;exact#[o,k,ep,h _ o (λf=>(d _ f).2.1 rfl) p,r]
 exact I.step (h':=g) (g':=s.gens) (d':=s.drawn) (t':=t') (ch:=ch) (λb i=>#[(d b i).2.2.2.1,(d b i).2.1,(d b i).2.2.2.2.1,(d b i).2.2.2.2.2]) (λb o _ _ a e _=>h b o a e)
  (λb o _ _ a e _=>#[o.slots,h b o a e]) (λ_ _ _ _ n=>n) (λb o a e=>#[o,h b o a e]) (λ_ _ e=>e) (λ_ _ _ e=>e) (λb ps e=>#[#v[],by rw[e];simp]) l t I.bare
theorem Inv.pairIn{s i:Shared}{j:St}(I:Inv X pins j H s)(a:Inv X pins j H i)(B:bY x u)(G:bY y v)(m:i.heap.get? s.heap.objs.size=some {cls:= .type VA,data:= .seq #v[u,v]}):Inv X pins j (upd H s.heap.objs.size (.tup [x,y])) i:=by
 have g:H s.heap.objs.size=none:=I.fresh;refine#[a.ok,a.os,a.bare,#[λb o e n d h=>a.base.keep b o e n d h,λb o e n d h=>a.base.slot b o e n d h,λb o e n h=> ?_,a.base.there,λb l e=> ?_,λb o u e=> ?_,λb ps e=> ?_],a.loc,a.cell,6,λy c e=> ?_,λp k=> ?_,6,a.len]
 .have d:b≠s.heap.objs.size:=Qz (Pg (P5 e) I.sz);rw[aA d];exact a.base.free b o e n h
 .have f:=a.base.tups b l e;rw[aA (au f g)];exact f
 .have f:=a.base.frzs b o u e;rw[aA (au f g)];exact f
 .obtain⟨more,f⟩:=a.base.tbls b ps e;exact#[more,by rw[aA (au f g)];exact f]
 .rw[aA (Qz I.lt)];exact a.free
 .obtain⟨v,q⟩:=I.cell y c e;rw[aA (Qz q.lt)];exact a.freeC y c e
 .obtain⟨r,t,w,z,A⟩:=a.pin p k;have d:p.1≠s.heap.objs.size:=Qz (P5 (I.pin p k).1);exact#[r,by rw[aA d];exact t,w,z,A]
 .intro b o e;by_cases d:b=s.heap.objs.size
  .subst d;rw[ah]at e;cases e;exact#[by show 2<=sizeLine;decide,[u,v], .cons B (.cons G .nil),#[_,m,27]]
  .rw[aA d]at e;refine(a.hok b o e).stay (λ_ _ _ q=>q) (λc q=> ?_) λc l q=> ?_
   .rw[aA (au q g)];exact q
   .rw[aA (au q g)];exact q
theorem EO{P:Program}{w:World}{K:Frag}{ai:List Expr}{x1:Nat}{tp:Pos}(a it en:Addr)(O:en≠it):
  Turn P w K (.Tuple ai x1 tp) (Ite K a) [en,it] en (λi h=>(∃old,IsEnum h en it ((i:Nat):Int) old)/\h.IsListIter it a i) where
 mem:=#[5]
 obj:=λi h st b g=>by
  obtain⟨⟨old,f⟩,hi⟩:=st;rcases Pk.mp g with e|e
  .subst e;exact#[_,f,λv z=>by have z':Data.fields _=Data.cell v:=z;cases z']
  .have e:b=it:=#[5,e]
   subst e;obtain⟨o,e,c,d⟩:=hi;exact#[o,e,λv z=>by rw[d]at z;cases z]
 keep:=λi h h' st k=>#[let⟨old,f⟩:=st.1;#[old,k en #[5] _ f],st.2.at λo e=>k it #[5] o e]
 item:=by
  intro X t A r M i B s J H E I m st y;subst t A r;obtain⟨xs,x,q,hx⟩:=y;obtain⟨⟨old,f⟩,n⟩:=st;obtain⟨bu,G,p,hz⟩:=I.list q;obtain⟨u,hu,ru⟩:=G.get hx;obtain⟨f0,f1,f2,f3,f4,f5⟩:=m en #[5];obtain⟨g0,g1,g2,g3,g4,g5⟩:=m it #[5];refine wpAny_pyNext_enum_item f n p.isList (x:=u) #[5,hu] O λbt ax a3 a6 br a4=> ?_;refine#[7,wpAny_letOwnedTupleGo_enum ax λl ay j=> ?_];replace j:Heap.SameBut en bt l:=j;have N:en<s.heap.objs.size:=P5 f;obtain⟨oi,a5,b1,b2⟩:=id n;have a0:it<s.heap.objs.size:=P5 a5;have az:H s.heap.objs.size=none:=I.fresh;have bk:l.get? s.heap.objs.size=some {cls:= .type VA,data:= .seq #v[.int i s.toks,u]}:=(j.2 _ (T5 N)).trans a6;have kk:∀b o,b≠en->b≠it->s.heap.get? b=some o->l.get? b=some o:=λb o L h2 e=>(j.2 b L).trans (a4 b o L h2 e);have Q:Inv X B J H {s with heap:=l,gens:=s.gens,drawn:=s.drawn,toks:=s.toks+1}:=I.own [en,it] m λb o g e=>kk b o (λz=>g (by simp[z])) (λz=>g (by simp[z])) e;have b3:l.objs.size=s.heap.objs.size+1:=j.1.trans br;have U:Inv X B J (upd H s.heap.objs.size (.tup [.int (i:Nat),x])) {s with heap:=l,toks:=s.toks+1}:=I.pairIn Q #[7] ru bk;refine#[.ref s.heap.objs.size,_,U,2,#[7,az,x,λys hy=>by rw[I.list_inj hy q];exact hx,2],#[#[u,6],6],λb g=> ?_]
  .have:((i+1:Nat):Int)=(i:Int)+1:=()
   rw[this];exact ay
  .obtain⟨o,e,c,d⟩:=a3;exact#[o,(j.2 it (Q7 O)).trans e,c,d]
  .rcases Pk.mp g with e|e
   .rw[e,aA (Qz N)];exact f0
   .have e:b=it:=#[5,e]
    rw[e,aA (Qz a0)];exact g0
 done:=by intro X t A r M i B s J H E I m st y;subst t A r;obtain⟨xs,q,hx⟩:=y;obtain⟨⟨old,f⟩,n⟩:=st;obtain⟨bu,G,p,hz⟩:=I.list q;obtain⟨g0,g1,g2,g3,g4,g5⟩:=m it #[5];have hl:=G.length;exact wpAny_pyNext_enum_end (I.ok.hd M) f n p.isList (by simp;lia) λh' eb=>#[2,I.turned (t':=s.toks) (λb o g e=>eb b o g e) g0 g1 g3 g4 g5]
 self:=λ_ _ _ _ _ st h=>let⟨_,f⟩:=st.1;wpAny_pyIter_enum f h
section
variable{X:Cx}{elts:List Expr}{x1:Nat}{tp:Pos}
def Ms(K:Frag)(c:TA):TI:=λd H R=>c d H λvs b=>∃a,vs=[.ref a]/\(∃xs,b a=some (.lst xs))/\R (Ite K a) b
theorem La{a:Expr}{i:TA}{p pos:Pos}(o:Gl X VB)(w:X.mg VB=none)(k:PA X [a] i)(x:starEach [a] X.env=[(false,eval a X.env)]:=by rfl):PI X (.Tuple elts x1 tp) (.Call (.Name VB p) [a] [] pos) (Ms X.K i):=by
 intro A s L H R I h;refine Call_ (kq I o w boot_enumerate (Q4 (thn (k pos A s L H _ I h) λus c ⟨vs,j,d,G,B⟩=> ?_) x rfl));obtain⟨l,e,⟨xs,y⟩,q⟩:=B;subst e;obtain⟨u,rfl,J⟩:=G.one;cases J;obtain⟨z,M,n,r,hl,e⟩:=d.lstM y;refine call_enumerate_1 e λh' g t hsz v=> ?_;refine wpAny_pyIter_enum g #[c.heap.objs.size+1,[c.heap.objs.size+1,c.heap.objs.size],_,Ite X.K l,j,2,d.kept (t':=c.toks) v,EO l _ _ (Nat.succ_ne_self _),#[#[_,g],t],λb m=> ?_,q];have f:c.heap.objs.size<=b:=by
  rcases Pk.mp m with e|e
  .rw[e];exact Nat.le_succ _
  .have e:b=c.heap.objs.size:=#[5,e]
   rw[e];exact Pu _
 exact d.fpOk f (d.hok.fresh f)
end
structure Cal(P:Program)(w:World)(K:Frag)(mg:Str->Option Value)(base:Heap)(k:Nat)(x:Str)(ps:List Str)(sp:Sp):Prop where
 ex:∃(f:Addr)(fd:FuncData),lj P w K mg base CX0 k f fd ps sp/\mg x=some (.ref f)/\keepIn K (.ref f)=true/\nh K fd ps []
structure bo(K:Frag)(mg:Str->Option Value)(x:Str)(st:Stmt)(ps:List Str):Prop where
 ex:∃(f:Addr)(fd:FuncData),Fun K x x st f fd/\nh K fd ps []/\mg x=some (.ref f)
theorem NO{K:Frag}{h:Heap}{st:Stmt}{ps:List Str}{kV e g cdv d:Value}(X:K.In h)(G:h.Ns mainGlobals mg)(a:nsIn K mainGlobals x=some (some (.ref f)))(l:K.lookup f=some #[oc,od, .func (fnOf x x (eC st) (bx st) (aq st) .none kV e g an cdv d),osl])(c:codeIn K cdv x=true)(k:keepIn K (.ref f)=true)(b:∀(kV e g:Value)(an:Option Addr)(cdv d:Value)(us:List Value),us.length=ps.length->bindArgs (fnOf x x (eC st) (bx st) (aq st) .none kV e g an cdv d) #[us,[]]=pure (ps.zip us)):bo K mg x st ps:=
 #[f,_,uM (st:=st) l c k,(uM (st:=st) l c k).binds b,Ra X G a]
section
variable{P:Program}{w:World}{K:Frag}{mg:Str->Option Value}{base:Heap}
theorem bo.cal{x:Str}{st:Stmt}{N ps:List Str}{k:Nat}{sp:Sp}(D:bo K mg x st ps)(S:aE N ps (aq st))(c:∀(f:Addr)(cdv:Value)(A:Around)(outer:List Env)(s:Shared)(H:Hp)(vs:List V)(Q:VK)(E:XK),Room k (A.deeper (envOfC x (aq st) s.heap.objs.size f cdv))->sp vs H Q E->
   ∃t,PSs (yZ CX0 P w K mg base N x (aq st) f cdv A outer s H E).nox (bx st) t/\t {nx:=λ_ H'=>Q .non H',rt:=Q} (start N vs) H)(len:∀vs H Q E,sp vs H Q E->vs.length=ps.length:=by intro _ _ _ _ h;cases h;subst_vars;rfl):Cal P w K mg base (k+1) x ps sp:=by
 obtain⟨f,a,F,b,m⟩:=D.ex;exact#[f,a,F.ok S (len:=len) λcdv A outer s H vs Q E d e=>c f cdv A outer s H vs Q E d e,m,F.kp,b]
theorem Cal.mono(C:Cal P w K mg base j x ps sp)(h:j<=k):Cal P w K mg base k x ps sp:=by obtain⟨f,a,F,m,c,b⟩:=C.ex;exact#[f,a,F.mono h,m,c,b]
end
section
variable{X:Cx}{x:Str}{ps:List Str}{j k:Nat}{sp:Sp}{e:Expr}{es:List Expr}{t:TA}{p pos:Pos}
theorem Ng(C:Cal X.prog X.w X.K X.mg X.base j x ps sp)(l:Room k X.A)(h:j<=k)(g:Gl X x)(a:PA X (e::es) t)(c:(x==(Vo:Str))=false:=by decide)(d:starEach (e::es) X.env=(false,eval e X.env)::starEach es X.env:=by rfl)(i:(backTo pos (starEach es X.env)).any (·.1)=false:=by rfl):PE X (.Call (.Name x p) (e::es) [] pos) (G9 sp [] E0 t):=by
 obtain⟨f,o,F,m,n,b⟩:=C.ex;exact Lf F (l.mono h) g m n b .nil AK a c d i
end
theorem Same.upd{H a:Hp}{l:Addr}{o:HO}(e:Same H a)(h:H l=none):Same H (upd a l o):=λb u q=>by rw[aA (au q h)];exact e b u q
theorem Same.new(h:H l=none):Same H (L2.upd H l o):=(Same.refl H).upd h
theorem Same.at(e:Same H H1)(h:H l=some o):H1 l=some o:=e l o h
theorem NP{ts:List Int}{t:Int}(a:0<=t):so (ts.map V.int) none (some t)=(ts.take t.toNat).map V.int:=by
 obtain⟨k,rfl⟩:=Rb a;unfold so;show((ts.map V.int).drop (HT.sIx _ 0 none)).take (HT.sIx _ _ (some (k:Int)) -HT.sIx _ 0 none)=_;rw[HT.yj,HT.t7,My,List.drop_zero,Nat.sub_zero,<-List.map_take];show(ts.take (min k ts.length)).map V.int=(ts.take k).map V.int;by_cases b:k<=ts.length
 .rw[Tr b]
 .rw[T7 (),QG,RI ()]
def ik(p:Nat->Bool)(f:Nat->V)(i:Nat):List V:=((List.range i).filter p).map f
theorem CA(p:Nat->Bool)(f:Nat->V)(i:Nat):ik p f (i+1)=if p i=true then ik p f i++[f i]else ik p f i:=by unfold ik;rw[RQ,RY,Qs];cases a:p i<;>simp[a]
theorem Fz(p:Nat->Bool)(f:Nat->V)(i:Nat):(ik p f i).length<=i:=by unfold ik;rw[My];exact Pr (QU _ _) #[5]
theorem gC{A:Int}{fr:List Nat}{c:St}{Q:VK}(p:Nat->Bool)(f:Nat->V)(O:n<=sizeLine)(U:∀(i:Nat)(vs:St)(H':Hp)(R:V->St->Hp->Prop)(S:St->Hp->Prop),i<n->vs.length=h->Same H H'->
   (∀k a,k.length=h->Same H' a->if p i=true then R (f i) (k++fr.map λj=>(c[j]?).join) a else S (k++fr.map λj=>(c[j]?).join) a)->
   g (.int (A+i)) (vs++fr.map λj=>(c[j]?).join) H' λl J=>tc l J λb v=>if b=true then te l v λy o=>R y l o else S l v)(M:∀D H',H D=none->Same H H'->H' D=some (.lst (ik p f n))->Q (.ref D) H'):LCW (Itr A n) g tc te h fr c H Q:=by
 intro D t;refine#[λi m B H'=>m=n-i/\i<=n/\∃vs:St,vs.length=h/\B=vs++(fr.map λj=>(c[j]?).join)/\Same H H'/\H' D=some (.lst (ik p f i)),#[n,#[5],Qu _,List.replicate h none,#[5],2,Same.new t,ah],6];rintro i m B H' ⟨rfl,N,vs,hv,rfl,r,u⟩;by_cases d:i<n
 .refine .inr #[d,λG a=>∃vs:St,vs.length=h/\G=vs++(fr.map λj=>(c[j]?).join)/\Same H a/\a D=some (.lst (ik p f (i+1))),λG a q=>#[n- (i+1),QN d (QL _),2,d,q],λx H2 y=> ?_];obtain⟨K,L⟩:=y;subst K L;refine U i vs _ (λy l o=>∃xs,o D=some (.lst xs)/\xs.length<sizeLine/\∃vs:St,vs.length=h/\l=vs++(fr.map λj=>(c[j]?).join)/\Same H (upd o D (.lst (xs++[y])))/\upd o D (.lst (xs++[y])) D=some (.lst (ik p f (i+1)))) _ d hv r λk a z s=> ?_;have e:=CA p f i;cases w:p i with
  |true=>
   rw[w,Pd rfl]at e;rw[Pd rfl];exact#[_,s D _ u,Px (Fz p f i) (Pg d O),k,z,2,(r.trans s).upd t,by rw[ah,e]]
  |false=>
   rw[w,Pb PQ]at e;rw[Pb PQ];exact#[k,z,2,r.trans s,by rw[e];exact s D _ u]
 .have e:i=n:=QR N (QM d);subst e;exact .inl #[Pu _,M D H' t r u]
def gf(p:V->Bool)(f:V->V)(xs:List V):List V:=(xs.filter p).map f
theorem ug(p:V->Bool)(f:V->V)(xs:List V)(i:Nat)(x:V)(h:xs[i]?=some x):gf p f (xs.take (i+1))=if p x=true then gf p f (xs.take i)++[f x]else gf p f (xs.take i):=by unfold gf;rw[QF,h,RY,Qs];cases a:p x<;>simp[a]
theorem wy(p:V->Bool)(f:V->V)(xs:List V):(gf p f xs).length<=xs.length:=by unfold gf;rw[My];exact QU _ _
theorem cf{K:Frag}{xs:List V}{fr:List Nat}{d:St}{Q:VK}(p:V->Bool)(f:V->V)(U:SqL K H a xs)(hn:xs.length<=sizeLine)(hs:∀(i:Nat)(x:V)(vs:St)(H':Hp)(R:V->St->Hp->Prop)(S:St->Hp->Prop),xs[i]?=some x->vs.length=h->Same H H'->
   (∀k c,k.length=h->Same H' c->if p x=true then R (f x) (k++fr.map λj=>(d[j]?).join) c else S (k++fr.map λj=>(d[j]?).join) c)->
   g x (vs++fr.map λj=>(d[j]?).join) H' λl M=>tc l M λb z=>if b=true then te l z λy n=>R y l n else S l z)(hd:∀D H',H D=none->Same H H'->H' D=some (.lst (gf p f xs))->Q (.ref D) H'):LCW (Itl K a) g tc te h fr d H Q:=by
 intro D v;refine#[λi m J H'=>m=xs.length-i/\i<=xs.length/\∃vs:St,vs.length=h/\J=vs++(fr.map λj=>(d[j]?).join)/\Same H H'/\H' D=some (.lst (gf p f (xs.take i))),#[xs.length,#[5],Qu _,List.replicate h none,#[5],2,Same.new v,ah],6];rintro i m J H' ⟨rfl,hi,vs,hv,rfl,o,r⟩;have w:=o.seq U;by_cases s:i<xs.length
 .refine .inr #[#[xs,xs[i],w,by simp[s]],λL c=>∃vs:St,vs.length=h/\L=vs++(fr.map λj=>(d[j]?).join)/\Same H c/\c D=some (.lst (gf p f (xs.take (i+1)))),λL c q=>#[xs.length- (i+1),QN s (QL _),2,s,q],λx H2 y=> ?_];obtain⟨N,O⟩:=y;subst N;have G:=O xs w;refine hs i x vs _ (λy l n=>∃u,n D=some (.lst u)/\u.length<sizeLine/\∃vs:St,vs.length=h/\l=vs++(fr.map λj=>(d[j]?).join)/\Same H (upd n D (.lst (u++[y])))/\upd n D (.lst (u++[y])) D=some (.lst (gf p f (xs.take (i+1))))) _ G hv o λk c B t=> ?_;have e:=ug p f xs i x G;cases A:p x with
  |true=>
   rw[A,Pd rfl]at e;rw[Pd rfl];refine#[_,t D _ r,Px (wy p f _) ?_,k,B,2,(o.trans t).upd v,by rw[ah,e]];rw[P6];lia
  |false=>
   rw[A,Pb PQ]at e;rw[Pb PQ];exact#[k,B,2,o.trans t,by rw[e];exact t D _ r]
 .have e:i=xs.length:=QR hi (QM s);subst e;refine .inl #[#[xs,w,Pu _],hd D H' v o ?_];rwa[QG]at r
def gA(p:Nat->V->Bool)(f:Nat->V->V):Nat->List V->List V
 |_,[]=>[]
 |i,x::r=>if p i x=true then f i x::gA p f (i+1) r else gA p f (i+1) r
theorem ui(p:Nat->V->Bool)(f:Nat->V->V):∀(i:Nat)(xs:List V)(x:V),gA p f i (xs++[x])=if p (i+xs.length) x=true then gA p f i xs++[f (i+xs.length) x]else gA p f i xs
 |i,[],x=>by simp[gA]
 |i,y::r,x=>by
  have e:i+(y::r).length=i+1+r.length:=by simp;lia
  rw[T8,gA,ui p f (i+1) r x,e]
  conv=>rhs;rw[gA]
  by_cases a:p i y=true<;>by_cases b:p (i+1+r.length) x=true<;>simp[a,b]
theorem wz(p:Nat->V->Bool)(f:Nat->V->V):∀(i:Nat)(xs:List V),(gA p f i xs).length<=xs.length
 |_,[]=>Pu _
 |i,x::r=>by have:=wz p f (i+1) r;rw[gA];split<;>simp<;>lia
theorem Js{K:Frag}{xs:List V}{fr:List Nat}{d:St}{Q:VK}(p:Nat->V->Bool)(f:Nat->V->V)(ha:SqL K H a xs)(hn:xs.length<=sizeLine)(hs:∀(i:Nat)(x:V)(t:Addr)(vs:St)(H':Hp)(R:V->St->Hp->Prop)(S:St->Hp->Prop),xs[i]?=some x->vs.length=h->Same H H'->H' t=some (.tup [.int (i:Nat),x])->
   (∀k c,k.length=h->Same H' c->if p i x=true then R (f i x) (k++fr.map λj=>(d[j]?).join) c else S (k++fr.map λj=>(d[j]?).join) c)->
   g (.ref t) (vs++fr.map λj=>(d[j]?).join) H' λl H3=>tc l H3 λb G=>if b=true then te l G λy n=>R y l n else S l G)(hd:∀D H',H D=none->Same H H'->H' D=some (.lst (gA p f 0 xs))->Q (.ref D) H'):LCW (Ite K a) g tc te h fr d H Q:=by
 intro D w;refine#[λi m U H'=>m=xs.length-i/\i<=xs.length/\∃vs:St,vs.length=h/\U=vs++(fr.map λj=>(d[j]?).join)/\Same H H'/\H' D=some (.lst (gA p f 0 (xs.take i))),#[xs.length,#[5],Qu _,List.replicate h none,#[5],2,Same.new w,ah],6];rintro i m U H' ⟨rfl,L,vs,hv,rfl,o,z⟩;have A:=o.seq ha;by_cases r:i<xs.length
 .refine .inr #[#[xs,xs[i],A,by simp[r]],λag c=>∃vs:St,vs.length=h/\ag=vs++(fr.map λj=>(d[j]?).join)/\Same H c/\c D=some (.lst (gA p f 0 (xs.take (i+1)))),λag c q=>#[xs.length- (i+1),QN r (QL _),2,r,q],λx H2 y=> ?_];obtain⟨t,e1,ht,v,e2,e3⟩:=y;subst e1 e3;have O:=e2 xs A;have s:Same H' (upd H' t (.tup [.int (i:Nat),v])):=Same.new ht;refine hs i v t vs _ (λy l n=>∃u,n D=some (.lst u)/\u.length<sizeLine/\∃vs:St,vs.length=h/\l=vs++(fr.map λj=>(d[j]?).join)/\Same H (upd n D (.lst (u++[y])))/\upd n D (.lst (u++[y])) D=some (.lst (gA p f 0 (xs.take (i+1))))) _ O hv (o.trans s) ah λk c N B=> ?_;have e:gA p f 0 (xs.take (i+1))=if p i v=true then gA p f 0 (xs.take i)++[f i v]else gA p f 0 (xs.take i):=by rw[QF,O];show gA p f 0 (xs.take i++[v])=_;rw[ui,P6,Tr L,RE]
  have J:=B D _ (s D _ z);cases M:p i v with
  |true=>
   rw[M,Pd rfl]at e;rw[Pd rfl];refine#[_,J,Px (wz p f _ _) ?_,k,N,2,((o.trans s).trans B).upd w,by rw[ah,e]];rw[P6];lia
  |false=>
   rw[M,Pb PQ]at e;rw[Pb PQ];exact#[k,N,2,(o.trans s).trans B,by rw[e];exact J]
 .have e:i=xs.length:=QR L (QM r);subst e;refine .inl #[#[xs,A,Pu _],hd D H' w o ?_];rwa[QG]at z
inductive RdN(K:Frag)(xs:List V)(H:Hp)(Q:VK):Prop
 |mk(p:Addr) (ys:List V) (e:xs=[.ref p]) (s:SqL K H p ys\/SqT K H p ys) (q:Q (.int ys.length) H):RdN K xs H Q
def Mi(K:Frag):List V->Hp->VK->Prop:=λxs H Q=>RdN K xs H Q
def KZ(K:Frag):List V->Hp->VK->Prop:=λxs H Q=>∃p a,xs=[.ref p]/\(SqL K H p a\/SqT K H p a)/\∀l,H l=none->Q (.ref l) (upd H l (.lst a))
section
variable{X:Cx}{K:Frag}
theorem uG(h:X.K=K):IxR X (Ii K):=by subst h;exact LF
theorem LD(h:X.K=K):IxR X (MW K):=by subst h;exact NC
theorem CC(h:X.K=K):OpR X (compareOp .In) (rIn K false):=by subst h;exact FC
theorem kj(h:X.K=K):OpR X (compareOp .NotIn) (rIn K true):=by subst h;exact yz
theorem vV(h:X.K=K):gg X (.builtin "len") (Mi K):=by subst h;intro c s f H xs us Q I r a;obtain⟨p,d,e,b,q⟩:=a;exact zi c s f H xs us Q I r #[p,d,e,b,q]
theorem vU(h:X.K=K):gg X (.type Vt) (KZ K):=by subst h;exact zh
theorem fS(h:X.K=K):gg X (.builtin VU) (Oh K):=by subst h;exact BA
theorem o8(h:X.K=K):SlR X (Of K):=by subst h;exact KH
theorem Lg{o:Expr}{to:TE}{name:Str}{a b:Pos}{T id:String}{r:V->List V->Hp->VK->Prop}(h:X.K=K)(i:PlainAttrs T)(slot:Slot T name id)(g:typeOf (.builtin id)=pure (.type Vw))(e:MtR X id r)(f:PE X o to)(c:attributeBase o name X.env (eval o X.env)=eval o X.env:=by rfl)(d:(a.endLine==b.line)=true:=by rfl):PE X (.Call (.Attribute o name a) [] [] b) (N8 K T r to):=by subst h;exact Nh i slot g e f c d
theorem kh{o e:Expr}{a:List Expr}{to:TE}{t:TA}{name:Str}{c b:Pos}{T id:String}{r:V->List V->Hp->VK->Prop}(h:X.K=K)(p:PlainAttrs T)(slot:Slot T name id)(n:typeOf (.builtin id)=pure (.type Vw))(j:MtR X id r)(k:PE X o to)(d:PA X (e::a) t)(f:attributeBase o name X.env (eval o X.env)=eval o X.env:=by rfl)(g:((backTo b (starEach (e::a) X.env)).all (λx=> !x.1)&&(backToKw b (keywordEach [] X.env)).all (λx=>x.1.isSome)
   &&decide ((e::a).length+([]:List Keyword).length+(if([]:List Keyword).isEmpty then 0 else 1)<30))=true:=by rfl)(i:(c.endLine==b.line)=true:=by rfl)(m:starEach (e::a) X.env=(false,eval e X.env)::starEach a X.env:=by rfl)(l:(backTo b (starEach a X.env)).any (·.1)=false:=by rfl):
  PE X (.Call (.Attribute o name c) (e::a) [] b) (tBM K T r to t):=by subst h;exact Ol p slot n j k d f g i m l
theorem Iq(h:X.K=K)(hl:PE X l tl):PI X tg l (JB K tl):=by subst h;exact K9 hl
theorem K7(h:X.K=K)(hl:PE X l tl):PI X tg l (ND K tl):=by subst h;exact M8 hl
theorem ue{c:List Expr}{x1:Nat}{i:Pos}{a:Expr}{b:TA}{p pos:Pos}(h:X.K=K)(e:Gl X VB)(f:X.mg VB=none)(d:PA X [a] b)(g:starEach [a] X.env=[(false,eval a X.env)]:=by rfl):
  PI X (.Tuple c x1 i) (.Call (.Name VB p) [a] [] pos) (Ms K b):=by subst h;exact La e f d g
theorem sI{a:List Expr}{k:Nat}{t:TGs}{n:Nat}{pos:Pos}(h:X.K=K)(b:X.calm=true)(d:PGs X a t)(c:(assignEach a X.env).length=n:=by rfl)(e:(assignEach a X.env).findIdx? (·.1)=none:=by rfl):
  PG X (.Tuple a k pos) (Ox K n t):=by subst h;exact Na b d c e
end
structure fK(K:Frag)(m qual:Str)(st:Stmt)(ps:List Str)(f:Addr):Prop where
 ex:∃fd:FuncData,Fun K m qual st f fd/\nh K fd ps []
theorem Nt{K:Frag}{st:Stmt}{ps:List Str}{kV d e cdv a:Value}(l:K.lookup f=some #[oc,od, .func (fnOf m qual (eC st) (bx st) (aq st) .none kV d e an cdv a),osl])(c:codeIn K cdv qual=true)(k:keepIn K (.ref f)=true)(b:∀(kV d e:Value)(an:Option Addr)(cdv a:Value)(us:List Value),us.length=ps.length->bindArgs (fnOf m qual (eC st) (bx st) (aq st) .none kV d e an cdv a) #[us,[]]=pure (ps.zip us)):fK K m qual st ps f:=
 #[_,uM (st:=st) l c k,(uM (st:=st) l c k).binds b]
structure gw(P:Program)(w:World)(K:Frag)(mg:Str->Option Value)(base:Heap)(k:Nat)(f:Addr)(ps:List Str)(sp:Sp):Prop where
 ex:∃fd:FuncData,lj P w K mg base CX0 k f fd ps sp/\nh K fd ps []
 kp:keepIn K (.ref f)=true
structure bQ(P:Program)(w:World)(K:Frag)(mg:Str->Option Value)(base:Heap)(k:Nat)(C:Addr)(m:Str)(ps:List Str)(sp:Sp):Prop where
 cl:Cls K C
 ex:∃f,Meth K C m f/\gw P w K mg base k f ps sp
structure kR(P:Program)(w:World)(K:Frag)(mg:Str->Option Value)(base:Heap)(k:Nat)(x:Str)(C:Addr)(ps:List Str)(sp:Sp):Prop where
 ex:∃f,Mk K C f/\gw P w K mg base k f ps sp
 g:mg x=some (.ref C)
structure vW(P:Program)(w:World)(K:Frag)(mg:Str->Option Value)(base:Heap)(k:Nat)(C:Addr)(m:Str)(ps:List Str)(sp:Sp):Prop where
 ex:∃f,gw P w K mg base k f ps sp/\PySem.W.findCls K (.ref C) (.type "type") m=some (.val (.ref f))
 ga:specialIn K (.ref C) "__getattribute__"=some (some (.builtin "type.__getattribute__"))
 rd:PySem.W.readsIn K C (.type "type")=true
section
variable{P:Program}{w:World}{K:Frag}{mg:Str->Option Value}{base:Heap}
theorem fK.fn{m a:Str}{st:Stmt}{N ps:List Str}{k:Nat}{sp:Sp}{f:Addr}(D:fK K m a st ps f)(S:aE N ps (aq st))(d:∀(cdv:Value)(A:Around)(outer:List Env)(s:Shared)(H:Hp)(vs:List V)(Q:VK)(E:XK),Room k (A.deeper (envOfC a (aq st) s.heap.objs.size f cdv))->sp vs H Q E->
   ∃t,PSs (yZ CX0 P w K mg base N a (aq st) f cdv A outer s H E).nox (bx st) t/\t {nx:=λ_ H'=>Q .non H',rt:=Q} (start N vs) H)(len:∀vs H Q E,sp vs H Q E->vs.length=ps.length:=by intro _ _ _ _ h;cases h;subst_vars;rfl):gw P w K mg base (k+1) f ps sp:=by
 obtain⟨c,F,b⟩:=D.ex;exact#[#[c,F.ok S (len:=len) d,b],F.kp]
theorem gw.mono(C:gw P w K mg base j f ps sp)(h:j<=k):gw P w K mg base k f ps sp:=by obtain⟨⟨a,F,b⟩,c⟩:=C;exact#[#[a,F.mono h,b],c]
end
inductive RdM(Dom:Addr->Prop)(m:Str)(spf:Addr->Sp)(t:TA)(σ:St)(Q:VK)(x:V)(H:Hp):Prop
 |mk(a C dx:Addr) (fs:List (Str×V)) (e:x= .ref a) (h:H a=some (.ins C dx fs)) (d:Dom C) (l:fs.lookup m=none) (q:t σ H λvs H2=>spf C (x::vs) H2 Q E0):RdM Dom m spf t σ Q x H
def G6(b:Addr->Prop)(m:Str)(c:Addr->Sp)(d:TE)(t:TA):TE:=λa H Q=>d a H (RdM b m c t a Q)
def N7(C:Addr)(sp:Sp)(d:TE)(t:TA):TE:=λa H Q=>d a H λx b=>x= .ref C/\t a b λvs c=>sp vs c Q E0
section
variable{X:Cx}{j k:Nat}{C:Addr}{x m:Str}{ps:List Str}{sp:Sp}{Dom:Addr->Prop}{spf:Addr->Sp}{e o:Expr}{es:List Expr}{ta:TE}{t:TA}{p pos apos:Pos}
theorem fo{pl:Sem Bool}(M:∀C,Dom C->bQ X.prog X.w X.K X.mg X.base j C m ps (spf C))(U:Room k X.A)(L:j<=k)(J:PE X o ta)(B:PA X (e::es) t)(ag:starEach (e::es) X.env=(false,eval e X.env)::starEach es X.env:=by rfl)(N:(backTo pos (starEach es X.env)).any (·.1)=false:=by rfl)(ht:eval (.Call (.Attribute o m apos) (e::es) [] pos) X.env=(do
   let ov<-eval o X.env
   standAt apos.atName
   let(f,first)<-holding [ov] (getMethod ov m pl)
   callWith pos f first (backTo pos (starEach (e::es) X.env)) (backToKw pos (keywordEach [] X.env))):=by rfl):
  PE X (.Call (.Attribute o m apos) (e::es) [] pos) (G6 Dom m spf ta t):=by
 intro i s n H Q I h;refine Tf (pl:=pl) (thn (J i s n H _ I h) λu s1 O=> ?_) ht;obtain⟨x,v,b,rx,a,C,dx,fs,ex,z,y,l,q⟩:=O;subst ex;obtain rfl:u=Value.ref a:=rx;obtain⟨c,f,g,⟨fd,F,G⟩,kp⟩:=M C y;refine uL b z c g l ?_;refine SH (first:=[.ref a]) (h₀:=X.base) I.ok.mod.kin g.kp (thn (B pos i s1 n v _ b q) λus s2 ⟨vs,H2,d,r,q2⟩=>#[d.kIn,6]) ag N;exact yk (us:= .ref a::us) (vs:= .ref a::vs) (dvs:=[]) F (U.mono L) G .nil AK d (.cons rfl r) (by rw[Q0];exact q2)
theorem fC{pl:Sem Bool}(M:∀C,Dom C->bQ X.prog X.w X.K X.mg X.base j C m ps (spf C))(z:Room k X.A)(v:j<=k)(r:PE X o ta)(B:eval (.Call (.Attribute o m apos) [] [] pos) X.env=(do
   let ov<-eval o X.env
   standAt apos.atName
   let(f,first)<-holding [ov] (getMethod ov m pl)
   callWith pos f first (backTo pos (starEach [] X.env)) (backToKw pos (keywordEach [] X.env))):=by rfl):
  PE X (.Call (.Attribute o m apos) [] [] pos) (G6 Dom m spf ta KA):=by
 intro G s L H Q I h;refine Tf (pl:=pl) (thn (r G s L H _ I h) λu s1 y=> ?_) B;obtain⟨x,N,b,J,a,C,O,fs,ex,i,g,l,q⟩:=y;subst ex;obtain rfl:u=Value.ref a:=J;obtain⟨c,f,d,⟨U,F,n⟩,kp⟩:=M C g;refine uL b i c d l ?_;exact PySem.W.callWith_K0 (first:=[.ref a]) b.kIn d.kp (yk (us:=[.ref a]) (vs:=[.ref a]) (dvs:=[]) F (z.mono v) n .nil AK b (.cons rfl .nil) q)
theorem iF(M:kR X.prog X.w X.K X.mg X.base j x C ps sp)(n:Room k X.A)(i:j+1<=k)(h:Gl X x)(a:PA X (e::es) t)(c:(x==(Vo:Str))=false:=by decide)(d:starEach (e::es) X.env=(false,eval e X.env)::starEach es X.env:=by rfl)(l:(backTo pos (starEach es X.env)).any (·.1)=false:=by rfl):PE X (.Call (.Name x p) (e::es) [] pos) (Mc C sp [] E0 t):=by
 obtain⟨⟨f,mk,⟨q,F,b⟩,r⟩,g⟩:=M;exact Lc mk F (n.mono i) h g b .nil AK a c d l
theorem jX{pl:Sem Bool}(M:vW X.prog X.w X.K X.mg X.base j C m ps sp)(J:Room k X.A)(B:j<=k)(y:PE X o ta)(n:PA X (e::es) t)(L:starEach (e::es) X.env=(false,eval e X.env)::starEach es X.env:=by rfl)(G:(backTo pos (starEach es X.env)).any (·.1)=false:=by rfl)(N:eval (.Call (.Attribute o m apos) (e::es) [] pos) X.env=(do
   let ov<-eval o X.env
   standAt apos.atName
   let(f,first)<-holding [ov] (getMethod ov m pl)
   callWith pos f first (backTo pos (starEach (e::es) X.env)) (backToKw pos (keywordEach [] X.env))):=by rfl):
  PE X (.Call (.Attribute o m apos) (e::es) [] pos) (N7 C sp ta t):=by
 intro c s d H Q I h;refine Tf (pl:=pl) (thn (y c s d H _ I h) λu s1 ⟨x,g,a,rx,ex,q⟩=> ?_) N;subst ex;obtain rfl:u=Value.ref C:=rx;obtain⟨⟨f,⟨⟨fd,F,v⟩,O⟩,z⟩,l,rd⟩:=M;refine PySem.W.method_cls a.kIn l (PySem.W.cls_value a.kIn rd z rfl ?_);have i:=a.tok (s1.toks+1);refine SH (first:=[]) (h₀:=X.base) I.ok.mod.kin O (thn (n pos c _ d g _ i q) λus s2 ⟨vs,H2,b,r,U⟩=>#[b.kIn,6]) L G;exact yk (us:=us) (vs:=vs) (dvs:=[]) F (J.mono B) v .nil AK b r (by rw[Q0];exact U)
variable{K:Frag}{f:Str}{value:Expr}{tv:TE}{pos':Pos}
theorem Ld(h:X.K=K)(b:PE X e ta)(a:attributeBase e f X.env (eval e X.env)=eval e X.env):PE X (.Attribute e f pos) (MI K ta f):=by subst h;exact Nf b a
theorem K4(h:X.K=K)(a:PE X o ta)(c:PE X value tv)(b:swapsWith value (some (.Attribute o f pos')) pos.line X.env=pure false):PS X (.Assign [.Attribute o f pos'] value pos) (MQ K ta tv f):=by subst h;exact MZ a c b
def Mh(K:Frag):List V->Hp->VK->Prop:=λxs H Q=>∃(a:Addr)(ns:List Int),xs=[.ref a]/\SqL K H a (ns.map V.int)/\ns≠[]/\∀m∈ns,(∀z∈ns,z<=m)->Q (.int m) H
theorem GD(n:X.calm=true):gg X (.builtin "max") (Mh X.K):=by
 intro O s σ H vs us Q I L h;obtain⟨a,ns,rfl,l,y,q⟩:=h;obtain⟨u,rfl,J⟩:=L.one;cases J;obtain⟨is,G,p1,_⟩:=I.list l;have c:=uJ G;obtain⟨xs,ex⟩:=c.allInts.items;have hl:=p1.isList;rw[ex]at hl;have en:numsOf (intItems xs).toList=ns:=by rw[<-ex];exact c.numsOf
 rw[nums_intItems]at en;have hsz:xs.size=ns.length:=by rw[<-en];simp
 have N:0<ns.length:=by
  cases ns with
  |nil=>exact absurd rfl y
  |cons _ _=>simp
 have d:∀i,i<ns.length->ns[i]?=some (numAt xs i):=λi b=>by
  unfold numAt;rw[<-en,PB,Sv];have:i<xs.size:=()
  rw[Array.getElem?_eq_getElem this];rfl
 refine max_intList (I.ok.hd n) hl () λv h' U A w=> ?_;obtain⟨t,rfl⟩:=intItems_at A;obtain⟨M,g⟩:=argBest_gt (numAt xs) (xs.size-1);refine#[.int (numAt xs (argBest (λi j=>decide (numAt xs i>numAt xs j)) (xs.size-1))),H,I.kept w,#[7],q _ ?_ λz B=> ?_]
 .exact Pq (d _ ())
 .obtain⟨i,b⟩:=Qm B;have r:i<ns.length:=(Pn.mp b).1;rw[d i r]at b;cases b;exact g i ()
theorem Dl(h:X.K=K)(a:X.calm=true):gg X (.builtin "max") (Mh K):=by subst h;exact GD a
variable{a b:Expr}{rest:List Expr}{tb:TE}
end
theorem LB{K:Frag}{xs:List V}{fr:List Nat}{d:St}{Q:VK}(p:V->Bool)(f:V->V)(U:H a=some (.tup xs))(hn:xs.length<=sizeLine)(hs:∀(i:Nat)(x:V)(vs:St)(H':Hp)(R:V->St->Hp->Prop)(S:St->Hp->Prop),xs[i]?=some x->vs.length=h->Same H H'->
   (∀k c,k.length=h->Same H' c->if p x=true then R (f x) (k++fr.map λj=>(d[j]?).join) c else S (k++fr.map λj=>(d[j]?).join) c)->
   g x (vs++fr.map λj=>(d[j]?).join) H' λl M=>tc l M λb z=>if b=true then te l z λy n=>R y l n else S l z)(hd:∀D H',H D=none->Same H H'->H' D=some (.lst (gf p f xs))->Q (.ref D) H'):LCW (Itt K a) g tc te h fr d H Q:=by
 intro D v;refine#[λi m J H'=>m=xs.length-i/\i<=xs.length/\∃vs:St,vs.length=h/\J=vs++(fr.map λj=>(d[j]?).join)/\Same H H'/\H' D=some (.lst (gf p f (xs.take i))),#[xs.length,#[5],Qu _,List.replicate h none,#[5],2,Same.new v,ah],6];rintro i m J H' ⟨rfl,hi,vs,hv,rfl,o,r⟩;have w:SqT K H' a xs:=SqT.of (o.at U);by_cases s:i<xs.length
 .refine .inr #[#[xs,xs[i],w,by simp[s]],λL c=>∃vs:St,vs.length=h/\L=vs++(fr.map λj=>(d[j]?).join)/\Same H c/\c D=some (.lst (gf p f (xs.take (i+1)))),λL c q=>#[xs.length- (i+1),QN s (QL _),2,s,q],λx H2 y=> ?_];obtain⟨N,O⟩:=y;subst N;have G:=O xs w;refine hs i x vs _ (λy l n=>∃u,n D=some (.lst u)/\u.length<sizeLine/\∃vs:St,vs.length=h/\l=vs++(fr.map λj=>(d[j]?).join)/\Same H (upd n D (.lst (u++[y])))/\upd n D (.lst (u++[y])) D=some (.lst (gf p f (xs.take (i+1))))) _ G hv o λk c B t=> ?_;have e:=ug p f xs i x G;cases A:p x with
  |true=>
   rw[A,Pd rfl]at e;rw[Pd rfl];refine#[_,t D _ r,Px (wy p f _) ?_,k,B,2,(o.trans t).upd v,by rw[ah,e]];rw[P6];lia
  |false=>
   rw[A,Pb PQ]at e;rw[Pb PQ];exact#[k,B,2,o.trans t,by rw[e];exact t D _ r]
 .have e:i=xs.length:=QR hi (QM s);subst e;refine .inl #[#[xs,w,Pu _],hd D H' v o ?_];rwa[QG]at r
theorem aF(f:Str)(v:V)(fs:List (Str×V)):(aY f v fs).lookup f=some v:=by rw[j4,Pd rfl]
theorem ak(v:V)(fs:List (Str×V))(h:¬g=f):(aY f v fs).lookup g=fs.lookup g:=by rw[j4,Pb h]
def MT(K:Frag):List V->Hp->VK->Prop:=λxs H Q=>∃p a,xs=[.ref p]/\((SqL K H p a/\∀l,H l=none->Q (.ref l) (upd H l (.tup a)))\/(SqT K H p a/\Q (.ref p) H))
theorem fJ{X:Cx}{K:Frag}(h:X.K=K):gg X (.type VA) (MT K):=by subst h;exact vT
structure TyC(K:Frag)(C:Addr):Prop where
 ha:findIn K (.ref C) "__class__"=some (some (.builtin Vs))
 hn:specialIn K (.builtin Vs) "__get__"=some (some (.builtin VG))
 ht:takesIn K (.builtin Vs)=some true
 hm:mroIn K C (.type "object")=some true
end L2
namespace L2
theorem nF{b:St}(Pm:St->Hp->Prop)(c:∀a H',Pm a H'->u D a H')(h:(∀a H',Pm a H'->u D a H')->t {D with nx:=u D} (b.set i (some v)) H):bC i v b H (G5 t u D):=h c
theorem kB(Pm:St->Hp->Prop)(b:∀a H',Pm a H'->u D a H')(h:(∀a H',Pm a H'->u D a H')->t {D with nx:=u D} σ H):G5 t u D σ H:=h b
end L2
namespace L2
open PySem PySem.Spec PyProof.Rows
theorem r9:isSubtype (.type Vl) (.type Vy)=pure false:=by rw[isSubtype_type];kernel_rfl
section
variable{prog:Program}{w:World}{A:Around}{E:Value->Shared->Prop}{s:Shared}
theorem mB(r:Addr)(n:Int)(t u v:Tok)(i:0<=n)(j:n<2^62):
  Meets (Builtin.«range.__reversed__» #[[.ref r],[]])
   (λ_ R s=>s.heap.get? r=some {cls:= .type Vn,data:= .fields #v[.int 0 t, .int n u, .int 1 v]}/\
    R (.ok (.ret (.ref s.heap.objs.size))) {s with heap:=s.heap.push {cls:= .type Vl,data:= .fields #v[rawInt (n-1),rawInt n,rawInt (-1)]}}):=
 .of_wp λprog w A R s h=>by
  obtain⟨k,g,d,m,os⟩:=s;obtain⟨l,h⟩:=h;have en:Builtin.Range.rangeSize 0 n 1=n:=by
   unfold Builtin.Range.rangeSize;rw[Pd ∅];by_cases a:(0:Int)<n
   .rw[Pd a];lia
   .rw[Pb a];lia
  have f1:Builtin.Range.rangeFitsLong 0=true:=∅
  have f2:Builtin.Range.rangeFitsLong n=true:=by unfold Builtin.Range.rangeFitsLong;simp;lia
  have c:Builtin.Range.rangeFitsLong 1=true:=∅
  have e:Builtin.Range.rangeFitsLong (-1)=true:=∅
  have f:Builtin.Range.rangeFitsLong (0-1)=true:=∅
  have b:(0:Int)+(n-1)*1=n-1:=()
  unfold Builtin.«range.__reversed__» Builtin.Range.rangeFields
  repeat (any_goals (first|assumption|wp_step))
  all_goals
   refine#[76];rw[en,b,f1,f2,c,e,f];exact h
theorem nX(a:s.heap.get? p=some {cls:= .type Vn,data:= .fields #v[.int 0 t, .int n u, .int 1 v]})(b:0<=n)(c:n<2^62)(h:Q (.ref s.heap.objs.size) {s with heap:=s.heap.push {cls:= .type Vl,data:= .fields #v[rawInt (n-1),rawInt n,rawInt (-1)]}}):wpAny (model prog w) A (call (.builtin Vp) [.ref p]) Q E s:=
 call_meets Tg #[_,a,2] F.entry_range_reversed (F.args_range_reversed_1 _) (mB p n t u v b c) #[a,h]
theorem nV(b:s.heap.get? p=some {cls:= .type Vn,data:= .fields #v[.int 0 t, .int n u, .int 1 v]})(c:0<=n)(d:n<2^62)(h:Q₁ (.ref s.heap.objs.size) {s with heap:=s.heap.push {cls:= .type Vl,data:= .fields #v[rawInt (n-1),rawInt n,rawInt (-1)]}}):
  codeAny (model prog w) A (.call (.builtin VJ) #[[.type Vy, .ref p],[]]) (wants Q₁ E) s:=by
 refine codeAny_of_tree ?_;show wpAny _ A.in1 (do checkBuiltinCall VJ #[[.type Vy, .ref p],[]];again (.builtin VJ #[[.type Vy, .ref p],[]])) _ _ s;refine Qi (TL (F.newCall_reversed_1 _) (QX #[plainId_quiet F.plain_reversed_new _,codeAny_builtin F.entry_reversed_new ?_]));rw[Around.under_plainId F.plain_reversed_new _];unfold Builtin.«reversed.__new__»;refine Qi (TL (newClass_reversed _) ?_)
 try dsimp only
 refine Qi (TL (a:=Unit.unit) (by first|rfl|kernel_rfl) ?_);refine Qi (TL (a:=Unit.unit) (by first|rfl|kernel_rfl) ?_)
 try dsimp only
 refine Qi (wpAny_specialOf (#[_,b,2]:s.TypeIs (.ref p) Vn) Tg.lookup ?_)
 try dsimp only
 refine Qi (TL (Tg.bind _) ?_)
 try dsimp only
 first
 |rw[Pb (show¬((Value.builtin Vp==Value.none)=true)from PQ)]
 |(show wpAny _ _ (if(Value.builtin Vp==Value.none)=true then _ else _) _ _ _;rw[Pb (show¬((Value.builtin Vp==Value.none)=true)from PQ)])
 refine Qi (wpAny_rule ?_);refine Qi (m:=runValue (.call (.builtin Vp) #[[.ref p],[]])) (show wpAny _ _ (call (.builtin Vp) [.ref p]) _ _ _ from nX b c d ?_)
 first
 |exact QX h
 |exact Qi (QX (QX h))
theorem nW(e:s.heap.get? p=some {cls:= .type Vn,data:= .fields #v[.int 0 t, .int n u, .int 1 v]})(c:0<=n)(d:n<2^62)(h:Q (.ref s.heap.objs.size) {s with heap:=s.heap.push {cls:= .type Vl,data:= .fields #v[rawInt (n-1),rawInt n,rawInt (-1)]}}):wpAny (model prog w) A (call (.type Vy) [.ref p]) Q E s:=by
 refine callType_other (U:= Vl) (Q₁:=λa b=>a= .ref s.heap.objs.size/\b={s with heap:=s.heap.push {cls:= .type Vl,data:= .fields #v[rawInt (n-1),rawInt n,rawInt (-1)]}}) #[9] F.create_reversed #[11,F.mro_reversed] F.made_reversed r9 (F.typeCall_reversed_1 _) (nV e c d #[22]) ?_;rintro a b ⟨rfl,rfl⟩;exact#[#[_,QK _ rfl,2],h]
end
def GK(a:Int)(n:Nat):It:=#[λi _=>i<n,λi H x H'=>H'=H/\x= .int (a+i*(-1)),λi _=>n<=i]
theorem zN{P:Program}{w:World}{K:Frag}{L:Expr}(it:Addr)(d:Int)(n:Nat):Turn P w K L (GK d n) [it] it (λi h=>IsRangeIter h it (d+(i:Nat)*(-1)) ((n:Int) - (i:Nat)) (-1)) where
 mem:=#[5]
 obj:=λi h st b a=>by
  have e:b=it:=#[5,a]
  subst e;exact#[_,st,λv z=>by have M:Data.fields _=Data.cell v:=z;cases M]
 keep:=λi h h' st k=>k it #[5] _ st
 item:=by intro X m r l p i u s A H E I c st q;subst m r l;obtain⟨f0,f1,f2,f,g,j⟩:=c it #[5];have W:=Walks.range (prog:=X.prog) (w:=X.w) (I.ok.hd p) it d (-1) n;refine W.item i s _ _ q st λv h' y hv x J=> ?_;obtain⟨t,rfl⟩:=hv;have B:Inv X u A H {s with heap:=h',toks:=y}:=I.turned (λb o a e=>J b o #[5,a] e) f0 f1 f g j;exact#[7,Em (s:={s with heap:=h',toks:=y}) (n:= Vl) x rfl rfl ∅ #[.int (d+i*(-1)),H,B,#[t,2],#[22],x,λb a=>(c b a).1]]
 done:=by intro X m r l p i u s A H E I c st q;subst m r l;obtain⟨f0,f1,f2,f,g,j⟩:=c it #[5];exact wpAny_pyNext_range_end (I.ok.hd p) st (by have:n<=i:=q;lia) λh' G=>#[2,I.turned (t':=s.toks) (λb o a e=>G b o a e) f0 f1 f g j]
 self:=λ_ _ _ _ _ st h=>S3 st h
theorem Dc{g:TG}{j:TS}{D:Ends}(Pv:Nat->St->Hp->Prop)(k:Pv 0 a H)(q:∀i a H,i<n->Pv i a H->g (.int (hi+i*(-1))) a H λf c=>j {D with nx:=Pv (i+1),ct:=Pv (i+1),bk:=D.nx} f c)(l:∀a H,Pv n a H->D.nx a H):
  ∃W:Nat->Nat->St->Hp->Prop,(∃m,W 0 m a H)/\∀i m a H,W i m a H->
   ((GK hi n).stop i H/\D.nx a H)\/((GK hi n).go i H/\∃N:St->Hp->Prop,(∀d H',N d H'->∃h,h<m/\W (i+1) h d H')/\∀x H',(GK hi n).yld i H x H'->g x a H' λf c=>j {D with nx:=N,ct:=N,bk:=D.nx} f c):=by
 refine#[λi m a H=>m=n-i/\i<=n/\Pv i a H,#[n,#[5],Qu _,k],6];rintro i m a H ⟨rfl,o,p⟩;by_cases b:i<n
 .refine .inr #[b,Pv (i+1),λd H' r=>#[n- (i+1),QN b (QL _),2,b,r],λx H' y=> ?_];obtain⟨e,y⟩:=y;subst e y;exact q i a _ b p
 .have e:i=n:=QR o (QM b);subst e;exact .inl #[Pu _,l a H p]
section
variable{X:Cx}{tg:Expr}
def ON(b:TA):TE:=λc H Q=>b c H λvs a=>∃j:Int,vs=[.int j]/\∀p,a p=none->Q (.ref p) (upd a p (.rng 0 j))
theorem Ir{a:Expr}{d:TA}{p pos:Pos}(g:Gl X Vn)(i:X.mg Vn=none)(f:PA X [a] d)(k:starEach [a] X.env=[(false,eval a X.env)]:=by rfl):PE X (.Call (.Name Vn p) [a] [] pos) (ON d):=by
 intro l s x H Q I h;refine Call_ (kq I g i boot_range (Q4 (thn (f pos l s x H _ I h) λus v ⟨vs,y,c,n,m⟩=> ?_) k rfl));obtain⟨j,e,q⟩:=m;subst e;cases n with
 |cons r u=>
  cases u;obtain⟨t,rfl⟩:=r;refine call_range_1 ?_;exact#[.ref v.heap.objs.size,_,c.laid (λb o e=>Qe _ e) (Pu _) (show cF X.prog X.w _ _ _ (.rng 0 j)from#[111,QK _ rfl]),2,q _ (c.hok.fresh (Pu _))]
def OY(c:TA):TI:=λd H R=>c d H λvs b=>∃(a:Addr)(j:Int),vs=[.ref a]/\b a=some (.rng 0 j)/\0<=j/\j<2^62/\R (GK (j-1) j.toNat) b
theorem M9{l:Expr}{g:TA}{p pos:Pos}(y:Gl X Vy)(z:X.mg Vy=none)(n:PA X [l] g)(B:starEach [l] X.env=[(false,eval l X.env)]:=by rfl):PI X tg (.Call (.Name Vy p) [l] [] pos) (OY g):=by
 intro K s O H R I h;refine Call_ (kq I y z boot_reversed (Q4 (thn (n pos K s O H _ I h) λus c ⟨vs,f,d,M,L⟩=> ?_) B rfl));obtain⟨a,j,e,A,G,J,q⟩:=L;subst e;cases M with
 |cons r N=>
  cases N;cases r;obtain⟨t,u,v,m⟩:=(show cF X.prog X.w f c.heap a (.rng 0 j)from d.hok a _ A);refine nW m G J ?_;have st:IsRangeIter (c.heap.push {cls:= .type Vl,data:= .fields #v[rawInt (j-1),rawInt j,rawInt (-1)]}) c.heap.objs.size (j-1) j (-1):=QK _ rfl;refine S3 st #[c.heap.objs.size,[c.heap.objs.size],_,GK (j-1) j.toNat,f,2,d.kept (t':=c.toks) λb o e=>Qe _ e,zN _ (j-1) j.toNat,6,λb x=> ?_,q]
  .have i:j-1+((0:Nat):Int)*(-1)=j-1:=#[5]
   have k:(((j.toNat:Nat):Int) - ((0:Nat):Int))=j:=()
   show IsRangeIter _ _ (j-1+((0:Nat):Int)*(-1)) (((j.toNat:Nat):Int) - ((0:Nat):Int)) (-1);rw[i,k];exact st
  .have e:b=c.heap.objs.size:=#[5,x]
   subst e;exact d.fpOk (Pu _) (d.hok.fresh (Pu _))
end
theorem Fj(bs:List Bool):(List.range bs.length).all (λi=>bs.getD i true)=bs.all id:=by
 rw[Q8,P9,P9];constructor
 .intro h b d;obtain⟨i,a⟩:=Qm d;have c:i<bs.length:=(Pn.mp a).1;have:=h i (Pf.mpr c);rwa[Ph,a]at this
 .intro h i a;have c:=Pf.mp a;rw[Ph,PF c];exact h _ (QP c)
section
variable{X:Cx}
theorem BB{bs:List Bool}{a:List Value}(r:Vals (bs.map V.bl) a):TruthOf prog w A (λi v=>a.toArray[i]?=some v) (λi=>bs.getD i true):=by
 intro i v s Q E d e;have c:a[i]?=some v:=#[5,d]
 have h:i<a.length:=(Pn.mp c).1;have hl:=r.length;rw[My]at hl;have f:(bs.map V.bl)[i]?=some (V.bl (bs.getD i true)):=by rw[PB,Ph,PF (show i<bs.length by lia)];rfl
 obtain⟨u,b,g⟩:=r.get f;rw[c]at b;cases b;cases g;exact R4 e
def Mj(K:Frag):List V->Hp->VK->Prop:=λxs H Q=>∃(a:Addr)(bs:List Bool),xs=[.ref a]/\SqL K H a (bs.map V.bl)/\Q (.bl (bs.all id)) H
theorem GF(f:X.calm=true):gg X (.builtin "all") (Mj X.K):=by
 intro m s o H vs us Q I l h;obtain⟨a,bs,rfl,d,q⟩:=h;obtain⟨u,rfl,k⟩:=l.one;cases k;obtain⟨b,c,p1,_⟩:=I.list d;have hl:=p1.isList;have j:a<s.heap.objs.size:=by obtain⟨_,e,_⟩:=hl;exact P5 e
 have len:=c.length;rw[My]at len;refine call_all_walk (wpAny_pyIter_list hl #[s.heap.objs.size,[s.heap.objs.size,a],[s.heap.objs.size],b.toArray.size,11,λi=>bs.getD i true,2,Walks.list (A:=X.A.in1) (I.ok.hd f) _ a (Qz j) b.toArray,#[#[_,QK _ rfl,22],hl.push _],BB c,λh' n g=> ?_]);refine#[.bl (bs.all id),H,I.kept (old_kept g),6,q];rw[Qh,<-len,Fj];rfl
theorem vc{K:Frag}(h:X.K=K)(a:X.calm=true):gg X (.builtin "all") (Mj K):=by subst h;exact GF a
end
def nL:List Expr->Option (List Int)
 | []=>some []
 | .Constant (.int i) _ _::a=>(nL a).map (i:: ·)
 |_=>none
inductive ro:List Expr->List Int->Prop
 |nil:ro [] []
 |cons {i:Int} {j:Nat} {p:Pos} {es:List Expr} {zs:List Int} (h:ro es zs):ro (.Constant (.int i) j p::es) (i::zs)
theorem qg:∀ {b:List Expr} {a:List Int},nL b=some a->ro b a
 | [],a,h=>by have e:a=[]:=(Qq h).symm;subst e;exact .nil
 |e::b,a,h=>by
  unfold nL at h;split at h
  .rename_i d;cases d
  .rename_i d;cases d;cases c:nL b with
   |none=>rw[c]at h;cases h
   |some f=>
    rw[c]at h;have e:_::f=a:=Qq h;subst e;exact .cons (qg c)
  .cases h
def Md(a:List Int):TA:=λ_ H Q=>Q (a.map V.int) H
theorem Fy(h:ro a b):PA X a (Md b):=by
 induction h with
 |nil=>exact af
 | @cons i j p a b h c=>exact aa (ae (i:=i) (j:=j) (pos:=p)) c
def HR:Stmt->Expr
 | .Assign _ e _=>e
 |_=> .Constant .none 0 #[0,0,0,0]
def Ds:Expr->Expr
 | .Subscript e _ _=>e
 |_=> .Constant .none 0 #[0,0,0,0]
def Dd:Expr->List Expr
 | .List a _=>a
 |_=>[]
structure PSp(X:Cx)(st:Stmt)(t:TS):Prop where
 h:PS X st t
theorem va:∀(b:List (Str×NameKind)) (n:Nat) (a:List (Str×Addr)) {x:Str} {c:Addr},(x,c)∈cellsFrom n b a->(x,c)∈a\/n<=c
 | [],_,_,_,_,h=> .inl h
 |(name,kind)::r,n,a,x,c,h=>by
  unfold cellsFrom at h;split at h
  .rcases va r (n+1) _ h with h|h
   .rcases Pk.mp h with e|h
    .cases e;exact .inr (Pu _)
    .exact .inl h
   .exact .inr ()
  .exact va r n a h
theorem zf:∀(d:List (Str×NameKind)) (h:Heap) (a:List (Str×Addr)) {x:Str} {c:Addr},(x,c)∈cellsFrom h.objs.size d a->(x,c)∈a\/(pushCells h d).IsCell c none
 | [],_,_,_,_,h=> .inl h
 |(name,kind)::r,h,a,x,c,e=>by
  unfold cellsFrom at e;unfold pushCells;split at e
  .rename_i b;rw[Pd b];have f:(x,c)∈cellsFrom (h.push {cls:= .type "cell",data:= .cell none}).objs.size r ((name,h.objs.size)::a):=by rw[Ss];exact e
   rcases zf r _ _ f with e|e
   .rcases Pk.mp e with e|e
    .cases e;exact .inr #[_,Um _ _ _ _ (QK _ rfl),2]
    .exact .inl e
   .exact .inr e
  .rename_i b;rw[Pb b];exact zf r h a e
theorem Dj(b:Nat):∀(j:List (Str×NameKind)) (n:Nat) (a:List (Str×Addr)),(∀p∈a,p.2<n)->b<=n->(∀x y c,(x,c)∈a->(y,c)∈a->b<=c->x=y)->∀x y c,(x,c)∈cellsFrom n j a->(y,c)∈cellsFrom n j a->b<=c->x=y
 | [],_,_,_,_,h=>h
 |(name,kind)::r,n,a,hl,l,h=>by
  unfold cellsFrom;split
  .refine Dj b r (n+1) _ (λp g=> ?_) () λx y c d f k=> ?_
   .rcases Pk.mp g with e|g
    .subst e;exact QL _
    .exact T2 (hl p g)
   .rcases Pk.mp d with ex|d<;>rcases Pk.mp f with i|f
    .cases ex;cases i;rfl
    .cases ex;exact absurd (hl _ f) (Rg _)
    .cases i;exact absurd (hl _ d) (Rg _)
    .exact h x y c d f k
  .exact Dj b r n a hl l h
theorem zd:∀(g:List (Str×NameKind)) (n:Nat) (b:List (Str×Addr)) (x:Str),((∃y∈g,y.1=x/\y.2= .cell)\/∃c,b.lookup x=some c)->∃c,(cellsFrom n g b).lookup x=some c
 | [],_,_,_,h=>by
  rcases h with ⟨y,a,_⟩|h
  .cases a
  .exact h
 |(name,kind)::r,n,b,x,h=>by
  unfold cellsFrom;have lk:(∃c,b.lookup x=some c)->∃c,((name,n)::b).lookup x=some c:=λ⟨c,e⟩=>by
   rw[RL];cases j:x==name with
   |true=>exact#[7]
   |false=>exact#[c,e]
  split
  .refine zd r (n+1) _ x ?_;rcases h with ⟨y,a,d,f⟩|h
   .rcases Pk.mp a with e|a
    .subst e;refine .inr #[n,6];rw[RL,show(x==name)=true from by simpa using d.symm]
    .exact .inl #[y,a,d,f]
   .exact .inr (lk h)
  .rename_i i;refine zd r n b x ?_;rcases h with ⟨y,a,d,f⟩|h
   .rcases Pk.mp a with e|a
    .subst e;exact absurd #[5,f] i
    .exact .inl #[y,a,d,f]
   .exact .inr h
theorem Di(b:Nat):∀(k:List (Str×NameKind)) (n:Nat) (d:List (Str×Addr)) (x:Str),b<=n->((∃y∈k,y.1=x/\y.2= .cell)\/∀c,d.lookup x=some c->b<=c)->∀c,(cellsFrom n k d).lookup x=some c->b<=c
 | [],_,_,_,_,h,c,e=>by
  rcases h with ⟨y,a,_⟩|h
  .cases a
  .exact h c e
 |(name,kind)::r,n,d,x,j,h,c,e=>by
  unfold cellsFrom at e;split at e
  .refine Di b r (n+1) _ x () ?_ c e;by_cases i:x=name
   .refine .inr λc e=> ?_;rw[RL,show(x==name)=true from by simpa using i]at e;cases e;exact j
   .rcases h with ⟨y,a,f,g⟩|h
    .rcases Pk.mp a with e|a
     .subst e;exact absurd f.symm i
     .exact .inl #[y,a,f,g]
    .refine .inr λc e=> ?_;rw[RL,show(x==name)=false from by simpa using i]at e;exact h c e
  .rename_i l;refine Di b r n d x j ?_ c e;rcases h with ⟨y,a,f,g⟩|h
   .rcases Pk.mp a with e|a
    .subst e;exact absurd #[5,g] l
    .exact .inl #[y,a,f,g]
   .exact .inr h
theorem pQ{a:Scope}(h:(relabel a env).names.lookup x=some .cell\/(relabel a env).names.lookup x=some .free):∃y∈a.names,y.1=x/\(y.2= .cell\/y.2= .free):=by
 obtain⟨k,i,m⟩:∃k,(k=NameKind.cell\/k=NameKind.free)/\(x,k)∈(relabel a env).names:=by
  rcases h with h|h
  .exact#[_, .inl rfl,QV h]
  .exact#[_, .inr rfl,QV h]
 obtain⟨y,f,e⟩:=Pl.mp (show(x,k)∈a.names.map _ from m);obtain⟨n,c⟩:=y;dsimp only at e;split at e
 .rename_i d;have b:n=x:=Qd Prod.fst e;refine#[_,f,b, .inr ?_];simp only[PX,Tp]at d;exact d.1.1
 .have b:n=x:=Qd Prod.fst e;have g:c=k:=Qd Prod.snd e;refine#[_,f,b,6];show c=_\/c=_;rw[g];exact i
theorem vt{s:Shared}{scope:Scope}{code:Value}{outer:Env}{Q:Env->Shared->Prop}(h:Q (newEnv scope s.heap.objs.size globals (cellsFrom (s.heap.objs.size+1) scope.names closure) b func code (some outer) builtinsNs) {s with heap:=pushCells (s.heap.push {cls:= .type VH,data:= .dict #v[]}) scope.names}):
  wpAny M A (newFunctionEnv scope globals closure [] b func code (some outer)) Q E s:=by
 simp only[newFunctionEnv,Option.isSome_some,Uq];refine Qi (wpAny_alloc ?_);refine Qi (wpAny_layCells _ (λname kind cells=>by cases a:kind==NameKind.cell<;>simp[a]) _ _ _ _ ?_);rw[show({s with heap:=s.heap.push {cls:= .type VH,data:= .dict #v[]}}:Shared).heap.objs.size=s.heap.objs.size+1 from Ss ..];refine Qi ?_;rw[List.forIn_nil];exact QX (QX h)
theorem rg{env:Env}(h:∀y∈b,y.2= .free->∃c,env.cells.lookup y.1=some c)(e:(x,c)∈k5 env b):env.cells.lookup x=some c:=by
 have k:∀(b:List (Str×NameKind)) (d:List (Str×Addr)),(∀y∈b,y.2= .free->∃c,env.cells.lookup y.1=some c)->(∀x c,(x,c)∈d->env.cells.lookup x=some c)->∀x c,(x,c)∈b.foldl (jk env) d->env.cells.lookup x=some c:=by
  intro b
  induction b with
  |nil=>intro d _ f x c e;exact f x c e
  |cons y r n=>
   intro d h f;refine n _ (λz m=>h z (Po _ m)) λx c e=> ?_;unfold jk at e;split at e
   .rename_i l;obtain⟨a,j⟩:=h y Pt #[5,l];rcases Pk.mp e with e|e
    .have g:x=y.1:=Qd Prod.fst e;have i:c=(env.cells.lookup y.1).getD 0:=Qd Prod.snd e;rw[g,i,j];rfl
    .exact f x c e
   .exact f x c e
 exact k b [] h (λ_ _ z=>by cases z) x c e
theorem zb:∀(c:List (Str×NameKind)) (n:Nat) (a:List (Str×Addr)) (x:Str),(∀y∈c,y.1=x->y.2≠ .cell)->(cellsFrom n c a).lookup x=a.lookup x
 | [],_,_,_,_=>rfl
 |(name,kind)::r,n,a,x,h=>by
  unfold cellsFrom;split
  .rename_i d;rw[zb r (n+1) _ x λy b=>h y (Po _ b),RL];cases f:x==name with
   |true=>
    have e:x=name:=#[5,f]
    exact absurd #[5,d] (h _ Pt e.symm)
   |false=>rfl
  .exact zb r n a x λy b=>h y (Po _ b)
def cz(X:Cx)(d:List Str)(a:Scope)(b:Shared)(c:Hp)(e:List Addr)(f:List (Addr×Obj)):Cx where
 prog:=X.prog
 w:=X.w
 K:=X.K
 mg:=X.mg
 base:=X.base
 A:=X.A
 N:=d
 s₀:=b
 H₀:=c
 env:=compEnvC a (cellsFrom (b.heap.objs.size+1) a.names (k5 X.env a.names)) b.heap.objs.size X.env
 outer:=X.stack
 stack:=X.stack
 ex:=e
 fn:=λx=>a.names.lookup x==some .cell
 calm:=X.calm
 pn:=X.pn++f
 xe:=λ_ _=>False
section
variable{X:Cx}{elt target iter:Expr}{ifs:List Expr}{sc:Scope}{pos:Pos}{wi:TI}{g:TG}{tc:TT}{te:TE}{vars frn:List Str}{fr:List Nat}
theorem rN(hc:X.calm=true)(fU:∀y∈sc.names,y.2= .free->X.env.kindOf y.1=some .cell\/X.env.kindOf y.1=some .free)(gk:sc.names.all (λy=> !(y.2== .cell)|| !(frn.contains y.1))=true)(gd:sc.kind= .function)(d1:sr X sc fr frn)(hg:∀az bk B M,PG (cz X (vars++frn) sc az bk B M) target g)(ht:∀az bk B M,PTs (cz X (vars++frn) sc az bk B M) ifs tc)(he:∀az bk B M,PE (cz X (vars++frn) sc az bk B M) elt te){G:Shared}{U:St}{R:Value->Addr->Result->Shared->Prop}{tn:Nat->Heap->Prop}{J:It}(I2:Inv X M U H2 G)(T:Turn X.prog X.w X.K target J B it tn)(ea:tn 0 G.heap)(f2:∀b∈B,zH X M H2 b)(h:LCW J g tc te vars.length fr U H2 Q)(hR:∀D C s',Kl X M U Q D C s'->R (.ref D) C (.ok .next) s'):
  wpAny (model X.prog X.w) X.A (newList []) (λacc az=>wpAny (model X.prog X.w) X.A (newFunctionEnv sc X.env.globals (k5 X.env sc.names) [] X.env.qual none .none (some X.env)) (λdj hW=>
   codeAny (model X.prog X.w) X.A (.compStart (.ListComp elt [#[target,iter,ifs,0]] sc pos) 0 (.ref it) acc {dj with scope:=relabel sc X.env}) (R acc dj.locals) hW) E az) E G:=by
 have b5:∀y∈sc.names,y.2= .free->∃c,X.env.cells.lookup y.1=some c:=λy H hk=>I2.ok.has y.1 (fU y H hk);obtain⟨W,⟨m0,w0⟩,turn⟩:=h G.heap.objs.size I2.fresh;refine wpAny_newObj_type (vt ?_);dsimp only;have s:Inv X M U (upd H2 G.heap.objs.size (.lst [])) {G with heap:=G.heap.push {cls:= .type Vt,data:= .seq ([]:List Value).toArray}}:=I2.lnew (t':=G.toks) .nil (Qu _);generalize cO:({G with heap:=G.heap.push {cls:= .type Vt,data:= .seq ([]:List Value).toArray}}:Shared)=a at s;have b6:a.heap=G.heap.push {cls:= .type Vt,data:= .seq ([]:List Value).toArray}:=by rw[<-cO]
 have hsz:a.heap.objs.size=G.heap.objs.size+1:=by rw[b6,Ss]
 have hE:∀b o,G.heap.get? b=some o->a.heap.get? b=some o:=λb o e=>by rw[b6];exact Qe _ e
 generalize hD:G.heap.objs.size=D at*;generalize fe:upd H2 D (.lst [])=H3 at*;have hC:(G.heap.push {cls:= .type Vt,dict:=none,data:= .seq ([]:List Value).toArray}).objs.size=a.heap.objs.size:=by rw[b6]
 rw[hC];have e8:pushCells ((G.heap.push {cls:= .type Vt,dict:=none,data:= .seq ([]:List Value).toArray}).push {cls:= .type VH,data:= .dict #v[]}) sc.names=pushCells (a.heap.push {cls:= .type VH,data:= .dict #v[]}) sc.names:=by rw[b6]
 rw[e8];have gy:(pushCells (a.heap.push {cls:= .type VH,data:= .dict #v[]}) sc.names).Ns a.heap.objs.size (λ_=>none):=(Heap.Ns.new a.heap (.type VH)).keeps (Um _ _);have a5:∀b o,a.heap.get? b=some o->(pushCells (a.heap.push {cls:= .type VH,data:= .dict #v[]}) sc.names).get? b=some o:=λb o e=>Um _ _ _ _ (Qe _ e);have fB:∀ {x c},(x,c)∈cellsFrom (a.heap.objs.size+1) sc.names (k5 X.env sc.names)->(x,c)∈k5 X.env sc.names\/(pushCells (a.heap.push {cls:= .type VH,data:= .dict #v[]}) sc.names).IsCell c none:=λ{x c} e=>by refine zf sc.names (a.heap.push {cls:= .type VH,data:= .dict #v[]}) _ (x:=x) ?_;rw[Ss];exact e
 generalize pushCells (a.heap.push {cls:= .type VH,data:= .dict #v[]}) sc.names=b8 at*;have b3:∀b∈B,b<G.heap.objs.size:=λb f=>by obtain⟨o,e,_⟩:=T.obj _ _ ea b f;exact P5 e
 have e0:∀b∈B,b≠D:=λb f=>by rw[<-hD];exact Qz (b3 b f)
 have dt:∀b∈B,b≠a.heap.objs.size:=λb f=>by rw[hsz];exact Qz (T2 (hD▸b3 b f))
 have e4:∀b∈B,H3 b=none:=λb f=>by rw[<-fe,aA (e0 b f)];exact(f2 b f).1
 have dw:∀b∈B,b∉frs X.stack:=λb f z=>by
  obtain⟨_,f1,dn,_⟩:=f2 b f;rcases Pk.mp (s.stkSub b z)with e|e
  .exact f1 e
  .exact dn e
 have eb:tn 0 b8:=T.keep _ _ _ ea λb f o e=>a5 b o (hE b o e);have eM:∀x c,(k5 X.env sc.names).lookup x=some c->X.env.cells.lookup x=some c:=λx c e=>NR b5 e;have cp:∀x c,(x,c)∈k5 X.env sc.names->∃y,X.env.cells.lookup y=some c:=λx c e=>#[x,rg b5 e];have b1:∀x c,(cellsFrom (a.heap.objs.size+1) sc.names (k5 X.env sc.names)).lookup x=some c->(∃y,X.env.cells.lookup y=some c)\/(a.heap.objs.size+1<=c/\b8.IsCell c none):=λx c e=>by
  have m:=QV e;rcases va _ _ _ m with h|h
  .exact .inl (cp _ _ h)
  .rcases fB m with h'|h'
   .exact .inl (cp _ _ h')
   .exact .inr #[h,h']
 have eH:∀y c,X.env.cells.lookup y=some c->c<a.heap.objs.size:=λy c e=>by obtain⟨v,q⟩:=s.cell y c e;exact q.lt
 have eG:∀x y c,(cellsFrom (a.heap.objs.size+1) sc.names (k5 X.env sc.names)).lookup x=some c->(cellsFrom (a.heap.objs.size+1) sc.names (k5 X.env sc.names)).lookup y=some c->x=y:=λx y c e1 O=>by
  have d5:∀p∈k5 X.env sc.names,p.2<a.heap.objs.size+1:=λp hp=>by obtain⟨y,H⟩:=cp p.1 p.2 hp;exact T2 (eH y _ H)
  by_cases hc:a.heap.objs.size+1<=c
  .exact Dj (a.heap.objs.size+1) sc.names _ _ d5 (Pu _) (λx y c hx _ hc=>absurd (Pg (d5 _ hx) hc) (Rg _)) x y c (QV e1) (QV O) hc
  .have hA:(x,c)∈k5 X.env sc.names:=by
    rcases va _ _ _ (QV e1)with h|h
    .exact h
    .exact absurd h hc
   have hB:(y,c)∈k5 X.env sc.names:=by
    rcases va _ _ _ (QV O)with h|h
    .exact h
    .exact absurd h hc
   exact s.ok.inj x y c (rg b5 hA) (rg b5 hB)
 generalize L:cz X (vars++frn) sc a H3 B M=t;have hH:t.Ok:=by
  rw[<-L];refine#[s.ok.mod,gd,s.ok.glob,s.ok.blt,Pu _,eG,λx hx=> ?_,(λx c z e=> ?_),s.ok.hd,s.ok.frames, .inl rfl,
   λb f=>#[dt b f,λx c e z=> ?_],s.bs,Pr s.ok.bsz s.sz,λb o e f=> ?_,λb f=>dw b f,s.stack,s.stkFree]
  .obtain⟨y,H,h1,h2|h2⟩:=pQ hx
   .exact zd _ _ _ x (.inl #[y,H,h1,h2])
   .exact zd _ _ _ x (.inr (J4 #[y,H,h1,h2]))
  .have hz:sc.names.lookup x=some .cell:=by simpa using (show(sc.names.lookup x==some NameKind.cell)=true from z)
   exact R5 (Di (a.heap.objs.size+1) sc.names _ _ x (Pu _) (.inl #[_,QV hz,22]) c e)
  .rcases b1 x c e with ⟨y,H⟩|⟨h,_⟩
   .exact(f2 b f).2.2.2.2.1 y c H z
   .subst z;have q:=b3 c f;rw[hsz,<-hD]at h;exact Rg _ (Pg q (R5 (R5 h)))
  rcases(f2 b f).2.2.2.1 with z|z
  .exact s.ok.noex b o e z
  .exact absurd (Pg (P5 e) (Pr s.ok.bsz z)) (Rg _)
 have I4:Inv t [] (inner vars.length fr U) H3 {G with heap:=b8}:=by
  have gN:a.os=G.os:=by rw[<-cO]
  have gb:a.gens=G.gens:=by rw[<-cO]
  refine#[hH,by rw[<-L];exact gN.symm,by rw[<-gb];exact s.bare,by rw[<-L];exact Un.kept a5,#[λ_=>none,by rw[<-L];exact gy,λi x v e1 O e3=> ?_],λx c e=> ?_,6,λx c e=> ?_,λp hp=> ?_,by rw[<-L];exact s.hok.kept a5,6]
  .rw[<-L]at e1 e3⊢;have ct:(vars++frn)[i]?=some x:=e1;unfold inner at O;by_cases hi:i<vars.length
   .rw[P1 #[5,hi],Uh]at O;rw[Pd hi]at O;cases O
   .rw[P2 #[5,QM hi],Td,PB]at O;rw[P2 (QM hi)]at ct;cases ej:fr[i-vars.length]? with
    |none=>rw[ej]at O;cases O
    |some j=>
     rw[ej]at O;have b2:(U[j]?).join=some v:=Qq O;have eN:U[j]?=some (some v):=by
      cases q:U[j]? with
      |none=>rw[q]at b2;cases b2
      |some o=>rw[q]at b2;exact Qd some b2
     obtain⟨y,h1,h2,h3,h4⟩:=d1.get ej;rw[h1]at ct;cases ct;obtain⟨m,hn,hl⟩:=s.loc;obtain⟨u,r,l⟩:=hl j x v h2 eN (by rcases h3 with z|z;exact .inr (.inl z);exact .inr (.inr z));refine#[u,r, .inr #[h4,6]];have d4:∀y∈sc.names,y.1=x->y.2≠ .cell:=λy H hs hq=>by have:=P9.mp gk y H;rw[hq,hs]at this;have hm:frn.contains x=true:=List.contains_iff_mem.mpr (Pq h1);rw[hm]at this;cases this
     have fV:∃y∈sc.names,y.1=x/\y.2= .free:=by
      obtain⟨y,H,z1,z2|z2⟩:=pQ h4
      .exact absurd z2 (d4 y H z1)
      .exact#[y,H,z1,z2]
     obtain⟨c,dV⟩:=J4 (env:=X.env) fV;have fu:(cellsFrom (a.heap.objs.size+1) sc.names (k5 X.env sc.names)).lookup x=some c:=(zb sc.names _ _ x d4).trans dV;have fx:=eM x c dV;rcases l with ⟨k,_⟩|⟨_,c',dE,fy⟩
     .rcases h3 with z|z
      .rw[z]at k;cases k
      .rw[z]at k;cases k
     .rw[fx]at dE;cases dE;exact#[c,fu,fy.keeps a5]
  .rw[<-L]at e;rcases b1 x c e with ⟨y,H⟩|⟨_,h⟩
   .obtain⟨v,z⟩:=s.cell y c H;exact#[v,z.keeps a5]
   .exact#[_,h]
  .rw[<-L];exact s.fresh
  .rw[<-L]at e;rcases b1 x c e with ⟨y,H⟩|⟨h,_⟩
   .exact s.freeC y c H
   .exact s.hok.fresh (R5 h)
  .rw[<-L]at hp⊢;rw[Q0]at hp;obtain⟨q1,q2,q3,q4,q5⟩:=s.pin p hp;refine#[a5 _ _ q1,q2,Qz (P5 q1),λz=> ?_,q5];rcases Pk.mp (s.stkSub p.1 z)with e|e
   .exact q3 e
   .exact q4 e
  .rw[<-L];show(inner vars.length fr U).length=(vars++frn).length;unfold inner;rw[PK,Td,My,PK,d1.len]
 have c4:∀ {H':Hp},(∀b∈B,H' b=none)->∀b∈B,zH t [] H' b:=λhn b f=>by
  rw[<-L];obtain⟨_,f1,dn,f3,f4,f5⟩:=f2 b f;refine#[hn b f,dt b f,dw b f, .inl f,λx c e=> ?_,λp hp=> ?_]
  .rcases b1 x c e with ⟨y,H⟩|⟨h,_⟩
   .exact f4 y c H
   .exact λz=>by subst z;have q:=b3 c f;rw[hsz,<-hD]at h;exact Rg _ (Pg q (R5 (R5 h)))
  exact f5 p (by simpa [cz]using hp)
 have back:∀ {ep:St} {H7:Hp} {s7:Shared},Inv t [] ep H7 s7->Inv X M U H7 s7:=λ{ep H7 s7} I7=>by
  have ho:s7.os=a.os:=by have:=I7.os;rwa[<-L]at this
  have hu:Un (frs X.stack) B H3 H7 a.heap s7.heap:=by have:=I7.base;rwa[<-L]at this
  have hk:HOk X.prog X.w H7 s7.heap:=by have:=I7.hok;rwa[<-L]at this
  refine s.call' ho hu hk I7.bare λb f=> ?_;obtain⟨_,f1,_,f3,f4,f5⟩:=f2 b f;exact#[f3,f1,f4,f5]
 have gj:t.prog=X.prog/\t.w=X.w/\t.K=X.K/\t.A=X.A/\t.calm=true/\t.env=compEnvC sc (cellsFrom (a.heap.objs.size+1) sc.names (k5 X.env sc.names)) a.heap.objs.size X.env/\t.xe=(λ_ _=>False)/\t.env.locals=a.heap.objs.size:=by rw[<-L];exact#[2222,hc,222]
 obtain⟨eP,ew,eK,eA,ec,eE,ex,eL⟩:=gj;have d2:=hg a H3 B M;have d3:=ht a H3 B M;have d0:=he a H3 B M;rw[L]at d2 d3 d0;have loop:∀s4:Shared,s4={G with heap:=b8}->
   codeAny (model X.prog X.w) X.A (.compLoop (.ListComp elt [#[target,iter,ifs,0]] sc pos) 0 (.ref it) (.ref D) t.env) (R (.ref D) a.heap.objs.size) s4:=by
  rintro s4 rfl;refine codeAny_loop rfl (λn s'=>∃i bN H',Inv t [] bN H' s'/\tn i s'.heap/\(∀b∈B,H' b=none)/\W i n bN H') (λn s5 hI=> ?_) m0 #[0,_,H3,I4,eb,e4,w0];obtain⟨i,cb,H5,I5,ed,dv,w5⟩:=hI;show wpAny _ X.A ((compTurn (.ListComp elt [#[target,iter,ifs,0]] sc pos) 0 (.ref it) (.ref D) t.env).onRaise (λx=>do noteFrame x t.env;theTreesLotGoes x)) _ _ s5;refine wpAny_noted (wpAny_noRaise ?_);rw[compTurn_list];refine Qi (wpAny_standAt (Qi ?_));rcases turn i n cb H5 w5 with ⟨stop,q⟩|⟨go,N,hN,step⟩
  .have z:=T.done t eP ew eK ec i [] s5 cb H5 (λ_ _=>False) I5 (c4 dv) ed stop;rw[eA]at z;refine thn z λr s6 ⟨hr,I6⟩=> ?_;subst hr;refine QX (hR _ _ _ #[H5,back I6,q,66,T5 s.lt,s.sz,λx c e z=> ?_,λp hp z=> ?_])
   .obtain⟨m,hn,_⟩:=I6.loc;rw[eL]at hn;exact#[m,hn]
   .have:=I6.free;rwa[eL]at this
   .obtain⟨v,q⟩:=s.cell x c e;exact absurd q.lt (by rw[z];exact Rg _)
   .exact absurd (P5 (s.pin p hp).1) (by rw[z];exact Rg _)
  .have z:=T.item t eP ew eK ec i [] s5 cb H5 (λ_ _=>False) I5 (c4 dv) ed go;rw[eA]at z;refine thn z λr s6 ⟨u,hr,h6⟩=> ?_;subst hr;refine Qi (thn h6 λ_ s7 ⟨x,H7,I7,r7,y7,c3,e5⟩=> ?_);have ey:=I7.pinned (c4 e5) (T.obj _ _ c3);have zg:=d2 _ s7 cb H7 x u _ ey r7 (step x H7 y7);rw[eP,ew,eA,ex]at zg;refine Qi (thn zg λ_ s8 ⟨cg,H8,I8,q8⟩=> ?_);have zt:=d3 _ s8 cg H8 _ I8 q8;rw[eP,ew,eA,ex]at zt;refine Qi (thn zt λok s9 ⟨H9,I9,q9⟩=> ?_);have again:∀ {bS:St} {Ha:Hp} {sa:Shared},Inv t ([]++ud B s7.heap) bS Ha sa->N bS Ha->∃m,m<n/\∃i bN H',Inv t [] bN H' sa/\tn i sa.heap/\(∀b∈B,H' b=none)/\W i m bN H':=λ{bS Ha sa} Ia na=>by obtain⟨m',hm,wa⟩:=hN bS Ha na;refine#[m',hm,i+1,bS,Ha,Ia.unpinned,T.keep _ _ _ c3 λb f o e=>(Ia.pin (b,o) (Qj _ (Qj _ (k4 f e)))).1,λb f=> ?_,wa];obtain⟨o,e,d⟩:=T.obj _ _ c3 b f;exact(Ia.pin (b,o) (Qj _ (Qj _ (k4 f e)))).2.1
   cases ok with
   |false=>
    rw[Pb PQ]at q9;exact QX #[2,again I9 q9]
   |true=>
    rw[Pd rfl]at q9;have ze:=d0 _ s9 cg H9 _ I9 q9;rw[eP,ew,eA,ex]at ze;refine Qi (Qi (thn ze λy sa ⟨yv,Ha,Ia,ra,xs,hj,gi,na⟩=>Qi ?_));have zm:=e7 (X:=t) _ sa cg Ha (.ref D) [yv] (.ref D) [y] (λ_ Hb=>N cg Hb) Ia rfl (.cons ra .nil) #[D,xs,yv,22,hj,gi,na];rw[eP,ew,eA,ex]at zm;exact thn zm λ_ sb ⟨vb,Hb,Ib,_,nb⟩=>QX (QX #[2,again Ib nb])
 have e:({(newEnv sc a.heap.objs.size X.env.globals (cellsFrom (a.heap.objs.size+1) sc.names (k5 X.env sc.names)) X.env.qual none .none (some X.env) builtinsNs)with scope:=relabel sc X.env}:Env)=t.env:=by rw[eE];rfl
 have dr:=codeAny_compStart_list (elt:=elt) (target:=target) (iter:=iter) (ifs:=ifs) (rest:=[]) (scope:=sc) (pos:=pos) (loop _ rfl) (T.self _ 0 _ _ _ eb (loop _ rfl));rwa[<-e]at dr
theorem Nd(N:X.calm=true)(ag:sc.names.all (λy=> !(y.2== .free)||(X.env.kindOf y.1==some .cell||X.env.kindOf y.1==some .free))=true)(a3:sc.names.all (λy=> !(y.2== .cell)|| !(frn.contains y.1))=true)(l:sc.kind= .function)(a0:sc.names.all (λy=> !(y.2== .local)||(sc.names.lookup y.1==some .local))=true)(ai:sr X sc fr frn)(hi:PI X target iter wi)(hg:∀i f d a,PG (cz X (vars++frn) sc i f d a) target g)(ht:∀i f d a,PTs (cz X (vars++frn) sc i f d a) ifs tc)(O:∀i f d a,PE (cz X (vars++frn) sc i f d a) elt te)(hs:∀x,foldedSetIterable iter X.env x=pure x:=by intro _;rfl):PE X (.ListComp elt [#[target,iter,ifs,0]] sc pos) (tLC wi g tc te vars.length fr):=by
 intro a s n H Q I h;have k:=Mt ag;have aD:=Mq a0;rw[eval_ListComp];have U:∀y∈sc.names,y.2= .free->∃c,X.env.cells.lookup y.1=some c:=λy hy hk=>I.ok.has y.1 (k y hy hk);refine wpAny_comprehension_free (use:=none) rfl hs (oo U) l aD (thn (hi a s n H _ I h) λv s1 u=>thn u λbA s2 z=> ?_);obtain⟨it,d,tn,J,H2,e,r,T,bt,f2,q⟩:=z;subst e;refine rN (R:=λt C=>compPost (model X.prog X.w) X.A X.xe none (EP X a n Q) t C) N k a3 l ai hg ht O r T bt f2 q λD C s' j=> ?_;obtain⟨H',p,q',⟨m,hn⟩,K,B,M,G,L⟩:=j;refine#[m,hn,λh' a5=>#[.ref D,H',62,q']];exact p.turned (t':=s'.toks) (λb o j e=>(a5.2 b j).trans e) K B (.inr M) G L
theorem Fl{i:Nat}{x:Str}{k L:Pos}(hN:X.N.Nodup)(bu:X.N[i]?=some x)(K:X.env.kindOf x=some .local)(hc:X.calm=true)(bk:sc.names.all (λy=> !(y.2== .free)||(X.env.kindOf y.1==some .cell||X.env.kindOf y.1==some .free))=true)(bS:sc.names.all (λy=> !(y.2== .cell)|| !(frn.contains y.1))=true)(G:sc.kind= .function)(bN:sc.names.all (λy=> !(y.2== .local)||(sc.names.lookup y.1==some .local))=true)(bp:sr X sc fr frn)(hi:PI X target iter wi)(hg:∀n l j d,PG (cz X (vars++frn) sc n l j d) target g)(ht:∀n l j d,PTs (cz X (vars++frn) sc n l j d) ifs tc)(he:∀n l j d,PE (cz X (vars++frn) sc n l j d) elt te)(b3:swapsWith (.ListComp elt [#[target,iter,ifs,0]] sc pos) (some (.Name x k)) L.line X.env=pure true:=by rfl)(hs:∀x,foldedSetIterable iter X.env x=pure x:=by intro _;rfl):PS X (.Assign [.Name x k] (.ListComp elt [#[target,iter,ifs,0]] sc pos) L) (Hc (tLC wi g tc te vars.length fr) (bC i)):=by
 intro d s σ H p I h;have B:=Mt bk;have bM:=Mq bN;rw[exec_Assign_Name_used _ _ _ _ b3];have a6:∀y∈sc.names,y.2= .free->∃c,X.env.cells.lookup y.1=some c:=λy hy hk=>I.ok.has y.1 (B y hy hk);refine Qi (wpAny_standAt (Qi ?_));show wpAny _ X.A (do let _<-comprehension (.ListComp elt [#[target,iter,ifs,0]] sc pos) sc X.env _ (newList []) false (eval iter X.env) (some (assign (.Name x k) X.env))) _ _ s;refine Qi (thn (Q:=λ_ f=>SP X d p .next f) (wpAny_comprehension_free (use:=some (assign (.Name x k) X.env)) (Q:=λ_ f=>SP X d p .next f) rfl hs (oo a6) G bM (thn (hi d s σ H _ I h) λv s1 h1=>thn h1 λcm s2 h2=> ?_)) λ_ f hq=>QX (QX hq));obtain⟨it,j,tn,J,H2,e,O,T,b9,f2,q⟩:=h2;subst e;refine rN (R:=λag C=>compPost (model X.prog X.w) X.A X.xe (some (assign (.Name x k) X.env)) (λ_ f=>SP X d p .next f) ag C) hc B bS G bp hg ht he O T b9 f2 q λD C f r=> ?_;obtain⟨H',M,q',⟨m,hn⟩,ax,t,az,u,ay⟩:=r;show wpAny _ X.A (assign (.Name x k) X.env (.ref D)) _ _ f;refine wpAny_assign_Name (wc M hN bu (.inl K) (v:= .ref D) rfl (λs3 U b2=> ?_) (.inr K));obtain⟨a,sb,ha⟩:=b2;have a3:C≠a:=by
  rcases ha with e|e
  .rw[e];exact t
  .exact λz=>u x a e z.symm
 refine#[m,hn.sameBut sb a3,λh' b1=>#[_,H',6,q']];exact U.turned (t':=s3.toks) (λb o r e=>(b1.2 b r).trans e) ax t (.inr az) u ay
end
end L2
namespace L2
open PySem PySem.Spec PySem.W PyProof.Rows PySem.SeqAt
end L2
namespace L2
open PySem PySem.Spec PyProof.Rows
end L2
namespace L2
open PySem PySem.Spec PySem.W PyProof.Rows PySem.SeqAt
def lG(H H':Hp):Prop:=∀b xs,H b=some (.tup xs)->H' b=some (.tup xs)
theorem lG.of(h:Same H H'):lG H H':=λb xs e=>h b _ e
theorem lG.upd{H:Hp}{q:Addr}{a:List V}{o:HO}(h:H q=some (.lst a)):lG H (upd H q o):=λb xs e=>by rw[aA (jK e h (by intro z;cases z))];exact e
theorem lG.new(h:H q=none):lG H (L2.upd H q o):=λb xs e=>by rw[aA (au e h)];exact e
def dF(H:Hp)(xs:List V)(ts:List (Nat×Nat)):Prop:=xs.length=ts.length/\∀(i:Nat)(t:Nat×Nat),ts[i]?=some t->∃a,xs[i]?=some (.ref a)/\H a=some (.tup [.int t.1, .int t.2])
theorem dF.ts{ts:List (Nat×Nat)}(h:dF H xs ts)(e:lG H H'):dF H' xs ts:=
 #[h.1,λi t d=>by obtain⟨a,b,c⟩:=h.2 i t d;exact#[a,b,e _ _ c]]
theorem dF.nil:dF H [] []:=#[2,λi t h=>by simp at h]
theorem dF.snoc{ts:List (Nat×Nat)}(h:dF H xs ts)(k:H a=some (.tup [.int t.1, .int t.2])):dF H (xs++[.ref a]) (ts++[t]):=by
 refine#[by rw[PK,PK,h.1];rfl,λi u c=> ?_];by_cases d:i<ts.length
 .rw[P1 d]at c;obtain⟨b,g,j⟩:=h.2 i u c;exact#[b,by rw[P1 (by rw[h.1];exact d)];exact g,j]
 .rw[P2 ()]at c;have f:i-ts.length=0:=by
   cases e:i-ts.length with
   |zero=>rfl
   |succ n=>rw[e]at c;simp at c
  rw[f]at c;cases c;refine#[a,6,k];rw[P2 (by rw[h.1];lia),h.1,f];rfl
theorem dF.at{ts:List (Nat×Nat)}(h:dF H xs ts){i:Nat}(d:xs[i]?=some y):∃a t,ts[i]?=some t/\y= .ref a/\H a=some (.tup [.int t.1, .int t.2]):=by
 have c:i<ts.length:=by rw[<-h.1];exact(Pn.mp d).1
 obtain⟨a,b,e⟩:=h.2 i (ts[i]) (PF c);rw[d]at b;exact#[a,ts[i],PF c,Qq b,e]
def DZ(K:Frag):List V->Hp->VK->Prop:=λxs H Q=>∃(p:Addr)(ns:List Int),xs=[.ref p]/\SqL K H p (ns.map V.int)/\ns.length+1<4096/\
 ∀l,H l=none->Q (.ref l) (upd H l (.set (λk=>(firstMet (λi=>ns.getD i 0) ns.length).any (· ==k)) (firstMet (λi=>ns.getD i 0) ns.length).length))
theorem GA{X:Cx}(j:X.calm=true):gg X (.type "set") (DZ X.K):=by
 intro x s y H vs us Q I n h;obtain⟨p,ns,rfl,i,t,q⟩:=h;obtain⟨u,rfl,m⟩:=rp n;cases m;obtain⟨d,f,p1,v⟩:=I.list i;have k:=uJ f;have c:=f.length;rw[My]at c;refine call_set_list (ns:=ns) (I.ok.hd j) p1.isList #[5,k] (by rw[Qh];show d.length+1<4096;lia) λh' r a l=> ?_;have g:d.toArray.size=ns.length:=by rw[Qh,c]
 rw[g]at a;exact#[.ref s.heap.objs.size,_,I.laid (t':=r) (λb o e=>l b o (P5 e) e) (Pu _) (show cF X.prog X.w _ _ _ (.set _ _)from a),2,q _ (I.hok.fresh (Pu _))]
theorem Dk{X:Cx}{K:Frag}(h:X.K=K)(a:X.calm=true):gg X (.type "set") (DZ K):=by subst h;exact GA a
def MV:List V->Hp->VK->Prop:=λxs H Q=>∃(p:Addr)(S:Int->Bool)(n:Nat),xs=[.ref p]/\H p=some (.set S n)/\Q (.int n) H
theorem Dp:gg X (.builtin "len") MV:=by intro v s w H vs us Q I k h;obtain⟨p,S,n,rfl,i,q⟩:=h;obtain⟨u,rfl,j⟩:=rp k;cases j;obtain⟨o,a,ep,t,g,d,c,m,r,b,e,f⟩:=I.hok p _ i;have l:a.size<4096:=b;exact call_len_set g d c e (Int.lt_of_lt_of_le (show(a.size:Int)<4096 by lia) ∅) #[.int n,H,I.tok _,#[_,by rw[f]],q]
def MU:List V->Hp->VK->Prop:=λxs H Q=>∃(p:Addr)(n:Nat),xs=[.ref p]/\H p=some (.rng 0 n)/\n<=1000/\∀l,H l=none->Q (.ref l) (upd H l (.lst (((List.range n).map λi:Nat=>(i:Int)).map V.int)))
theorem ot:∀(a:List Value)(n k:Nat),a.length=n->(∀(i:Nat)(v:Value),a[i]?=some v->∃t,v= .int (((k+i:Nat)):Int) t)->Vals (((List.range' k n).map λi:Nat=>(i:Int)).map V.int) a
 | [],0,_,_,_=> .nil
 |v::r,n+1,k,hl,h=>by
  obtain⟨t,e⟩:=h 0 v rfl;subst e;exact .cons #[t,2] (ot r n (k+1) (Nat.succ.inj hl) λi u c=>by obtain⟨t',b⟩:=h (i+1) u #[5,c];exact#[t',by rw[b,show k+(i+1)=k+1+i by lia]])
theorem Dm{X:Cx}(g:X.calm=true):gg X (.type Vt) MU:=by
 intro A s B H vs us Q I y h;obtain⟨p,n,rfl,l,k,q⟩:=h;obtain⟨u,rfl,x⟩:=rp y;cases x;obtain⟨t,u,v,e⟩:=I.hok p _ l;have m:IsRange s.heap p 0 (n:Int) 1 t u v:=e;refine call_list_range (n:=n) (I.ok.hd g) m (small_one ∅ ∅ () ()) (by rw[rangeSize_nat];lia) () λh' z a c j f b=> ?_;have o:Vals (((List.range n).map λi:Nat=>(i:Int)).map V.int) a.toList:=by rw[Ts];refine ot a.toList n 0 (by rw[Se];exact b.1) λi w r=> ?_;obtain⟨t',d⟩:=b.2 i w (by rw[<-r,Sv]);exact#[t',by rw[d];congr 1;lia]
 refine#[.ref s.heap.objs.size,_,I.laid (t':=z) j (Pu _) (show cF X.prog X.w _ _ _ (.lst _)from#[6,a.toList,c,o,6]),2,q _ (I.hok.fresh (Pu _))]
 .rw[My,My,Pw];exact Pr k ∅
 .rw[Tt];exact f
theorem Jr{K:Frag}{xs:List V}{fr:List Nat}{o:St}{Q:VK}(f:V->V->Hp->Prop)(M:∀x y H H',lG H H'->f x y H->f x y H')(ha:SqL K H a xs)(hn:xs.length<=sizeLine)(hs:∀(i:Nat)(x:V)(vs:St)(H':Hp)(R:V->St->Hp->Prop)(S:St->Hp->Prop),xs[i]?=some x->vs.length=l->Same H H'->
   (∀y u d,f x y d->u.length=l->Same H' d->R y (u++fr.map λj=>(o[j]?).join) d)->
   g x (vs++fr.map λj=>(o[j]?).join) H' λp H3=>tc p H3 λb G=>if b=true then te p G λy k=>R y p k else S p G)(hd:∀D H' (c:List V),H D=none->Same H H'->H' D=some (.lst c)->c.length=xs.length->(∀(j:Nat)(x y:V),xs[j]?=some x->c[j]?=some y->f x y H')->Q (.ref D) H'):LCW (Itl K a) g tc te l fr o H Q:=by
 intro D v;refine#[λi m U H'=>m=xs.length-i/\i<=xs.length/\∃(vs:St)(c:List V),vs.length=l/\U=vs++(fr.map λj=>(o[j]?).join)/\Same H H'/\H' D=some (.lst c)/\c.length=i/\(∀(j:Nat)(x y:V),xs[j]?=some x->c[j]?=some y->f x y H'),#[xs.length,#[5],Qu _,List.replicate l none,[],#[5],2,Same.new v,ah,2,#[5]],6];rintro i m U H' ⟨rfl,hi,vs,c,hv,rfl,t,J,hl,O⟩;have w:SqL K H' a xs:=t.seq ha;by_cases r:i<xs.length
 .refine .inr #[#[xs,xs[i],w,by simp[r]],λag d=>∃(vs:St)(c:List V),vs.length=l/\ag=vs++(fr.map λj=>(o[j]?).join)/\Same H d/\d D=some (.lst c)/\c.length=i+1/\(∀(j:Nat)(x y:V),xs[j]?=some x->c[j]?=some y->f x y d),λag d q=>#[xs.length- (i+1),QN r (QL _),2,r,q],λx H2 y=> ?_];obtain⟨e1,e2⟩:=y;subst e1;have N:=e2 xs w;refine hs i x vs _ (λy p k=>∃s,k D=some (.lst s)/\s.length<sizeLine/\∃(vs:St)(c:List V),vs.length=l/\p=vs++(fr.map λj=>(o[j]?).join)/\Same H (upd k D (.lst (s++[y])))/\upd k D (.lst (s++[y])) D=some (.lst c)/\c.length=i+1/\(∀(j:Nat)(x z:V),xs[j]?=some x->c[j]?=some z->f x z (upd k D (.lst (s++[y]))))) _ N hv t (λy u d pz bp B=> ?_);have L:=B D _ J;refine#[_,L,by rw[hl];exact Pg r hn,u,c++[y],bp,2,(t.trans B).upd v,ah,by rw[PK,hl];rfl,λj x' z A h=> ?_];refine M _ _ _ _ (lG.upd L) ?_;by_cases hj:j<c.length
  .rw[P1 hj]at h;exact M _ _ _ _ (lG.of B) (O j x' z A h)
  .rw[P2 ()]at h;have a4:j-c.length=0:=by
    cases e:j-c.length with
    |zero=>rfl
    |succ n=>rw[e]at h;simp at h
   rw[a4]at h;cases h;have ej:j=i:=()
   subst ej;rw[N]at A;cases A;exact pz
 .have e:i=xs.length:=QR hi (QM r);subst e;exact .inl #[#[xs,w,Pu _],hd D H' c v t J hl O]
end L2
namespace L2
open PySem PySem.Spec PyProof.Rows
def Itz(K:Frag)(a b:Addr):It:=
 #[λi H=>∃xs c x y,SqL K H a xs/\SqL K H b c/\xs[i]?=some x/\c[i]?=some y,
  λi H x H'=>∃t,x= .ref t/\H t=none/\∃v u,(∀xs,SqL K H a xs->xs[i]?=some v)/\(∀c,SqL K H b c->c[i]?=some u)/\H'=upd H t (.tup [v,u]),
  λi H=>∃xs c,SqL K H a xs/\SqL K H b c/\(xs.length<=i\/c.length<=i)]
theorem Dz{z TI TO a c b:Addr}(h:b∈[z,TO,a,c]):b∈[z,TI,TO,a,c]:=by
 rcases Pk.mp h with h|h
 .exact Pk.mpr (.inl h)
 .exact Po _ (Po _ h)
theorem iT{z TO c d b:Addr}(a:b∉ [z,TO,c,d]):b≠z/\b≠TO/\b≠c/\b≠d:=by simp only[Pk,P7,RH,not_or]at a;exact a
theorem GU{P:Program}{w:World}{K:Frag}{br:List Expr}{x1:Nat}{tp:Pos}(l1 l2 z TI TO g j:Addr)(D:ZipApart z TI TO g j l1 l2):
  Turn P w K (.Tuple br x1 tp) (Itz K l1 l2) [z,TI,TO,g,j] z (λi h=>IsZip h z TI TO .none/\IsPair h TI (.ref g) (.ref j)/\(∃a b,IsPair h TO a b)/\h.IsListIter g l1 i/\h.IsListIter j l2 i) where
 mem:=#[5]
 obj:=λi h st b f=>by
  obtain⟨hz,l,⟨B,G,p⟩,m,n⟩:=st;simp only[Pk,P7,RH]at f;rcases f with rfl|rfl|rfl|rfl|rfl
  .exact#[_,hz,λv q=>by have A:Data.fields _=Data.cell v:=q;cases A]
  .exact#[_,l,λv q=>by have A:Data.seq _ _=Data.cell v:=q;cases A]
  .exact#[_,p,λv q=>by have A:Data.seq _ _=Data.cell v:=q;cases A]
  .obtain⟨o,e,c,d⟩:=m;exact#[o,e,λv q=>by rw[d]at q;cases q]
  .obtain⟨o,e,c,d⟩:=n;exact#[o,e,λv q=>by rw[d]at q;cases q]
 keep:=λi h h' st k=>by obtain⟨hz,l,⟨B,G,p⟩,m,n⟩:=st;exact#[k z #[5] _ hz,k TI #[5] _ l,#[B,G,k TO #[5] _ p],m.at λo e=>k g #[5] o e,n.at λo e=>k j #[5] o e]
 item:=by
  intro X Q hw O hc i ar s σ H E I J st U;subst Q hw O;obtain⟨xs,ys,x,y,L,M,hx,hy⟩:=U;obtain⟨hz,l,⟨B,G,p⟩,m,n⟩:=st;obtain⟨cm,rv,p1,b7⟩:=I.list L;obtain⟨cn,ay,p2,b8⟩:=I.list M;obtain⟨u,hu,ru⟩:=rv.get hx;obtain⟨v,hv,ct⟩:=ay.get hy;refine wpAny_pyNext_zip_item D hz l p m n p1.isList p2.isList (x:=u) (y:=v) #[5,hu] #[5,hv] λcg b9 bS bu bB b4 cN b2=> ?_;refine#[7,wpAny_letOwnedTupleGo_zip b9 λt cb r=> ?_];replace r:Heap.SameBut z cg t:=r;have a3:z<s.heap.objs.size:=P5 hz;have bM:TI<s.heap.objs.size:=P5 l;have bN:TO<s.heap.objs.size:=P5 p;have bt:g<s.heap.objs.size:=by obtain⟨o,e,_⟩:=m;exact P5 e
  have bA:j<s.heap.objs.size:=by obtain⟨o,e,_⟩:=n;exact P5 e
  have b1:H s.heap.objs.size=none:=I.fresh;have b5:t.get? s.heap.objs.size=some {cls:= .type VA,data:= .seq #v[u,v]}:=(r.2 _ (T5 a3)).trans b4;have N:∀c o,c≠z->c≠TO->c≠g->c≠j->s.heap.get? c=some o->t.get? c=some o:=λc o c1 c2 c3 c4 e=>(r.2 c c1).trans (b2 c o c1 c2 c3 c4 e);have I1:Inv X ar σ H {s with heap:=t,gens:=s.gens,drawn:=s.drawn,toks:=s.toks}:=I.own [z,TO,g,j] (λb f=>J b (Dz f)) λb o f e=>N b o (iT f).1 (iT f).2.1 (iT f).2.2.1 (iT f).2.2.2 e;have I2:Inv X ar σ (upd H s.heap.objs.size (.tup [x,y])) {s with heap:=t}:=I.pairIn I1 ru ct b5;refine#[.ref s.heap.objs.size,_,I2,2,#[7,b1,x,y,λzs hy=>by rw[I.list_inj hy L];exact hx,λzs hz=>by rw[I.list_inj hz M];exact hy,2],#[cb,6,#[11,(r.2 TO D.TOz).trans bS],66],λb f=> ?_]
  .exact N TI _ D.TIz D.TITO D.TIi1 D.TIi2 l
  .obtain⟨o,e,c,d⟩:=bu;exact#[o,(r.2 g D.i1z).trans e,c,d]
  .obtain⟨o,e,c,d⟩:=bB;exact#[o,(r.2 j D.i2z).trans e,c,d]
  .have bX:=(J b f).1;have b0:b≠s.heap.objs.size:=by
    simp only[Pk,P7,RH]at f;rcases f with rfl|rfl|rfl|rfl|rfl
    .exact Qz a3
    .exact Qz bM
    .exact Qz bN
    .exact Qz bt
    .exact Qz bA
   rw[aA b0];exact bX
 done:=by
  intro X Q hw O hc i ar s σ H E I J st U;subst Q hw O;obtain⟨xs,ys,L,M,b3⟩:=U;obtain⟨hz,l,⟨B,G,p⟩,m,n⟩:=st;obtain⟨cm,rv,p1,b7⟩:=I.list L;obtain⟨cn,ay,p2,b8⟩:=I.list M;have e1:=rv.length;have e2:=ay.length;refine wpAny_pyNext_zip_end (I.ok.hd hc) D hz l p m n p1.isList p2.isList (by
   rcases b3 with h|h
   .exact .inl (by simp;lia)
   .exact .inr (by simp;lia)) λt N=>#[26]
  exact I.own [z,TO,g,j] (λb f=>J b (Dz f)) λb o f e=>N b o (iT f).1 (iT f).2.1 (iT f).2.2.1 (iT f).2.2.2 e
 self:=λ_ _ _ _ _ st h=>wpAny_pyIter_zip st.1 h
section
variable{X:Cx}{elts:List Expr}{x1:Nat}{tp:Pos}
def Ov(K:Frag)(d:TA):TI:=λf H R=>d f H λvs c=>∃a b,vs=[.ref a, .ref b]/\(∃xs,SqL K c a xs)/\(∃e,SqL K c b e)/\R (Itz K a b) c
theorem M7{a b:Expr}{l:TA}{p pos:Pos}(y:Gl X "zip")(A:X.mg "zip"=none)(x:PA X [a,b] l)(G:starEach [a,b] X.env=(false,eval a X.env)::starEach [b] X.env:=by rfl)(B:(backTo pos (starEach [b] X.env)).any (·.1)=false:=by rfl):PI X (.Tuple elts x1 tp) (.Call (.Name "zip" p) [a,b] [] pos) (Ov X.K l):=by
 intro O s σ H R I h;refine Sj (kq I y A boot_zip ?_);refine Q4 (thn (x pos O s σ H _ I h) λus d ⟨vs,m,f,U,Q⟩=> ?_) G B;obtain⟨a,b,e,⟨xs,J⟩,⟨ys,L⟩,q⟩:=Q;subst e;obtain⟨u,v,rfl,ru,rv⟩:=Ma U;cases ru;cases rv;obtain⟨az,r2,p2,ax⟩:=f.list J;obtain⟨aD,r3,k,ay⟩:=f.list L;have M:a<d.heap.objs.size:=by obtain⟨o,e,_⟩:=p2.isList;exact P5 e
 have N:b<d.heap.objs.size:=by obtain⟨o,e,_⟩:=k.isList;exact P5 e
 refine call_zip_2 p2.isList k.isList λh' j t w n r hsz z=> ?_;refine wpAny_pyIter_zip j #[d.heap.objs.size+4,[d.heap.objs.size+4,d.heap.objs.size+2,d.heap.objs.size+3,d.heap.objs.size,d.heap.objs.size+1],_,Itz X.K a b,m,2,f.kept (t':=d.toks) z,GU a b _ _ _ _ _ (zipApart_new M N),#[j,t,#[11,w],n,r],λc g=> ?_,q];have i:d.heap.objs.size<=c:=by
  simp only[Pk,P7,RH]at g;rcases g with e|e|e|e|e<;>rw[e]
  .exact Sy _ _
  .exact Sy _ _
  .exact Sy _ _
  .exact Pu _
  .exact Sy _ _
 exact f.fpOk i (f.hok.fresh i)
theorem K6{K:Frag}{a b:Expr}{c:TA}{p pos:Pos}(h:X.K=K)(e:Gl X "zip")(f:X.mg "zip"=none)(d:PA X [a,b] c)(i:starEach [a,b] X.env=(false,eval a X.env)::starEach [b] X.env:=by rfl)(g:(backTo pos (starEach [b] X.env)).any (·.1)=false:=by rfl):PI X (.Tuple elts x1 tp) (.Call (.Name "zip" p) [a,b] [] pos) (Ov K c):=by subst h;exact M7 e f d i g
end
def hide(H:Hp)(D:Addr):Hp:=λb=>if b=D then none else H b
theorem de(h:b≠D):hide H D b=H b:=by unfold hide;rw[Pb h]
theorem kN:hide (upd H D o) D=hide H D:=by
 funext b;unfold hide;split
 .rfl
 .rename_i h;exact aA h
theorem fc:Same (hide H D) H:=λb o e=>by
 unfold hide at e;split at e
 .cases e
 .exact e
theorem ju(h:Same H H'):Same (hide H D) (hide H' D):=λb o e=>by
 unfold hide at e⊢;split at e
 .cases e
 .rename_i a;rw[Pb a];exact h b o e
theorem qe{K:Frag}{xs:List V}{fr:List Nat}{p:St}{Q:VK}(f:V->V->Hp->Prop)(az:∀x y H H',Same H H'->f x y H->f x y H')(ha:SqL K H a xs)(hn:xs.length<=sizeLine)(hs:∀(i:Nat)(x:V)(vs:St)(D:Addr)(H':Hp)(R:V->St->Hp->Prop)(S:St->Hp->Prop),xs[i]?=some x->vs.length=o->Same H H'->(∃l,H' D=some (.lst l))->
   (∀y v d,f x y (hide d D)->v.length=o->Same H' d->R y (v++fr.map λj=>(p[j]?).join) d)->
    g x (vs++fr.map λj=>(p[j]?).join) H' λr H3=>tc r H3 λb L=>if b=true then te r L λy k=>R y r k else S r L)(hd:∀D H' (c:List V),H D=none->Same H H'->H' D=some (.lst c)->c.length=xs.length->(∀(j:Nat)(x y:V),xs[j]?=some x->c[j]?=some y->f x y (hide H' D))->Q (.ref D) H'):LCW (Itl K a) g tc te o fr p H Q:=by
 intro D w;refine#[λi m O H'=>m=xs.length-i/\i<=xs.length/\∃(vs:St)(c:List V),vs.length=o/\O=vs++(fr.map λj=>(p[j]?).join)/\Same H H'/\H' D=some (.lst c)/\c.length=i/\(∀(j:Nat)(x y:V),xs[j]?=some x->c[j]?=some y->f x y (hide H' D)),#[xs.length,#[5],Qu _,List.replicate o none,[],#[5],2,Same.new w,ah,2,#[5]],6];rintro i m O H' ⟨rfl,hi,vs,c,hv,rfl,u,A,hl,N⟩;have B:SqL K H' a xs:=u.seq ha;by_cases s:i<xs.length
 .refine .inr #[#[xs,xs[i],B,by simp[s]],λU d=>∃(vs:St)(c:List V),vs.length=o/\U=vs++(fr.map λj=>(p[j]?).join)/\Same H d/\d D=some (.lst c)/\c.length=i+1/\(∀(j:Nat)(x y:V),xs[j]?=some x->c[j]?=some y->f x y (hide d D)),λU d q=>#[xs.length- (i+1),QN s (QL _),2,s,q],λx H2 y=> ?_];obtain⟨e1,e2⟩:=y;subst e1;have M:=e2 xs B;refine hs i x vs D _ (λy r k=>∃t,k D=some (.lst t)/\t.length<sizeLine/\∃(vs:St)(c:List V),vs.length=o/\r=vs++(fr.map λj=>(p[j]?).join)/\Same H (upd k D (.lst (t++[y])))/\upd k D (.lst (t++[y])) D=some (.lst c)/\c.length=i+1/\(∀(j:Nat)(x z:V),xs[j]?=some x->c[j]?=some z->f x z (hide (upd k D (.lst (t++[y]))) D))) _ M hv u #[_,A] (λy v d pz br J=> ?_);have ay:=J D _ A;refine#[_,ay,by rw[hl];exact Pg s hn,v,c++[y],br,2,(u.trans J).upd w,ah,by rw[PK,hl];rfl,λj x' z G h=> ?_];rw[kN];by_cases hj:j<c.length
  .rw[P1 hj]at h;exact az _ _ _ _ (ju J) (N j x' z G h)
  .rw[P2 ()]at h;have a5:j-c.length=0:=by
    cases e:j-c.length with
    |zero=>rfl
    |succ n=>rw[e]at h;simp at h
   rw[a5]at h;cases h;have ej:j=i:=()
   subst ej;rw[M]at G;cases G;exact pz
 .have e:i=xs.length:=QR hi (QM s);subst e;exact .inl #[#[xs,B,Pu _],hd D H' c w u A hl N]
theorem LA{K:Frag}{xs:List V}{fr:List Nat}{p:St}{Q:VK}(f:V->V->Hp->Prop)(az:∀x y H H',Same H H'->f x y H->f x y H')(ha:H a=some (.tup xs))(hn:xs.length<=sizeLine)(hs:∀(i:Nat)(x:V)(vs:St)(D:Addr)(H':Hp)(R:V->St->Hp->Prop)(S:St->Hp->Prop),xs[i]?=some x->vs.length=o->Same H H'->(∃l,H' D=some (.lst l))->
   (∀y v d,f x y (hide d D)->v.length=o->Same H' d->R y (v++fr.map λj=>(p[j]?).join) d)->
    g x (vs++fr.map λj=>(p[j]?).join) H' λr H3=>tc r H3 λb L=>if b=true then te r L λy k=>R y r k else S r L)(hd:∀D H' (c:List V),H D=none->Same H H'->H' D=some (.lst c)->c.length=xs.length->(∀(j:Nat)(x y:V),xs[j]?=some x->c[j]?=some y->f x y (hide H' D))->Q (.ref D) H'):LCW (Itt K a) g tc te o fr p H Q:=by
 intro D w;refine#[λi m O H'=>m=xs.length-i/\i<=xs.length/\∃(vs:St)(c:List V),vs.length=o/\O=vs++(fr.map λj=>(p[j]?).join)/\Same H H'/\H' D=some (.lst c)/\c.length=i/\(∀(j:Nat)(x y:V),xs[j]?=some x->c[j]?=some y->f x y (hide H' D)),#[xs.length,#[5],Qu _,List.replicate o none,[],#[5],2,Same.new w,ah,2,#[5]],6];rintro i m O H' ⟨rfl,hi,vs,c,hv,rfl,u,A,hl,N⟩;have B:SqT K H' a xs:=SqT.of (u.at ha);by_cases s:i<xs.length
 .refine .inr #[#[xs,xs[i],B,by simp[s]],λU d=>∃(vs:St)(c:List V),vs.length=o/\U=vs++(fr.map λj=>(p[j]?).join)/\Same H d/\d D=some (.lst c)/\c.length=i+1/\(∀(j:Nat)(x y:V),xs[j]?=some x->c[j]?=some y->f x y (hide d D)),λU d q=>#[xs.length- (i+1),QN s (QL _),2,s,q],λx H2 y=> ?_];obtain⟨e1,e2⟩:=y;subst e1;have M:=e2 xs B;refine hs i x vs D _ (λy r k=>∃t,k D=some (.lst t)/\t.length<sizeLine/\∃(vs:St)(c:List V),vs.length=o/\r=vs++(fr.map λj=>(p[j]?).join)/\Same H (upd k D (.lst (t++[y])))/\upd k D (.lst (t++[y])) D=some (.lst c)/\c.length=i+1/\(∀(j:Nat)(x z:V),xs[j]?=some x->c[j]?=some z->f x z (hide (upd k D (.lst (t++[y]))) D))) _ M hv u #[_,A] (λy v d pz br J=> ?_);have ay:=J D _ A;refine#[_,ay,by rw[hl];exact Pg s hn,v,c++[y],br,2,(u.trans J).upd w,ah,by rw[PK,hl];rfl,λj x' z G h=> ?_];rw[kN];by_cases hj:j<c.length
  .rw[P1 hj]at h;exact az _ _ _ _ (ju J) (N j x' z G h)
  .rw[P2 ()]at h;have a5:j-c.length=0:=by
    cases e:j-c.length with
    |zero=>rfl
    |succ n=>rw[e]at h;simp at h
   rw[a5]at h;cases h;have ej:j=i:=()
   subst ej;rw[M]at G;cases G;exact pz
 .have e:i=xs.length:=QR hi (QM s);subst e;exact .inl #[#[xs,B,Pu _],hd D H' c w u A hl N]
theorem F4{J:Int}{fr:List Nat}{p:St}{Q:VK}(d:Nat->V->Hp->Prop)(ai:∀i y H H',Same H H'->d i y H->d i y H')(hn:n<=sizeLine)(hs:∀(i:Nat)(vs:St)(D:Addr)(H':Hp)(R:V->St->Hp->Prop)(S:St->Hp->Prop),i<n->vs.length=o->Same H H'->(∃l,H' D=some (.lst l))->
   (∀y t c,d i y (hide c D)->t.length=o->Same H' c->R y (t++fr.map λj=>(p[j]?).join) c)->
   g (.int (J+i)) (vs++fr.map λj=>(p[j]?).join) H' λr M=>tc r M λb B=>if b=true then te r B λy h=>R y r h else S r B)(hd:∀D H' (a:List V),H D=none->Same H H'->H' D=some (.lst a)->a.length=n->(∀(j:Nat)(y:V),a[j]?=some y->d j y (hide H' D))->Q (.ref D) H'):LCW (Itr J n) g tc te o fr p H Q:=by
 intro D u;refine#[λi m K H'=>m=n-i/\i<=n/\∃(vs:St)(a:List V),vs.length=o/\K=vs++(fr.map λj=>(p[j]?).join)/\Same H H'/\H' D=some (.lst a)/\a.length=i/\(∀(j:Nat)(y:V),a[j]?=some y->d j y (hide H' D)),#[n,#[5],Qu _,List.replicate o none,[],#[5],2,Same.new u,ah,2,#[5]],6];rintro i m K H' ⟨rfl,hi,vs,a,hv,rfl,w,v,hl,G⟩;by_cases k:i<n
 .refine .inr #[k,λL c=>∃(vs:St)(a:List V),vs.length=o/\L=vs++(fr.map λj=>(p[j]?).join)/\Same H c/\c D=some (.lst a)/\a.length=i+1/\(∀(j:Nat)(y:V),a[j]?=some y->d j y (hide c D)),λL c q=>#[n- (i+1),QN k (QL _),2,k,q],λx H2 y=> ?_];obtain⟨N,O⟩:=y;subst N O;refine hs i vs D _ (λy r h=>∃s,h D=some (.lst s)/\s.length<sizeLine/\∃(vs:St)(a:List V),vs.length=o/\r=vs++(fr.map λj=>(p[j]?).join)/\Same H (upd h D (.lst (s++[y])))/\upd h D (.lst (s++[y])) D=some (.lst a)/\a.length=i+1/\(∀(j:Nat)(z:V),a[j]?=some z->d j z (hide (upd h D (.lst (s++[y]))) D))) _ k hv w #[_,v] (λy t c pz a4 A=> ?_);have ag:=A D _ v;refine#[_,ag,by rw[hl];exact Pg k hn,t,a++[y],a4,2,(w.trans A).upd u,ah,by rw[PK,hl];rfl,λj z f=> ?_];rw[kN];by_cases hj:j<a.length
  .rw[P1 hj]at f;exact ai _ _ _ _ (ju A) (G j z f)
  .rw[P2 ()]at f;have az:j-a.length=0:=by
    cases e:j-a.length with
    |zero=>rfl
    |succ n=>rw[e]at f;simp at f
   rw[az]at f;cases f;have U:j=i:=()
   subst U;exact pz
 .have e:i=n:=QR hi (QM k);subst e;exact .inl #[Pu _,hd D H' a u w v hl G]
theorem Ly{K:Frag}{xs c:List V}{fr:List Nat}{k:St}{H:Hp}{Q:VK}(f:Nat->V)(ha:SqL K H a xs)(hb:SqL K H b c)(bB:xs.length=n)(bM:c.length=n)(hn:n<=sizeLine)(hs:∀(i:Nat)(x y:V)(vs:St)(H':Hp)(t:Addr)(R:V->St->Hp->Prop)(S:St->Hp->Prop),xs[i]?=some x->c[i]?=some y->vs.length=h->Same H H'->H' t=none->
   (∀s d,s.length=h->Same (upd H' t (.tup [x,y])) d->R (f i) (s++fr.map λj=>(k[j]?).join) d)->
   g (.ref t) (vs++fr.map λj=>(k[j]?).join) (upd H' t (.tup [x,y])) λl H3=>tc l H3 λb G=>if b=true then te l G λy o=>R y l o else S l G)(hd:∀D H',H D=none->Same H H'->H' D=some (.lst ((List.range n).map f))->Q (.ref D) H'):LCW (Itz K a b) g tc te h fr k H Q:=by
 intro D z;refine#[λi m O H'=>m=n-i/\i<=n/\∃vs:St,vs.length=h/\O=vs++(fr.map λj=>(k[j]?).join)/\Same H H'/\H' D=some (.lst ((List.range i).map f)),#[n,#[5],Qu _,List.replicate h none,#[5],2,Same.new z,ah],6];rintro i m O H' ⟨rfl,hi,vs,hv,rfl,p,J⟩;have A:SqL K H' a xs:=p.seq ha;have B:SqL K H' b c:=p.seq hb;by_cases r:i<n
 .have lx:i<xs.length:=()
  have ly:i<c.length:=()
  refine .inr #[#[xs,c,xs[i],c[i],A,B,by simp[lx],by simp[ly]],λU d=>∃vs:St,vs.length=h/\U=vs++(fr.map λj=>(k[j]?).join)/\Same H d/\d D=some (.lst ((List.range (i+1)).map f)),λU d q=>#[n- (i+1),QN r (QL _),2,r,q],λx H2 y=> ?_];obtain⟨t,e1,L,v,u,e2,e3,e4⟩:=y;subst e1 e4;have hx:=e2 xs A;have hy:=e3 c B;refine hs i v u vs H' t (λy l o=>∃w,o D=some (.lst w)/\w.length<sizeLine/\∃vs:St,vs.length=h/\l=vs++(fr.map λj=>(k[j]?).join)/\Same H (upd o D (.lst (w++[y])))/\upd o D (.lst (w++[y])) D=some (.lst ((List.range (i+1)).map f))) _ hx hy hv p L λs d bk M=> ?_;have N:Same H' (upd H' t (.tup [v,u])):=Same.new L;refine#[_,M D _ (N D _ J),by rw[My,Pw];exact Pg r hn,s,bk,2,((p.trans N).trans M).upd z,6];rw[ah,RQ,Qs];rfl
 .have e:i=n:=QR hi (QM r);subst e;exact .inl #[#[xs,c,A,B, .inl ()],hd D H' z p J]
def aQ(H:Hp)(xs:List V)(M:List (List Int)):Prop:=xs.length=M.length/\∀(i:Nat)(r:List Int),M[i]?=some r->∃a,xs[i]?=some (.ref a)/\H a=some (.lst (r.map V.int))
theorem aQ.same(h:aQ H xs M)(e:Same H H'):aQ H' xs M:=
 #[h.1,λi r d=>by obtain⟨a,b,c⟩:=h.2 i r d;exact#[a,b,e.at c]]
theorem aQ.at(h:aQ H xs M){i:Nat}(d:xs[i]?=some y):∃a r,M[i]?=some r/\y= .ref a/\H a=some (.lst (r.map V.int)):=by
 have c:i<M.length:=by rw[<-h.1];exact(Pn.mp d).1
 obtain⟨a,b,e⟩:=h.2 i (M[i]) (PF c);rw[d]at b;exact#[a,M[i],PF c,Qq b,e]
theorem aQ.of{b:List V}{M:List (List Int)}(hl:b.length=M.length)(h:∀(j:Nat)(r:List Int)(y:V),M[j]?=some r->b[j]?=some y->∃a,y= .ref a/\H a=some (.lst (r.map V.int))):aQ H b M:=by
 refine#[hl,λi r d=> ?_];have c:i<b.length:=by rw[hl];exact(Pn.mp d).1
 obtain⟨a,e,f⟩:=h i r _ d (PF c);exact#[a,by rw[PF c,e],f]
def mZ(H:Hp)(xs:List V)(M:List (List Int)):Prop:=xs.length=M.length/\∀(i:Nat)(r:List Int),M[i]?=some r->∃a,xs[i]?=some (.ref a)/\H a=some (.tup (r.map V.int))
theorem mZ.ts(h:mZ H xs M)(e:lG H H'):mZ H' xs M:=
 #[h.1,λi r d=>by obtain⟨a,b,c⟩:=h.2 i r d;exact#[a,b,e _ _ c]]
theorem mZ.at(h:mZ H xs M){i:Nat}(d:xs[i]?=some y):∃a r,M[i]?=some r/\y= .ref a/\H a=some (.tup (r.map V.int)):=by
 have c:i<M.length:=by rw[<-h.1];exact(Pn.mp d).1
 obtain⟨a,b,e⟩:=h.2 i (M[i]) (PF c);rw[d]at b;exact#[a,M[i],PF c,Qq b,e]
theorem Bl{K:Frag}{xs:List V}{g:TG}{l:TS}{D:Ends}(Pv:Nat->St->Hp->Prop)(s:Pv 0 b H)(hl:∀i b H,i<=xs.length->Pv i b H->SqL K H a xs)(w:∀(i:Nat) x t b H,xs[i]?=some x->H t=none->Pv i b H->g (.ref t) b (upd H t (.tup [.int (i:Nat),x])) λh d=>l {D with nx:=Pv (i+1),ct:=Pv (i+1),bk:=D.nx} h d)(u:∀b H,Pv xs.length b H->D.nx b H):
  ∃W:Nat->Nat->St->Hp->Prop,(∃m,W 0 m b H)/\∀i m b H,W i m b H->
   ((Ite K a).stop i H/\D.nx b H)\/((Ite K a).go i H/\∃N:St->Hp->Prop,(∀f H',N f H'->∃k,k<m/\W (i+1) k f H')/\∀x H',(Ite K a).yld i H x H'->g x b H' λh d=>l {D with nx:=N,ct:=N,bk:=D.nx} h d):=by
 refine#[λi m b H=>m=xs.length-i/\i<=xs.length/\Pv i b H,#[xs.length,#[5],Qu _,s],6];rintro i m b H ⟨rfl,j,p⟩;have q:=hl i b H j p;by_cases c:i<xs.length
 .refine .inr #[#[xs,xs[i],q,by simp[c]],Pv (i+1),λf H' A=>#[xs.length- (i+1),QN c (QL _),2,c,A],λx H' y=> ?_];obtain⟨t,n,z,v,o,r⟩:=y;subst n r;exact w i v t b H (o xs q) z p
 .have e:i=xs.length:=QR j (QM c);subst e;exact .inl #[#[xs,q,Pu _],u b H p]
theorem LS(xs:List V)(i:Nat):so xs none (some (i:Int))=xs.take i:=by
 unfold so;show(xs.drop (HT.sIx _ 0 none)).take (HT.sIx _ _ (some (i:Int)) -HT.sIx _ 0 none)=_;rw[HT.yj,HT.t7,List.drop_zero,Nat.sub_zero];by_cases a:i<=xs.length
 .rw[Tr a]
 .rw[T7 (),QG,RI ()]
theorem Gq(xs:List V)(i:Nat):so xs (some (i:Int)) none=xs.drop i:=by
 unfold so;show(xs.drop (HT.sIx _ 0 (some (i:Int)))).take (HT.sIx _ _ none-HT.sIx _ 0 (some (i:Int)))=_;rw[HT.yj,HT.t7,RI (by rw[RD];lia)];by_cases a:i<=xs.length
 .rw[Tr a]
 .rw[T7 (),List.drop_length,List.drop_of_length_le ()]
theorem uI:∀ {a b:List Int},a.map V.int=b.map V.int->a=b
 | [],[],_=>rfl
 | [],_::_,h=>by simp at h
 |_::_,[],h=>by simp at h
 |x::a,y::b,h=>by
  rw[Qb,Qb]at h;injection h with c d
  rw[V.int.inj c,uI d]
theorem sP{H:Hp}{r s:List Int}(h:H a=some (.lst (r.map V.int)))(g:H a=some (.lst (s.map V.int))):r=s:=by
 rw[h]at g;injection g with g
 injection g with g
 exact uI g
theorem aQ.cut{xs:List V}{M:List (List Int)}(h:aQ H xs M)(i:Nat):aQ H (xs.take i++xs.drop (i+1)) (M.take i++M.drop (i+1)):=by
 have hl:=h.1;refine#[by rw[PK,PK,P6,P6,RD,RD,hl],λj r b=> ?_];by_cases f:j<(M.take i).length
 .rw[P1 f]at b;rw[P6]at f;rw[RC ()]at b;obtain⟨a,c,d⟩:=h.2 j r b;exact#[a,by rw[P1 (by rw[P6,hl];exact f),RC ()];exact c,d]
 .rw[P2 ()]at b;have e:(xs.take i).length=(M.take i).length:=by rw[P6,P6,hl]
  rw[List.getElem?_drop]at b;obtain⟨a,c,d⟩:=h.2 _ r b;exact#[a,by rw[P2 (),List.getElem?_drop,e];exact c,d]
theorem Kp{H:Hp}{r s:List Int}(h:H a=some (.tup (r.map V.int)))(g:H a=some (.tup (s.map V.int))):r=s:=by
 rw[h]at g;injection g with g
 injection g with g
 exact uI g
end L2
namespace L2
open PySem PySem.Spec PySem.W PyProof.Rows
def jQ(i j:Int):Prop:=Builtin.Int.intBits i+Builtin.Int.intBits j<=2^26
theorem jQ.ok(h:jQ i j):IntMulOk i j:=by
 unfold IntMulOk;have h':Builtin.Int.intTooBig ((Builtin.Int.intBits i:Int)+(Builtin.Int.intBits j:Int))=false:=by unfold Builtin.Int.intTooBig;have a:bitsLine=2^27:=rfl;unfold jQ at h;simp only[a,Ui];lia
 simp[h']
theorem sN:OpR X (binaryOp .Mult) (rI jQ λi j=> .int (i*j)):=opI λ_ _ _ _ _ _ _ a q=>mul_int q a.ok
end L2
namespace L2
open PySem PySem.Spec PySem.W PyProof.Rows PySem.SeqAt
theorem Ew{z:Int}(h:z.natAbs<2^k):Builtin.Int.intBits z<=k:=by
 unfold Builtin.Int.intBits;by_cases a:z=0
 .subst a;exact Qu _
 .have e:(z==0)=false:=#[5,a]
  rw[e];show z.natAbs.log2+1<=k;have:z.natAbs.log2<k:=(Nat.log2_lt ()).mpr h;lia
theorem jQ.of{i j:Int}(a:i.natAbs<2^k)(b:j.natAbs<2^m)(h:k+m<=2^26):jQ i j:=by unfold jQ;have:=Ew a;have:=Ew b;lia
theorem zq{i j:Int}(a:i.natAbs<2^k)(b:j.natAbs<2^m):(i*j).natAbs<2^(k+m):=by rw[TJ,Up];exact Nat.mul_lt_mul'' a b
end L2
namespace L2
open PySem PySem.Spec PySem.W PyProof.Rows
end L2
namespace L2
section
variable{t u:TS}{σ:St}{H:Hp}{n:St->Hp->Prop}{r:VK}{b c:St->Hp->Prop}
theorem gm(h:∀N:St->Hp->Prop,(∀a H',u #[n,r,b,c] a H'->N a H')->t #[N,r,b,c] σ H):G5 t u #[n,r,b,c] σ H:=h _ λ_ _ x=>x
theorem E6(Pm:St->Hp->Prop)(d:∀a H',Pm a H'->u #[n,r,b,c] a H')(h:∀N:St->Hp->Prop,(∀a H',Pm a H'->N a H')->t #[N,r,b,c] σ H):G5 t u #[n,r,b,c] σ H:=h _ d
end
theorem Ny{b:Type}{p:List b->Prop}(h:p [])(us:List b)(e:us.length=0):p us:=by
 cases us with
 |nil=>exact h
 |cons a r=>cases e
theorem Jn{b:Type}{p:List b->Prop}(h:∀(a:b)(r:List b),r.length=n->p (a::r))(us:List b)(e:us.length=n+1):p us:=by
 cases us with
 |nil=>cases e
 |cons a r=>exact h a r (Nat.succ.inj e)
theorem Nx{b:Type}{p:List b->Prop}(h:∀a,p [a])(us:List b)(e:us.length=1):p us:=Jn (p:=p) (λa r=>Ny (p:=λr=>p (a::r)) (h a) r) us e
theorem Jp{c:Type}{p:List c->Prop}(h:∀a b,p [a,b])(us:List c)(e:us.length=2):p us:=Jn (p:=p) (λa r=>Nx (p:=λr=>p (a::r)) (h a) r) us e
theorem Jo{d:Type}{p:List d->Prop}(h:∀a b c,p [a,b,c])(us:List d)(e:us.length=3):p us:=Jn (p:=p) (λa r=>Jp (p:=λr=>p (a::r)) (h a) r) us e
theorem Nw{f:Type}{p:List f->Prop}(h:∀a b c d,p [a,b,c,d])(us:List f)(e:us.length=4):p us:=Jn (p:=p) (λa r=>Jo (p:=λr=>p (a::r)) (h a) r) us e
theorem Ou{g:Type}{p:List g->Prop}(h:∀a b c d f,p [a,b,c,d,f])(us:List g)(e:us.length=5):p us:=Jn (p:=p) (λa r=>Nw (p:=λr=>p (a::r)) (h a) r) us e
end L2
namespace L2
open PySem PySem.Spec PyProof.Rows
section
variable{κ:Type}[DecidableEq κ]
def qz(kvs:List (κ×V))(k:κ):Option V:=(kvs.find? λa=>decide (a.1=k)).map (·.2)
def qM(kvs:List (κ×V))(k:κ)(v:V):List (κ×V):=
 if(kvs.any λa=>decide (a.1=k))=true then kvs.map (λa=>if a.1=k then(a.1,v)else a)else kvs++[(k,v)]
theorem ti{k:κ}(e:p.1=k):qz (p::r) k=some p.2:=by simp[qz,R1,e]
theorem tj{k:κ}(e:¬p.1=k):qz (p::r) k=qz r k:=by simp[qz,R1,e]
theorem zL(k:κ):∀kvs:List (κ×V),(kvs.any λa=>decide (a.1=k))=(qz kvs k).isSome
 | []=>rfl
 |p::r=>by
  rw[SA];by_cases e:p.1=k
  .simp only[ti e,Pe e,Bool.true_or,Option.isSome_some]
  .rw[tj e,Pc e,Bool.false_or];exact zL k r
theorem rL(kvs:List (κ×V))(k:κ)(v:V):(qM kvs k v).length<=kvs.length+1:=by
 unfold qM;split
 .rw[My];lia
 .rw[PK,PM,Uo];lia
theorem nY.isSome_eq{o:Option V}{u:Option Value}(r:nY o u):o.isSome=u.isSome:=by
 cases o with
 |none=>cases u with
  |none=>rfl
  |some _=>exact(show False from r).elim
 |some _=>cases u with
  |none=>exact(show False from r).elim
  |some _=>rfl
theorem KV.val(r:KV kvs vs)(k:κ):nY (qz kvs k) (valueAt vs k):=by
 unfold KV at r
 induction r with
 |nil=>exact RK
 | @cons p q ps c h t g=>
  obtain⟨d,f⟩:=h;by_cases e:p.1=k
  .have a:q.1=k:=d.symm.trans e;have b:valueAt (q::c) k=some q.2:=by simp[valueAt,R1,a]
   rw[ti e,b];exact f
  .have a:¬q.1=k:=λz=>e (d.trans z);have b:valueAt (q::c) k=valueAt c k:=by simp[valueAt,R1,a]
   rw[tj e,b];exact g
theorem KV.any{kvs:List (κ×V)}{vs:List (κ×Value)}(r:KV kvs vs)(k:κ):(kvs.any λa=>decide (a.1=k))=vs.any λa=>decide (a.1=k):=by
 unfold KV at r
 induction r with
 |nil=>rfl
 |cons h t b=>rw[SA,SA,b,h.1]
theorem KV.repl{kvs:List (κ×V)}{vs:List (κ×Value)}(r:KV kvs vs)(k:κ)(f:bY y u):
  KV (kvs.map λa=>if a.1=k then(a.1,y)else a) (vs.map λa=>if a.1=k then(a.1,u)else a):=by
 unfold KV at r⊢
 induction r with
 |nil=>exact .nil
 | @cons p q ps g h t d=>
  rw[Qb,Qb];refine .cons ?_ d;obtain⟨b,c⟩:=h;by_cases e:p.1=k
  .rw[Pd e,Pd (b.symm.trans e)];exact#[b,f]
  .rw[Pb e,Pb (λz=>e (b.trans z))];exact#[b,c]
theorem KV.put(r:KV kvs vs)(k:κ)(a:bY y u):KV (qM kvs k y) (stored vs k u):=by
 unfold qM stored;rw[r.any k];by_cases e:(vs.any λb=>decide (b.1=k))=true
 .rw[Pd e,Pd e];exact r.repl k a
 .rw[Pb e,Pb e];exact Paired.snoc r #[2,a]
theorem KV.length{kvs:List (κ×V)}{vs:List (κ×Value)}(r:KV kvs vs):kvs.length=vs.length:=S6 r
end
theorem JA(r:bY (kV k) u):(eu P w).is k u=true:=by
 cases k with
 |inl i=>obtain⟨t,e⟩:=(show∃t,u=Value.int i t from r);subst e;exact A7 P w i t
 |inr x=>obtain⟨t,e⟩:=(show∃t,u=Value.str x t from r);subst e;exact A6 P w x t
theorem wA:∀ {a:List Key} {us:List Value},Vals (a.map kV) us->ItemsAre (eu P w) a us
 | [],_,r=>by rw[Su]at r;cases r;exact .nil
 |k::a,_,r=>by
  rw[Qb]at r;cases r with
  |cons h t=>exact .cons (JA h) (wA t)
abbrev KT(H:Hp):List (List Key×V)->List (List Key×Addr×Value)->Prop:=Paired λp q=>p.1=q.1/\H q.2.1=some (.tup (p.1.map kV))/\bY p.2 q.2.2
theorem KT.val(r:KT H kvs xs)(k:List Key):nY (qz kvs k) ((atKey xs k).map (·.2)):=by
 induction r with
 |nil=>exact RK
 | @cons p q ps c h t g=>
  obtain⟨d,_,f⟩:=h;by_cases e:p.1=k
  .have a:q.1=k:=d.symm.trans e;have b:atKey (q::c) k=some q.2:=by simp[atKey,R1,a]
   rw[ti e,b];exact f
  .have a:¬q.1=k:=λz=>e (d.trans z);have b:atKey (q::c) k=atKey c k:=by simp[atKey,R1,a]
   rw[tj e,b];exact g
theorem KT.repl{kvs:List (List Key×V)}{xs:List (List Key×Addr×Value)}(r:KT H kvs xs)(k:List Key)(g:bY y u):
  KT H (kvs.map λb=>if b.1=k then(b.1,y)else b) (xs.map (putAt k u)):=by
 induction r with
 |nil=>exact .nil
 | @cons p q ps i h t f=>
  rw[Qb,Qb];refine .cons ?_ f;obtain⟨a,c,d⟩:=h;unfold putAt;by_cases e:p.1=k
  .rw[Pd e,Pd (a.symm.trans e)];exact#[a,c,g]
  .rw[Pb e,Pb (λz=>e (a.trans z))];exact#[a,c,d]
theorem KT.put(r:KT H kvs xs)(k:List Key)(c:H b=some (.tup (k.map kV)))(a:bY y u):
  KT H (qM kvs k y) (storedH xs k b u):=by
 have e:(kvs.any λd=>decide (d.1=k))=(atKey xs k).isSome:=by rw[zL,(r.val k).isSome_eq,Option.isSome_map]
 unfold qM storedH;rw[e];by_cases q:(atKey xs k).isSome=true
 .rw[Pd q,Pd q];exact r.repl k a
 .rw[Pb q,Pb q];exact Paired.snoc r #[2,c,a]
theorem KT.keeps(r:KT H kvs xs)(c:∀b a,H b=some (.tup a)->H' b=some (.tup a)):KT H' kvs xs:=
 Paired.mapP r λ_ _ z=>#[z.1,c _ _ z.2.1,z.2.2]
section
variable{P:Program}{w:World}{H:Hp}{h:Heap}{a:Addr}
theorem Mg(ok:HOk P w H h)(e:Rd H a u):cF P w H h a u:=e.ok ok
theorem JT{kvs:List (Key×V)}(ok:HOk P w H h)(e:Rd H a (.dK kvs)):kvs.length<=sizeLine/\(a==sysModules)=false/\∃vs,KV kvs vs/\h.DictOf (eu P w) a vs:=
 show cF P w H h a (.dK kvs)from Mg ok e
theorem Mu{kvs:List (Key×V)}(ok:HOk P w H h)(e:H a=some (.dK kvs)):kvs.length<=sizeLine/\(a==sysModules)=false/\∃vs,KV kvs vs/\h.DictOf (eu P w) a vs:=JT ok (.inl e)
theorem CW{b:List Key}(ok:HOk P w H h)(e:H a=some (.tup (b.map kV))):(tupleKind (eu P w)).is h b a:=by obtain⟨_,g,r,o,c,d,n,f⟩:=(show cF P w H h a (.tup (b.map kV))from ok a _ e);exact#[o,g.toArray,n,c,d,f,#[5,wA r]]
theorem JS{kvs:List (List Key×V)}(ok:HOk P w H h)(e:Rd H a (.dT kvs)):kvs.length<=sizeLine/\(a==sysModules)=false/\
  ∃xs,KT H kvs xs/\h.DictOfH (tupleKind (eu P w)) a xs:=by
 obtain⟨z,y,xs,r,o,d,ep,f,g,i,j,k⟩:=(show cF P w H h a (.dT kvs)from Mg ok e);refine#[z,y,xs,r,o,d,ep,f,g,i,j,λx b=> ?_,k];have all:∀ {l:List (List Key×V)} {m:List (List Key×Addr×Value)},KT H l m->∀x∈m,(tupleKind (eu P w)).is h x.1 x.2.1:=by
  intro l m q
  induction q with
  |nil=>intro x b;exact nomatch b
  | @cons p q ps s c t n=>
   intro x b;rcases Pk.mp b with e|b
   .subst e;exact CW ok (by rw[<-c.1];exact c.2.1)
   .exact n x b
 exact all r x b
theorem OC{kvs:List (List Key×V)}(ok:HOk P w H h)(e:H a=some (.dT kvs)):kvs.length<=sizeLine/\(a==sysModules)=false/\
  ∃xs,KT H kvs xs/\h.DictOfH (tupleKind (eu P w)) a xs:=JS ok (.inl e)
end
def Dy(H:Hp)(a:Addr)(y:V)(r:Option V):Prop:=
 (∃kvs k,Rd H a (.dK kvs)/\y=kV k/\r=qz kvs k)\/∃kvs k b,Rd H a (.dT kvs)/\y= .ref b/\H b=some (.tup (k.map kV))/\r=qz kvs k
def GL(H:Hp)(a:Addr)(y v:V)(H':Hp):Prop:=
 (∃kvs k,H a=some (.dK kvs)/\y=kV k/\kvs.length<sizeLine/\H'=upd H a (.dK (qM kvs k v)))\/
 ∃kvs k b,H a=some (.dT kvs)/\y= .ref b/\H b=some (.tup (k.map kV))/\kvs.length<sizeLine/\H'=upd H a (.dT (qM kvs k v))
theorem Dy.k{k:Key}(e:H a=some (.dK kvs)):Dy H a (kV k) (qz kvs k):= .inl #[kvs,k, .inl e,22]
theorem GL.k{kvs:List (Key×V)}{k:Key}(e:H a=some (.dK kvs))(hl:kvs.length<sizeLine):GL H a (kV k) v (upd H a (.dK (qM kvs k v))):= .inl #[kvs,k,e,2,hl,2]
section
variable{X:Cx}{pins:List (Addr×Obj)}{σ:St}{H:Hp}{s:Shared}{a:Addr}{y v:V}{u r:Value}{o:Option V}{A:Around}{E:Value->Shared->Prop}
theorem Inv.big(I:Inv X pins σ H s):sysModules<s.heap.objs.size:=by have h:mainGlobals<s.heap.objs.size:=(I.mod.glob.keeps I.bk).lt;exact Nat.lt_trans ∅ h
theorem Gp(G:A.units+1<cLine)(I:Inv X pins σ H s)(g:Dy H a y (some v))(m:bY y u)(h:∀c n,Inv X pins σ H n->bY v c->Q c n):
  wpAny (model X.prog X.w) A (getItem (.ref a) u) Q E s:=by
 rcases g with ⟨kvs,k,e,d,l⟩|⟨kvs,k,b,e,d,q,l⟩
 .subst d;obtain⟨z,t,vs,i,dd⟩:=JT I.hok e;obtain⟨c,f,j⟩:=nY.some_of (v:=v) (o:=valueAt vs k) (by rw[l];exact i.val k);exact wpAny_getItem_of (JA m) dd.mapOf f (h c _ (I.tok _) j)
 .subst d;cases (show u=Value.ref b from m);obtain⟨z,t,xs,i,dd⟩:=JS I.hok e;obtain⟨c,f,j⟩:=nY.some_of (v:=v) (o:=(atKey xs k).map (·.2)) (by rw[l];exact i.val k);obtain⟨p,x,B⟩:=S4.mp f;refine wpAny_getItem_heap (tupleKind_room_in1 G) (CW I.hok q) dd x ?_;rw[B];exact h c _ (I.tok _) j
theorem Eu{h':Heap}(I:Inv X pins σ H s)(g:Mut (H a))(f:Heap.SameBut a s.heap h')(d:∃q,h'.get? a=some q)(new:cF X.prog X.w (upd H a ob) h' a ob):
  Inv X pins σ (upd H a ob) {s with heap:=h',toks:=t'}:=
 I.write (x:=a) (e:=a) g (.inl rfl) (λb q c z=>(f.2 b c).trans z) d new
theorem NM{h':Heap}{kvs:List (Key×V)}(z:kvs.length<=sizeLine)(b:(a==sysModules)=false)(c:KV kvs vs)(dd:h'.DictOf (eu P w) a vs):
  cF P w H' h' a (.dK kvs):=#[z,b,vs,c,dd]
theorem Gn(hu:A.units+1<cLine)(I:Inv X pins σ H s)(g:GL H a y v H')(J:bY y u)(G:bY v r)(h:∀K,Inv X pins σ H' K->Q Unit.unit K):
  wpAny (model X.prog X.w) A (setItem (.ref a) u r) Q E s:=by
 rcases g with ⟨kvs,k,e,m,l,j⟩|⟨kvs,k,b,e,m,x,l,j⟩
 .subst m j;obtain⟨z,n,vs,d,dd⟩:=Mu I.hok e;have t:vs.length<=sizeLine:=by rw[<-d.length];exact z
  have hl:(qM kvs k v).length<=sizeLine:=by have:=rL kvs k v;lia
  refine wpAny_setItem_pairs (hsz:=t) (JA J) dd λh' f p=>h _ ?_;have he:∃q,h'.get? a=some q:=let⟨q,_,_,i,_⟩:=f;#[q,i];exact Eu I (by rw[e];exact RK) p he (NM hl n (d.put k G) f)
 .subst m j;cases (show u=Value.ref b from J);obtain⟨z,n,xs,d,dd⟩:=OC I.hok e;have t:xs.length<=sizeLine:=by rw[<-S6 d];exact z
  have hl:(qM kvs k v).length<=sizeLine:=by have:=rL kvs k v;lia
  refine wpAny_setItem_heap (hsz:=t) (tupleKind_room_in1 hu) (CW I.hok x) dd λh' f p=>h _ ?_;obtain⟨q,L,ep,i,M,N,O,_,U⟩:=f;refine Eu I (by rw[e];exact RK) p #[q,i] #[hl,n,_,(d.put k x G).keeps λc ys B=> ?_,q,L,ep,i,M,N,O,U];rw[aA (jK B e (λz=>nomatch z))];exact B
end
def OJ(i:Expr):Prop:=∀ov a,subscripted i false ov a=operate [ov,a] (getItem ov a)
theorem KG{T id:String}{Q:Value->Shared->Prop}(hl:typeLookup (.type T) "__getitem__"=pure (some (.builtin id)))(g:OJ slice)(h:wpAny (model prog w) A (eval value env) (λo e=>wpAny (model prog w) A (eval slice env) (λi a=>a.TypeIs o T/\wpAny (model prog w) A (getItem o i) Q E a) E e) E s):
  wpAny (model prog w) A (eval (.Subscript value slice pos) env) Q E s:=by
 refine Subscript_ (Tn h (λo e j=>Tn j (λi a c=> ?_) λ_ _ x=>x) λ_ _ x=>x);obtain⟨d,c⟩:=c;unfold subscriptTail;refine Qi ?_;rw[getitemInPython_of_ne d.not_modules];refine Qi (wpAny_specialOf d hl ?_);have b:wpAny (model prog w) A (subscripted slice false o i) (λr f=>wpAny (model prog w) A (letTemporaryGo value o r>>=λ_=>pure r) Q E f) E a:=by rw[g o i];exact wpAny_operating (Tn c (λr f k=>Qi (wpAny_letTemporaryGo (QX k))) λ_ _ x=>x)
 first
  |exact QX (Qi b)
  |exact Qi (QX (Qi b))
  |exact Qi b
theorem Bo{c:St}{s:Shared}(I:Inv X pins c H s)(g:Dy H a y o):s.TypeIs (.ref a) VH:=by
 rcases g with ⟨kvs,k,e,_,_⟩|⟨kvs,k,b,e,_,_,_⟩
 .obtain⟨_,_,vs,_,dd⟩:=JT I.hok e;exact dd.typeIs
 .obtain⟨_,_,xs,_,dd⟩:=JS I.hok e;exact dd.typeIs
def N6(e ty:TE):TE:=λc H Q=>e c H λx d=>ty c d λy b=>∃a v,x= .ref a/\Dy b a y (some v)/\Q v b
def Ob(g ty tv:TE):TS:=λD b H=>tv b H λv d=>g b d λx e=>ty b e λy f=>∃a c,x= .ref a/\GL f a y v c/\D.nx b c
section
variable{X:Cx}{o i e value:Expr}{pos pos' tpos:Pos}{td ty tv:TE}
theorem Eb(r:X.A.units+1<cLine)(n:PE X o td)(m:PE X i ty)(q:OJ i):PE X (.Subscript o i pos) (N6 td ty):=by intro c s d H Q I h;refine KG PySem.F.slot_dict_getitem.lookup q (thn (n c s d H _ I h) λu J ⟨x,f,k,B,t⟩=>thn (m c J d f _ k t) λK L p=> ?_);obtain⟨y,j,b,G,a,v,ex,g,w⟩:=p;subst ex;obtain rfl:u=Value.ref a:=B;exact#[Bo b g,Gp r b g G λN M l z=>#[v,j,l,z,w]]
theorem D1(z:X.A.units+1<cLine)(q:PE X o td)(p:PE X i ty)(B:PE X value tv)(w:swapsWith value (some (.Subscript o i pos')) pos.line X.env=pure false):
  PS X (.Assign [.Subscript o i pos'] value pos) (Ob td ty tv):=by
 intro c s b H D I h;refine wpAny_Assign_Subscript (thn (B c s b H _ I h) λr O ⟨v,d,k,L,G⟩=>thn (q c O b d _ k G) λu Q ⟨x,f,l,M,J⟩=>thn (p c Q b f _ l J) λiv s3 t=> ?_) w;obtain⟨y,U,m,N,a,j,ex,g,K⟩:=t;subst ex;obtain rfl:u=Value.ref a:=M;exact Gn z m g N L λs4 n=>#[b,j,n,K]
end
theorem JU(h:Heap)(a:sysModules<h.objs.size):cF P w H (h.push {cls:= .type VH,data:= .dict #v[]}) h.objs.size (.dK []):=
 #[Qu _,Sd.mpr (Q7 (Qz a)),[], .nil,Heap.DictOf.new h]
def MJ:TE:=λ_ H Q=>∀p,H p=none->Q (.ref p) (upd H p (.dK []))
section
variable{X:Cx}{pos:Pos}
theorem Iu:PE X (.Dict [] [] pos) MJ:=λb s c H Q I h=>
 wpAny_Dict_empty #[.ref s.heap.objs.size,_,I.laid (a:=s.heap.objs.size) (o:= .dK []) (t':=s.toks) (λ_ _ q=>Qe _ q) (Pu _) (JU s.heap I.big),2,h _ (I.hok.fresh (Pu _))]
end
end L2
namespace L2
open PySem PySem.Spec PyProof.Rows PySem.W
theorem wx:∀ {c:List e} {d:List f},Paired F c d->∀ {i:Nat} {a:e},c[i]?=some a->∃b,d[i]?=some b/\F a b
 |_,_, .nil,i,a,h=>by simp at h
 |_,_, .cons r t,0,a,h=>by simp only[List.getElem?_cons_zero,Option.some.injEq]at h;subst h;exact#[7,r]
 |_,_, .cons r t,i+1,a,h=>by simp only[SU]at h⊢;exact wx t h
def nU(ps:List (Int×V)):List (Key×V):=ps.map λp=>(Sum.inl p.1,p.2)
def K0:List V->Hp->VK->Prop:=λxs H Q=>∃(d:Addr) (ps:List (Int×V)),xs=[.ref d]/\H d=some (.dK (nU ps))/\∀l,H l=none->Q (.ref l) (upd H l (.lst ((ps.map (·.1)).map V.int)))
theorem Bz{X:Cx}(G:X.calm=true):gg X (.type Vt) K0:=by
 intro a0 s σ H xs us Q I rv h;obtain⟨d,ps,rfl,J,q⟩:=h;obtain⟨u,rfl,U⟩:=rp rv;cases U;obtain⟨z,K,vs,v,dd⟩:=Mu I.hok J;obtain⟨ep,B⟩:=dd.dictAt;have ay:(nU ps).length=vs.length:=S6 v;have az:(nU ps).length=ps.length:=by unfold nU;rw[My]
 refine kdl_call (kdl_dict (knd:=eu X.prog X.w) (kvs:=vs) (ep:=ep) K) (I.ok.hd G) B () λh' tk b c L A o=> ?_;have N:Vals ((ps.map (·.1)).map V.int) b.toList:=by
  have y:∀(l:List Int)(us:List Value),l.length=us.length->(∀(i:Nat)(z:Int)(u:Value),l[i]?=some z->us[i]?=some u->∃t,u= .int z t)->Vals (l.map V.int) us:=λl=>by
   induction l with
   |nil=>intro us hl _;have:us=[]:=Sr hl.symm;subst this;exact .nil
   |cons z l O=>
    intro us hl r;cases us with
    |nil=>cases hl
    |cons u us=>
     obtain⟨t,e⟩:=r 0 z u rfl rfl;exact .cons #[t,e] (O us (Nat.succ.inj hl) λi z' u' a g=>r (i+1) z' u' #[5,a] #[5,g])
  refine y _ _ (by have a:b.toList.length=b.size:=Se;rw[My,a,o.1];lia) λi z u a g=> ?_;obtain⟨k,x,g1,g2⟩:=o.2 i u (by rw[<-Sv];exact g);rw[PB]at a;cases m:ps[i]? with
  |none=>rw[m]at a;cases a
  |some p=>
   rw[m]at a;cases a;have M:(nU ps)[i]?=some (Sum.inl p.1,p.2):=by unfold nU;rw[PB,m];rfl
   obtain⟨aD,g3,g4⟩:=wx v M;rw[g1]at g3;cases g3;have g5:uF k u=true:=g2;have g6:(Sum.inl p.1:Key)=k:=g4.1;rw[<-g6]at g5;rcases cU g5 with ⟨j,t,f,n⟩|⟨j,t,f,n⟩
   .cases f;exact#[t,n]
   .cases f
 refine#[.ref s.heap.objs.size,_,I.laid (t':=tk) L (Pu _) (show cF X.prog X.w _ _ _ (.lst _)from#[6,b.toList,c,N,6]),2,q _ (I.hok.fresh (Pu _))]
 .rw[My,My];lia
 .rw[Tt];exact A
theorem MA(ps:List (Int×V))(z:Int):qz (nU ps) (Sum.inl z)=(ps.find? λp=>decide (p.1=z)).map (·.2):=by
 unfold qz nU;rw[List.find?_map];have:(λa:Key×V=>decide (a.1=Sum.inl z))∘(λp:Int×V=>((Sum.inl p.1:Key),p.2))=λp=>decide (p.1=z):=by funext p;show decide ((Sum.inl p.1:Key)=Sum.inl z)=_;rw[CY];by_cases e:p.1=z<;>simp[e]
 rw[this];cases ps.find? λp=>decide (p.1=z)<;>rfl
def K3(ps:List (Int×V))(z:Int)(v:V):List (Int×V):=if(ps.any λp=>decide (p.1=z))=true then ps.map (λp=>if p.1=z then(p.1,v)else p)else ps++[(z,v)]
theorem MX(ps:List (Int×V))(z:Int)(v:V):qM (nU ps) (Sum.inl z) v=nU (K3 ps z v):=by
 unfold qM K3;have a:((nU ps).any λb=>decide (b.1=Sum.inl z))=ps.any λp=>decide (p.1=z):=by unfold nU;rw[List.any_map];congr 1;funext p;show decide ((Sum.inl p.1:Key)=Sum.inl z)=_;rw[CY];by_cases e:p.1=z<;>simp[e]
 rw[a];split
 .unfold nU;rw[P8,P8];refine Qt λp _=> ?_;show(if(Sum.inl p.1:Key)=Sum.inl z then((Sum.inl p.1:Key),v)else(Sum.inl p.1,p.2))=((Sum.inl (if p.1=z then(p.1,v)else p).1:Key),(if p.1=z then(p.1,v)else p).2);by_cases e:p.1=z
  .rw[Pd e,Pd (by rw[e])]
  .rw[Pb e,Pb λq=>e (Sum.inl.inj q)]
 .unfold nU;rw[Qs];rfl
theorem Bd{K:Frag}{xs:List V}{fr:List Nat}{p:St}{Q:VK}(f:Nat->V->Hp->Prop)(ax:∀i y H H',Same H H'->f i y H->f i y H')(ha:SqL K H a xs)(hn:xs.length<=sizeLine)(hs:∀(i:Nat)(x:V)(vs:St)(D:Addr)(H':Hp)(R:V->St->Hp->Prop)(S:St->Hp->Prop),xs[i]?=some x->vs.length=o->Same H H'->(∃l,H' D=some (.lst l))->
   (∀y v d,f i y (hide d D)->v.length=o->Same H' d->R y (v++fr.map λj=>(p[j]?).join) d)->
    g x (vs++fr.map λj=>(p[j]?).join) H' λr O=>tc r O λb J=>if b=true then te r J λy k=>R y r k else S r J)(hd:∀D H' (c:List V),H D=none->Same H H'->H' D=some (.lst c)->c.length=xs.length->(∀(j:Nat)(y:V),c[j]?=some y->f j y (hide H' D))->Q (.ref D) H'):LCW (Itl K a) g tc te o fr p H Q:=by
 intro D w;refine#[λi m M H'=>m=xs.length-i/\i<=xs.length/\∃(vs:St)(c:List V),vs.length=o/\M=vs++(fr.map λj=>(p[j]?).join)/\Same H H'/\H' D=some (.lst c)/\c.length=i/\(∀(j:Nat)(y:V),c[j]?=some y->f j y (hide H' D)),#[xs.length,#[5],Qu _,List.replicate o none,[],#[5],2,Same.new w,ah,2,#[5]],6];rintro i m M H' ⟨rfl,hi,vs,c,hv,rfl,u,A,hl,L⟩;have B:SqL K H' a xs:=u.seq ha;by_cases s:i<xs.length
 .refine .inr #[#[xs,xs[i],B,by simp[s]],λN d=>∃(vs:St)(c:List V),vs.length=o/\N=vs++(fr.map λj=>(p[j]?).join)/\Same H d/\d D=some (.lst c)/\c.length=i+1/\(∀(j:Nat)(y:V),c[j]?=some y->f j y (hide d D)),λN d q=>#[xs.length- (i+1),QN s (QL _),2,s,q],λx H2 y=> ?_];obtain⟨U,e2⟩:=y;subst U;have hx:=e2 xs B;refine hs i x vs D _ (λy r k=>∃t,k D=some (.lst t)/\t.length<sizeLine/\∃(vs:St)(c:List V),vs.length=o/\r=vs++(fr.map λj=>(p[j]?).join)/\Same H (upd k D (.lst (t++[y])))/\upd k D (.lst (t++[y])) D=some (.lst c)/\c.length=i+1/\(∀(j:Nat)(z:V),c[j]?=some z->f j z (hide (upd k D (.lst (t++[y]))) D))) _ hx hv u #[_,A] (λy v d pz bk G=> ?_);have ar:=G D _ A;refine#[_,ar,by rw[hl];exact Pg s hn,v,c++[y],bk,2,(u.trans G).upd w,ah,by rw[PK,hl];rfl,λj z h=> ?_];rw[kN];by_cases hj:j<c.length
  .rw[P1 hj]at h;exact ax _ _ _ _ (ju G) (L j z h)
  .rw[P2 ()]at h;have a3:j-c.length=0:=by
    cases e:j-c.length with
    |zero=>rfl
    |succ n=>rw[e]at h;simp at h
   rw[a3]at h;cases h;have ej:j=i:=()
   subst ej;exact pz
 .have e:i=xs.length:=QR hi (QM s);subst e;exact .inl #[#[xs,B,Pu _],hd D H' c w u A hl L]
end L2
namespace L2
open PySem PySem.Spec PySem.W PyProof.Rows PySem.SeqAt
def CFd(_ j:Int):Prop:=j≠0/\j.natAbs.log2<9000
theorem IE:OpR X (binaryOp .FloorDiv) (rI CFd λi j=> .int (i.fdiv j)):=opI λ_ _ _ _ _ _ _ a q=>floordiv_int a.1 q (.inl (PyProof.noPylong_of_log2 a.2))
end L2
namespace L2
open PySem PySem.Spec PyProof.Rows
theorem aS{N P:List Str}{h:Scope}(a:h.kind= .function:=by rfl)(b:h.isCoroutine=false:=by rfl)(c:h.isGenerator=false:=by rfl)(d:N.Nodup:=by decide+kernel)(e:N.take P.length=P:=by rfl)(f:∀x∈P,h.names.lookup x=some .local\/h.names.lookup x=some .cell:=by decide+kernel)(g:∀y∈h.names,y.2≠ .free:=by decide+kernel):aE N P h:=#[a,b,c,d,e,f,g]
section
variable{X:Cx}{x:Str}{ps:List Str}{j k:Nat}{sp:Sp}{e a b tg:Expr}{es:List Expr}{t:TA}{p pos:Pos}{ta tb te:TE}
theorem wcal(C:Cal X.prog X.w X.K X.mg X.base j x ps sp)(l:Room k X.A)(c:PA X (e::es) t)(h:j<=k:=by first|decide|lia)(g:Gl X x:=by rfl)(d:(x==(Vo:Str))=false:=by decide)(f:starEach (e::es) X.env=(false,eval e X.env)::starEach es X.env:=by rfl)(i:(backTo pos (starEach es X.env)).any (·.1)=false:=by rfl):PE X (.Call (.Name x p) (e::es) [] pos) (G9 sp [] E0 t):=Ng C l h g c d f i
theorem wset(i:Nat){pos':Pos}(c:X.N.Nodup)(d:PE X e te)(g:X.N[i]?=some x:=by rfl)(l:Loc X.env.scope x:=by first|exact Tq rfl|exact Or.inr rfl)(h:swapsWith e (some (.Name x pos')) pos.line X.env=pure false:=by rfl)(f:X.fn x=true\/X.env.scope.names.lookup x=some .local:=by first|exact .inl rfl|exact .inr rfl|assumption):PS X (.Assign [.Name x pos'] e pos) (Hc te (bC i)):=Il c g l d h f
theorem wname(i:Nat)(c:X.N.Nodup)(f:X.N[i]?=some x:=by rfl)(g:Loc X.env.scope x:=by first|exact Tq rfl|exact Or.inr rfl)(d:X.fn x=true\/X.env.scope.names.lookup x=some .local:=by first|exact .inl rfl|exact .inr rfl|assumption):PG X (.Name x pos) (bC i):=D9 c f g d
theorem cG(K:Frag)(c:PE X a ta)(d:PE X b tb)(h:X.K=K:=by rfl)(f:zz b:=by intro _ _;rfl):PE X (.Subscript a b pos) (tOp (Ii K) ta tb):=Ea (uG h) c d f
theorem ky(K:Frag)(c:PE X a ta)(d:PE X b tb)(h:X.K=K:=by rfl)(f:zz b:=by intro _ _;rfl):PE X (.Subscript a b pos) (tOp (MW K) ta tb):=Ea (LD h) c d f
theorem wlen(K:Frag)(g:X.mg "len"=none)(d:PE X e te)(h:X.K=K:=by rfl)(f:Gl X "len":=by rfl)(c:starEach [e] X.env=(false,eval e X.env)::starEach [] X.env:=by rfl)(i:(backTo pos (starEach [] X.env)).any (·.1)=false:=by rfl):PE X (.Call (.Name "len" p) [e] [] pos) (tCB (Mi K) (G7 te KA)):=
 eO (vV h) f g PySem.boot_len (aa d af c) ∅ ∅ c i
theorem wrng(g:X.mg Vn=none)(c:PE X a ta)(f:Gl X Vn:=by rfl)(h:starEach [a] X.env=[(false,eval a X.env)]:=by rfl)(d:starEach [a] X.env=(false,eval a X.env)::starEach [] X.env:=by rfl):PI X tg (.Call (.Name Vn p) [a] [] pos) (Mr (G7 ta KA)):=Ft f g (aa c af d) h
theorem wil(K:Frag)(hl:PE X e te)(h:X.K=K:=by rfl):PI X tg e (JB K te):=Iq h hl
theorem wit(K:Frag)(hl:PE X e te)(h:X.K=K:=by rfl):PI X tg e (ND K te):=K7 h hl
theorem wfor{c:List Stmt}{d:TI}{g:TG}{tb:TS}(l:PI X tg e d)(i:PG X tg g)(f:PSs X c tb)(m:PassesOwn (model X.prog X.w) X.A X.env X.xe:=by exact PassesOwn.never)(h:X.calm=true:=by rfl)(n:∀x,foldedSetIterable e X.env x=pure x:=by intro _;rfl):PS X (.For tg e c [] pos) (N4 d g tb):=MY m h l i f n
theorem wpt{c:CmpOp}{r:R2}(h:OpR X (compareOp c) r)(d:PE X a ta)(f:PE X b tb)(g:behindInMarks c b=false:=by exact nomark _):PT X (.Compare a [c] [b] pos) (Mb (tOp r ta tb)):=pR h d f g
theorem wpe{c:CmpOp}{r:R2}(h:OpR X (compareOp c) r)(d:PE X a ta)(f:PE X b tb)(g:behindInMarks c b=false:=by exact nomark _):PE X (.Compare a [c] [b] pos) (tOp r ta tb):=Le h d f g
theorem wfld(K:Frag){f:Str}(d:PE X e ta)(h:X.K=K:=by rfl)(c:attributeBase e f X.env (eval e X.env)=eval e X.env:=by rfl):PE X (.Attribute e f pos) (MI K ta f):=Ld h d c
theorem wsf(K:Frag){f:Str}{pos':Pos}(c:PE X a ta)(g:PE X b tb)(h:X.K=K:=by rfl)(d:swapsWith b (some (.Attribute a f pos')) pos.line X.env=pure false:=by rfl):PS X (.Assign [.Attribute a f pos'] b pos) (MQ K ta tb f):=K4 h c g d
end
section
variable{X:Cx}{elt target iter:Expr}{ifs:List Expr}{sc:Scope}{pos:Pos}{wi:TI}{g:TG}{tc:TT}{te:TE}
theorem wnC(i:Nat){x:Str}{N a:List Str}{e:Shared}{b:Hp}{c:List Addr}{d:List (Addr×Obj)}(f:(N++a).Nodup:=by decide+kernel)(j:(N++a)[i]?=some x:=by rfl)(k:Loc (cz X (N++a) sc e b c d).env.scope x:=by first|exact Tq rfl|exact Or.inr rfl)(h:(cz X (N++a) sc e b c d).fn x=true\/(cz X (N++a) sc e b c d).env.scope.names.lookup x=some .local:=by first|exact .inl rfl|exact .inr rfl|assumption):PG (cz X (N++a) sc e b c d) (.Name x pos) (bC i):=D9 f j k h
theorem wlc(f c:List Str)(fr:List Nat)(m:PI X target iter wi)(l:∀ {e a b d},PG (cz X (f++c) sc e a b d) target g)(r:∀ {e a b d},PTs (cz X (f++c) sc e a b d) ifs tc)(i:∀ {e a b d},PE (cz X (f++c) sc e a b d) elt te)(h:X.calm=true:=by rfl)(j:sc.names.all (λy=> !(y.2== .free)||(X.env.kindOf y.1==some .cell||X.env.kindOf y.1==some .free))=true:=by rfl)(p:sc.names.all (λy=> !(y.2== .cell)|| !(c.contains y.1))=true:=by rfl)(n:sc.kind= .function:=by rfl)(o:sc.names.all (λy=> !(y.2== .local)||(sc.names.lookup y.1==some .local))=true:=by rfl)(k:sr X sc fr c:=by repeat (first|exact RK|refine⟨⟨⋯,Tq ⋯,Tq ⋯⟩,?_⟩))(q:∀x,foldedSetIterable iter X.env x=pure x:=by intro _;rfl):PE X (.ListComp elt [#[target,iter,ifs,0]] sc pos) (tLC wi g tc te f.length fr):=Nd h j p n o k m (λ_ _ _ _=>l) (λ_ _ _ _=>r) (λ_ _ _ _=>i) q
theorem wls(i:Nat){x:Str}{h j:Pos}(k:X.N.Nodup)(f c:List Str)(fr:List Nat)(q:PI X target iter wi)(p:∀ {e a b d},PG (cz X (f++c) sc e a b d) target g)(z:∀ {e a b d},PTs (cz X (f++c) sc e a b d) ifs tc)(m:∀ {e a b d},PE (cz X (f++c) sc e a b d) elt te)(r:X.N[i]?=some x:=by rfl)(A:X.env.kindOf x=some .local:=by rfl)(l:X.calm=true:=by rfl)(n:sc.names.all (λy=> !(y.2== .free)||(X.env.kindOf y.1==some .cell||X.env.kindOf y.1==some .free))=true:=by rfl)(u:sc.names.all (λy=> !(y.2== .cell)|| !(c.contains y.1))=true:=by rfl)(s:sc.kind= .function:=by rfl)(t:sc.names.all (λy=> !(y.2== .local)||(sc.names.lookup y.1==some .local))=true:=by rfl)(o:sr X sc fr c:=by repeat (first|exact RK|refine⟨⟨⋯,Tq ⋯,Tq ⋯⟩,?_⟩))(w:swapsWith (.ListComp elt [#[target,iter,ifs,0]] sc pos) (some (.Name x h)) j.line X.env=pure true:=by rfl)(v:∀x,foldedSetIterable iter X.env x=pure x:=by intro _;rfl):PS X (.Assign [.Name x h] (.ListComp elt [#[target,iter,ifs,0]] sc pos) j) (Hc (tLC wi g tc te f.length fr) (bC i)):=Fl k r A l n u s t o q (λ_ _ _ _=>p) (λ_ _ _ _=>z) (λ_ _ _ _=>m) w v
end
end L2
namespace L2
open PySem PyProof PyProof.Rows
section
variable{X:Cx}{tg:Expr}
def NX(b:TA):TE:=λc H Q=>b c H λvs a=>∃i j:Int,vs=[.int i, .int j]/\∀p,a p=none->Q (.ref p) (upd a p (.rng i j))
theorem Lb{a b:Expr}{g:TA}{p pos:Pos}(l:Gl X Vn)(m:X.mg Vn=none)(k:PA X [a,b] g)(n:starEach [a,b] X.env=[(false,eval a X.env),(false,eval b X.env)]:=by rfl)(f:starEach [b] X.env=[(false,eval b X.env)]:=by rfl):
  PE X (.Call (.Name Vn p) [a,b] [] pos) (NX g):=by
 intro u s A H Q I h;refine Call_ (kq I l m boot_range (Q4 (thn (k pos u s A H _ I h) λus z ⟨vs,B,d,y,v⟩=> ?_) (by rw[n,f]) (by rw[f];rfl)));obtain⟨i,j,e,q⟩:=v;subst e;cases y with
 |cons r c=>
  cases c with
  |cons x c=>
   cases c;obtain⟨t,rfl⟩:=r;obtain⟨t',rfl⟩:=x;refine call_range_2 ?_;exact#[.ref z.heap.objs.size,_,d.laid (λb o e=>Qe _ e) (Pu _) (show cF X.prog X.w _ _ _ (.rng i j)from#[111,QK _ rfl]),2,q _ (d.hok.fresh (Pu _))]
end
def KY:List V->Hp->VK->Prop:=λxs H Q=>∃(p:Addr)(n:Nat),xs=[.ref p]/\H p=some (.rng 1 ((n+1:Nat):Int))/\n<=1000/\∀l,H l=none->Q (.ref l) (upd H l (.lst (((List.range' 1 n).map λi:Nat=>(i:Int)).map V.int)))
theorem By{X:Cx}(g:X.calm=true):gg X (.type Vt) KY:=by
 intro A s B H vs us Q I y h;obtain⟨p,n,rfl,l,k,q⟩:=h;obtain⟨u,rfl,x⟩:=rp y;cases x;obtain⟨t,u,v,e⟩:=I.hok p _ l;have m:IsRange s.heap p 1 ((n+1:Nat):Int) 1 t u v:=e;refine call_list_range (n:=n) (I.ok.hd g) m (small_one ∅ ∅ () ()) (by rw[rangeSize_one];split<;>lia) () λh' z a c j f b=> ?_;have o:Vals (((List.range' 1 n).map λi:Nat=>(i:Int)).map V.int) a.toList:=by refine ot a.toList n 1 (by rw[Se];exact b.1) λi w r=> ?_;obtain⟨t',d⟩:=b.2 i w (by rw[<-r,Sv]);exact#[t',by rw[d];congr 1;lia]
 refine#[.ref s.heap.objs.size,_,I.laid (t':=z) j (Pu _) (show cF X.prog X.w _ _ _ (.lst _)from#[6,a.toList,c,o,6]),2,q _ (I.hok.fresh (Pu _))]
 .rw[My,My,List.length_range'];exact Pr k ∅
 .rw[Tt];exact f
end L2
namespace Bh
def bits(n:Nat):List Int:=((List.range 8).filter n.testBit).map λ(k:Nat)=>(k:Int)
theorem cQ{n:Nat}:z∈bits n↔∃k:Nat,k<8/\n.testBit k=true/\z=k:=by
 unfold bits;simp only[Pl,PV,Pf];constructor
 .rintro⟨k,⟨a,b⟩,rfl⟩;exact#[k,a,b,2]
 .rintro⟨k,a,b,rfl⟩;exact#[k,#[a,b],2]
theorem qd{n k:Nat}(h:k<8):(k:Int)∈bits n↔n.testBit k=true:=by
 rw[cQ];constructor
 .rintro⟨j,_,a,e⟩;have:k=j:=()
  rw[this];exact a
 .intro a;exact#[k,h,a,2]
theorem k6(h:z∈bits n):0<=z/\z<8:=by obtain⟨k,a,_,rfl⟩:=cQ.mp h;lia
theorem aW(n:Nat):(bits n).length<=8:=by unfold bits;rw[My];exact Pr (QU _ _) #[5]
theorem Om(b:n<256)(a:m<256):n|||m<256:=QB (n:=8) b a
theorem Kd(a:n<256):n&&&m<256:=Px Tu a
def yd(ns:List Int):Nat:=ns.foldl (λs t=>s|||2^t.toNat) 0
theorem sA:∀(ns:List Int)(s k:Nat),(∀z∈ns,0<=z)->((ns.foldl (λs (t:Int)=>s|||2^t.toNat) s).testBit k=true↔s.testBit k=true\/(k:Int)∈ns)
 | [],s,k,_=>by simp
 |z::r,s,k,h=>by
  rw[Rm,sA r _ k (λy a=>h y (Po _ a)),PN,P0,Py,Pk,decide_eq_true_eq];have b:=h z Pt;have:z.toNat=k↔(k:Int)=z:=()
  rw[this,or_assoc]
theorem uV{n m:Nat}(e:n<256)(d:m<256)(h:∀k,k<8->(n.testBit k=true↔m.testBit k=true)):n=m:=by
 refine PC λk=> ?_;by_cases c:k<8
 .have:=h k c;cases a:n.testBit k with
  |true=>exact(this.mp a).symm
  |false=>
   cases b:m.testBit k with
   |true=>exact absurd (this.mpr b) (by rw[a];simp)
   |false=>rfl
 .have f:2^8<=2^k:=PJ () ();rw[Qk (),Qk ()]
theorem DU:∀(ns:List Int)(s:Nat),s<256->(∀z∈ns,0<=z/\z<8)->ns.foldl (λs (t:Int)=>s|||2^t.toNat) s<256
 | [],s,a,_=>a
 |z::r,s,a,h=>by rw[Rm];refine DU r _ (Om a ?_) λy b=>h y (Po _ b);have c:=h z Pt;exact Pg (RR () (show z.toNat<8 by lia)) ()
theorem KJ(c:n<256)(a:∀z∈ns,0<=z/\z<8)(h:∀z,z∈ns↔z∈bits n):yd ns=n:=by refine uV (DU ns 0 () a) c λk b=> ?_;unfold yd;rw[sA ns 0 k (λz d=>(a z d).1),h,qd b,P4];simp
theorem iU{n k:Nat}:n.testBit k=decide (n/2^k % 2=1):=Ta
theorem J6:∀n:Nat,n<256->(List.range (if n=0 then 0 else n.log2+1)).filter n.testBit=(List.range 8).filter n.testBit:=#[9]
theorem ve(n:Nat):(bits n).Nodup:=by unfold bits;refine List.Pairwise.map _ (λa b h=> ?_) (List.Pairwise.filter _ PZ);intro e;exact h ()
def idxs(p:Nat->Int->Bool):Nat->List Int->List Int
 |_,[]=>[]
 |i,z::r=>if p i z=true then(i:Int)::idxs p (i+1) r else idxs p (i+1) r
def picks(p:Nat->Int->Bool):Nat->List Int->List Int
 |_,[]=>[]
 |i,z::r=>if p i z=true then z::picks p (i+1) r else picks p (i+1) r
theorem mF{p:Nat->Int->Bool}:∀ {e:List Int} {i:Nat} {y:Int},y∈idxs p i e↔∃(j:Nat)(z:Int),e[j]?=some z/\p (i+j) z=true/\y=(i+j:Nat)
 | [],i,y=>by simp[idxs]
 |x::r,i,y=>by
  have f:= @mF p r (i+1) y;have key:(∃(j:Nat)(z:Int),(x::r)[j]?=some z/\p (i+j) z=true/\y=(i+j:Nat))↔(p i x=true/\y=(i:Nat))\/∃(j:Nat)(z:Int),r[j]?=some z/\p (i+1+j) z=true/\y=(i+1+j:Nat):=by
   constructor
   .rintro⟨j,z,a,b,c⟩;cases j with
    |zero=>
     have:x=z:=#[5,a]
     subst this;exact .inl #[b,c]
    |succ j=>exact .inr #[j,z,#[5,a],by rw[show i+1+j=i+(j+1) by lia];exact b,by rw[c];lia]
   .rintro(⟨a,b⟩|⟨j,z,a,b,c⟩)
    .exact#[0,x,2,a,b]
    .exact#[j+1,z,#[5,a],by rw[show i+(j+1)=i+1+j by lia];exact b,by rw[c];lia]
  rw[key,idxs];split
  .rename_i d;rw[Pk,f];constructor
   .rintro(h|h)
    .exact .inl #[d,h]
    .exact .inr h
   .rintro(⟨_,h⟩|h)
    .exact .inl h
    .exact .inr h
  .rename_i d;rw[f];constructor
   .intro h;exact .inr h
   .rintro(⟨h,_⟩|h)
    .exact absurd h d
    .exact h
theorem nH{p:Nat->Int->Bool}:∀ {d:List Int} {i:Nat} {y:Int},y∈picks p i d↔∃(j:Nat),d[j]?=some y/\p (i+j) y=true
 | [],i,y=>by simp[picks]
 |x::r,i,y=>by
  have e:= @nH p r (i+1) y;have key:(∃(j:Nat),(x::r)[j]?=some y/\p (i+j) y=true)↔(p i x=true/\y=x)\/∃(j:Nat),r[j]?=some y/\p (i+1+j) y=true:=by
   constructor
   .rintro⟨j,a,b⟩;cases j with
    |zero=>
     have:x=y:=#[5,a]
     subst this;exact .inl #[b,2]
    |succ j=>exact .inr #[j,#[5,a],by rw[show i+1+j=i+(j+1) by lia];exact b]
   .rintro(⟨a,b⟩|⟨j,a,b⟩)
    .subst b;exact#[0,2,a]
    .exact#[j+1,#[5,a],by rw[show i+(j+1)=i+1+j by lia];exact b]
  rw[key,picks];split
  .rename_i c;rw[Pk,e];constructor
   .rintro(h|h)
    .exact .inl #[c,h]
    .exact .inr h
   .rintro(⟨_,h⟩|h)
    .exact .inl h
    .exact .inr h
  .rename_i c;rw[e];constructor
   .intro h;exact .inr h
   .rintro(⟨h,_⟩|h)
    .exact absurd h c
    .exact h
theorem qO:∀(a:List Int)(i:Nat),(picks p i a).Sublist a
 | [],_=>List.Sublist.slnil
 |x::r,i=>by
  rw[picks];split
  .exact(qO r (i+1)).cons_cons x
  .exact(qO r (i+1)).cons x
theorem oN{a:List Int}(hl:a.length<=8):∀z∈idxs p 0 a,0<=z/\z<8:=λz c=>by obtain⟨j,y,b,_,e⟩:=mF.mp c;have:=(Pn.mp b).1;lia
def ig(s h:Nat):Nat:=yd (idxs (λ_ z=>s.testBit z.toNat) 0 (bits h))
def aT(s h:Nat):Nat:=yd (picks (λi _=>s.testBit i) 0 (bits h))
theorem jV:∀z∈picks p 0 (bits h),0<=z/\z<8:=λz a=>k6 ((qO _ _).mem a)
theorem lV(h:∀z∈ns,0<=z)(k:Nat):(yd ns).testBit k=true↔(k:Int)∈ns:=by unfold yd;rw[sA ns 0 k h,P4];simp
theorem BC{h i j:Nat}(c:(bits h)[i]?=some z)(d:(bits h)[j]?=some z):i=j:=by obtain⟨e,a⟩:=Pn.mp c;obtain⟨f,b⟩:=Pn.mp d;exact(T4 (ve h)).mp (a.trans b.symm)
theorem yr(o:s<2^(bits h).length):ig (aT s h) h=s:=by
 have m:(bits h).length<=8:=aW h;have p:s<256:=Pg o (PJ () m);refine KJ p (oN m) λz=> ?_;rw[mF,cQ];constructor
 .rintro⟨j,y,c,a,rfl⟩;have q:=k6 (Pq c);have r:=(Pn.mp c).1;have e:(aT s h).testBit y.toNat=true:=a;unfold aT at e;rw[lV (λz f=>(jV z f).1),nH]at e;obtain⟨i,l,n⟩:=e;have d:((y.toNat:Nat):Int)=y:=()
  rw[d]at l;have:=BC c l;subst this;exact#[0+j,9,n,2]
 .rintro⟨k,c,a,rfl⟩;have b:k<(bits h).length:=by
   by_cases b:k<(bits h).length
   .exact b
   .have t:2^(bits h).length<=2^k:=PJ () ();rw[Qk ()]at a;cases a
  have g:(bits h)[k]?=some ((bits h)[k]'b):=#[5]
  have q:=k6 (Pq g);refine#[k,_,g,6,#[5]];show(aT s h).testBit _=true;unfold aT;rw[lV (λz f=>(jV z f).1),nH];have d:((((bits h)[k]'b).toNat:Nat):Int)=(bits h)[k]'b:=()
  rw[d];exact#[k,g,#[5,a]]
theorem Fo{s h j:Nat}{z:Int}(a:(bits h)[j]?=some z):(ig s h).testBit j=s.testBit z.toNat:=by
 have g:(ig s h).testBit j=true↔s.testBit z.toNat=true:=by
  unfold ig;rw[lV (λz a=>(oN (aW h) z a).1),mF];constructor
  .rintro⟨i,y,b,c,e⟩;have:i=j:=()
   subst this;rw[a]at b;cases b;exact c
  .intro q;exact#[j,z,a,q,#[5]]
 cases d:(ig s h).testBit j<;>cases f:s.testBit z.toNat<;>simp_all
theorem Bi{b:List Int}{q:Int->Bool}:∀(i:Nat),idxs (λ_ z=>q z) i b=((List.range b.length).filter λj=>q (b.getD j 0)).map λ(j:Nat)=>((i+j:Nat):Int):=by
 induction b with
 |nil=>intro i;rfl
 |cons x r d=>
  intro i;rw[idxs,d (i+1),PM,List.range_succ_eq_map,QQ];have e:List.map (λ(j:Nat)=>((i+j:Nat):Int)) (List.filter (λj=>q ((x::r).getD j 0)) (List.map Nat.succ (List.range r.length)))=List.map (λ(j:Nat)=>((i+1+j:Nat):Int)) (List.filter (λj=>q (r.getD j 0)) (List.range r.length)):=by
   rw[R3,P8];have c:((λj=>q ((x::r).getD j 0))∘Nat.succ)=λj=>q (r.getD j 0):=by funext j;simp
   rw[c];refine Qt λj _=> ?_;show((i+(j+1):Nat):Int)=_;rw[show i+(j+1)=i+1+j by lia]
  by_cases a:q x=true
  .rw[Pd a,Pd #[5,a],Qb,e];rfl
  .rw[Pb a,Pb #[5,a],e]
def jT(f:List Int)(t:Int):List Int:=f++f.map λp=>((p.toNat|||2^t.toNat:Nat):Int)
def ki(n:Nat):List Int:=(bits n).foldl jT [0]
def fH(n:Nat)(k:Int):List Int:=(ki n).filter λp=>decide ((((bits p.toNat).length:Nat):Int)=k)
def Jj(n:Nat)(made:List (Int×Int))(k:Nat):List (Int×Int):=if n.testBit k=true then made++made.map λq=>(q.1+2^k,q.2+1)else made
def yJ(n i:Nat):List (Int×Int):=(List.range i).foldl (Jj n) [(0,0)]
def oS(n:Nat):Bool:=decide ((yJ n 8).map Prod.fst=ki n)&&(yJ n 8).all (λq=>decide (0<=q.1/\q.1<256/\q.2=(((bits q.1.toNat).length:Nat):Int)))
theorem mY:∀n:Nat,n<256->oS n=true:=#[9]
theorem AM(h:n<256):(yJ n 8).map Prod.fst=ki n:=by have:=mY n h;unfold oS at this;rw[PX]at this;exact PH this.1
theorem uz(h:n<256):∀q∈yJ n 8,0<=q.1/\q.1<256/\q.2=(((bits q.1.toNat).length:Nat):Int):=λq a=>by have:=mY n h;unfold oS at this;rw[PX]at this;exact PH (P9.mp this.2 q a)
theorem AL(h:n<256):∀p∈ki n,0<=p/\p<256:=λp a=>by rw[<-AM h]at a;obtain⟨q,b,rfl⟩:=Pl.mp a;exact#[(uz h q b).1,(uz h q b).2.1]
theorem EZ(f:List Int)(t:Int):(jT f t).length=2*f.length:=by unfold jT;rw[PK,My];lia
theorem qW:∀(ts:List Int)(f:List Int),(ts.foldl jT f).length=2^ts.length*f.length
 | [],f=>by simp
 |t::r,f=>by rw[Rm,qW r,EZ,PM,Tv,Uu]
theorem Fv(n:Nat):(ki n).length<=256:=by unfold ki;rw[qW];have:=aW n;have a:2^(bits n).length<=2^8:=PJ () this;simp;lia
theorem Hl(h:∀p∈f,0<=p):∀p∈jT f t,0<=p:=λp a=>by
 rcases Pz.mp a with q|q
 .exact h p q
 .obtain⟨x,_,rfl⟩:=Pl.mp q;lia
theorem Bm:∀(ts:List Int)(f:List Int),(∀p∈f,0<=p)->∀p∈ts.foldl jT f,0<=p
 | [],_,h=>h
 |t::r,f,h=>by rw[Rm];exact Bm r _ (Hl h)
theorem E1:∀n:Nat,n<256->(bits n).length=n % 2+(bits (n/2)).length:=#[9]
theorem qN(h:n<=8):2^n<=256:=PJ (n:=2) () h
abbrev sz(n:Nat):Nat:=(bits n).length
theorem jx(n:Nat):sz n=((List.range 8).filter n.testBit).length:=by show(bits n).length=_;unfold bits;rw[My]
theorem qX:∀(l:List Nat),(∀x∈l,p x=true->q x=true)->(l.filter p).length<=(l.filter q).length
 | [],_=>Pu _
 |x::l,h=>by
  have d:=qX l λy e=>h y (Po _ e);have c:=h x Pt;cases b:p x<;>cases a:q x
  .simp only[QQ,b,a];exact d
  .simp only[QQ,b,a,Pd,PM];exact Nat.le_succ_of_le d
  .rw[b]at c;rw[c rfl]at a;cases a
  .simp only[QQ,b,a,Pd,PM];lia
theorem qY:∀(l:List Nat),(∀x∈l,p x=true->q x=true)->(l.filter p).length=(l.filter q).length->∀x∈l,p x=q x
 | [],_,_=>λx d=>by cases d
 |x::l,h,e=>λy c=>by
  have h':∀z∈l,p z=true->q z=true:=λz f=>h z (Po _ f);have le:=qX l h';have d:=h x Pt;cases b:p x<;>cases a:q x
  .simp only[QQ,b,a]at e;rcases Pk.mp c with rfl|c
   .rw[b,a]
   .exact qY l h' e y c
  .simp only[QQ,b,a,Pd,PM]at e;have g:(l.filter p).length=(l.filter q).length+1:=e;lia
  .rw[b]at d;rw[d rfl]at a;cases a
  .simp only[QQ,b,a,Pd,PM]at e;rcases Pk.mp c with rfl|c
   .rw[b,a]
   .exact qY l h' () y c
theorem sv{a b:Nat}(h:∀k,k<8->a.testBit k=true->b.testBit k=true):sz a<=sz b:=by rw[jx,jx];exact qX _ λk c=>h k (Pf.mp c)
theorem wb{a b:Nat}(d:a<256)(f:b<256)(h:∀k,k<8->a.testBit k=true->b.testBit k=true)(e:sz a=sz b):a=b:=by rw[jx,jx]at e;refine uV d f λk c=> ?_;rw[qY _ (λk c=>h k (Pf.mp c)) e k (Pf.mpr c)]
def kK(ms:List Int)(s:Nat):Nat:=ms.foldl (λr m=>max r (sz (s&&&m.toNat))) 0
theorem yq:∀(ms:List Int)(s r:Nat),r<=ms.foldl (λr (m:Int)=>max r (sz (s&&&m.toNat))) r/\(∀m∈ms,sz (s&&&m.toNat)<=ms.foldl (λr (m:Int)=>max r (sz (s&&&m.toNat))) r)/\
  (ms.foldl (λr (m:Int)=>max r (sz (s&&&m.toNat))) r=r\/∃m∈ms,sz (s&&&m.toNat)=ms.foldl (λr (m:Int)=>max r (sz (s&&&m.toNat))) r)
 | [],s,r=>#[Pu _,λm hm=>(by cases hm), .inl rfl]
 |x::ms,s,r=>by
  obtain⟨b,c,a⟩:=yq ms s (max r (sz (s&&&x.toNat)));rw[Rm];refine#[Pr (Nat.le_max_left _ _) b,λm hm=> ?_,6]
  .rcases Pk.mp hm with rfl|hm
   .exact Pr (Nat.le_max_right _ _) b
   .exact c m hm
  .rcases a with a|⟨m,hm,e⟩
   .rw[a];rcases Nat.le_total r (sz (s&&&x.toNat))with h|h
    .rw[Nat.max_eq_right h];exact .inr #[x,Pt,2]
    .rw[Nat.max_eq_left h];exact .inl rfl
   .exact .inr #[m,Po _ hm,e]
theorem DY{m:Int}(h:m∈ms):sz (s&&&m.toNat)<=kK ms s:=(yq ms s 0).2.1 m h
theorem KW(h:ms≠[]):∃m∈ms,sz (s&&&m.toNat)=kK ms s:=by
 rcases(yq ms s 0).2.2 with e|e
 .cases ms with
  |nil=>exact absurd rfl h
  |cons m r=>
   have:=DY (s:=s) (m:=m) (ms:=m::r) Pt;have a:kK (m::r) s=0:=e;exact#[m,Pt,9]
 .exact e
theorem KU(h:ms≠[])(a:∀m∈ms,sz (s&&&m.toNat)<=b):kK ms s<=b:=by obtain⟨m,c,e⟩:=KW (s:=s) h;rw[<-e];exact a m c
theorem rA(d:∃m∈ms,sz (s&&&m.toNat)=r)(f:∀m∈ms,sz (s&&&m.toNat)<=r):kK ms s=r:=by obtain⟨m,c,e⟩:=d;have a:=DY (s:=s) c;have b:=KU (s:=s) (ms:=ms) (by rintro rfl;cases c) f;lia
theorem c6{s k j:Nat}(a:s.testBit k=true):(s^^^2^k).testBit j=(s.testBit j&& !decide (k=j)):=by
 rw[Qx,Py];by_cases e:k=j
 .subst e;simp[a]
 .simp[e]
theorem jr:∀s:Nat,s<256->∀k:Nat,k<8->s.testBit k=true->s^^^2^k<s:=#[9]
theorem qP:∀n:Nat,n<9->ki (2^n-1)=(List.range (2^n)).map λk:Nat=>(k:Int):=#[9]
theorem bw{s n k:Nat}(b:s<2^n)(a:s.testBit k=true):k<n:=by refine RM λh=> ?_;rw[Qk (Pg b (PJ () h))]at a;cases a
def Far(r:Int)(ps:List Int):Prop:=∀a∈ps,∀b∈ps,a≠b->(sz (a.toNat&&&b.toNat):Int)<=r-2
theorem LL(r:Int):Far r []:=λa b=>by cases b
theorem JI{z:Int}(h:Far r ps)(e:∀a∈ps,¬((sz (a.toNat&&&z.toNat):Int)>r-2)):Far r (ps++[z]):=by
 intro a i b j ne;rcases Pz.mp i with c|c<;>rcases Pz.mp j with d|d
 .exact h a c b d ne
 .have:b=z:=#[5,d]
  subst this;have:=e a c;lia
 .have:a=z:=#[5,c]
  subst this;have:=e b d;rw[Nat.and_comm];lia
 .have f:a=z:=#[5,c]
  have g:b=z:=#[5,d]
  exact absurd (f.trans g.symm) ne
theorem GQ:∀r:Nat,0<r->r<8->sz (2^r-1)=r/\sz (2^r-1-2^(r-1)+2^r)=r/\sz ((2^r-1)&&& (2^r-1-2^(r-1)+2^r))+1=r/\2^r-1≠2^r-1-2^(r-1)+2^r/\2^r-1-2^(r-1)+2^r<2^(r+1):=by
 intro r b a
 match r,b,a with
 |1,_,_=>decide+kernel
 |2,_,_=>decide+kernel
 |3,_,_=>decide+kernel
 |4,_,_=>decide+kernel
 |5,_,_=>decide+kernel
 |6,_,_=>decide+kernel
 |7,_,_=>decide+kernel
 |r+8,_,a=>lia
theorem Ce:∀r:Nat,r<9->sz (2^r-1)=r:=#[9]
theorem Kv{n r:Nat}(p:n<=8)(i:r<=n)(h:ps=[]\/(0<r/\r<n/\Far r ps)):∃s,s<2^n/\sz s=r/\(s:Int)∉ps:=by
 have b:2^r-1<2^n:=by have m:2^r<=2^n:=PJ () i;have o:0<2^r:=Q9 ();lia
 rcases h with rfl|⟨j,q,g⟩
 .exact#[2^r-1,b,Ce r (),#[5]]
 .obtain⟨c,d,k,l,e⟩:=GQ r j ();by_cases a:((2^r-1:Nat):Int)∈ps
  .refine#[2^r-1-2^(r-1)+2^r,Pg e (PJ () ()),d,λf=> ?_];have:=g _ a _ f ();rw[Pj,Pj]at this;lia
  .exact#[2^r-1,b,c,a]
def tm(r:Nat)(ps:List Int)(s:Nat):Bool:=decide (sz s=r)&&decide ((s:Int)∉ps)
def gI(n r:Nat)(ps:List Int):List Int:=((List.range (2^n)).filter (tm r ps)).map λs:Nat=>(s:Int)
theorem FT:z∈gI n r ps↔∃s:Nat,s<2^n/\sz s=r/\(s:Int)∉ps/\z=s:=by
 unfold gI;rw[Pl];constructor
 .rintro⟨s,b,rfl⟩;rw[PV,Pf]at b;have a:=b.2;unfold tm at a;rw[PX,PD,PD]at a;exact#[s,b.1,a.1,a.2,2]
 .rintro⟨s,c,a,d,rfl⟩;refine#[s,PV.mpr #[Pf.mpr c,6],2];unfold tm;rw[Pe a,Pe d];rfl
theorem AQ:∀x:Nat,x<256->∀k:Nat,k<8->(x|||2^k) - (x&&&2^k)=x^^^2^k/\(x&&&2^k)<=(x|||2^k):=#[9]
theorem rP:∀(n x y:Nat),x<=n->(x&&&y)+(x^^^ (x&&&y))=x:=by
 intro n
 induction n with
 |zero=>
  intro x y h;have:x=0:=()
  subst this;simp
 |succ n j=>
  intro x y h;by_cases g:x=0
  .subst g;simp
  have i:=j (x/2) (y/2) ();rw[<-Nat.and_div_two,<-Nat.xor_div_two]at i;have d:(x&&&y) % 2=1↔x % 2=1/\y % 2=1:=Nat.and_mod_two_eq_one;have e:(x^^^ (x&&&y)) % 2=1↔¬((x % 2=1)↔((x&&&y) % 2=1)):=Nat.xor_mod_two_eq_one;by_cases c:x % 2=1<;>by_cases f:y % 2=1
  .have a:=d.mpr #[c,f];have b:¬(x^^^ (x&&&y)) % 2=1:=λz=>(e.mp z) #[λ_=>a,λ_=>c];lia
  .have a:¬(x&&&y) % 2=1:=λz=>f (d.mp z).2;have b:=e.mpr λz=>a (z.mp c);lia
  .have a:¬(x&&&y) % 2=1:=λz=>c (d.mp z).1;have b:¬(x^^^ (x&&&y)) % 2=1:=λz=>(e.mp z) #[λq=>absurd q c,λq=>absurd q a];lia
  .have a:¬(x&&&y) % 2=1:=λz=>c (d.mp z).1;have b:¬(x^^^ (x&&&y)) % 2=1:=λz=>(e.mp z) #[λq=>absurd q c,λq=>absurd q a];lia
def aw(s t:Nat):Nat:=s^^^ (s&&&t)
theorem Lx(s t:Nat):(s||| (s&&&t)) - (s&&& (s&&&t))=aw s t:=by
 have h:=rP s s t (Pu _);have a:s||| (s&&&t)=s:=PC λj=>by rw[PN,QE];cases s.testBit j<;>simp
 have b:s&&& (s&&&t)=s&&&t:=PC λj=>by rw[QE,QE];cases s.testBit j<;>simp
 rw[a,b];unfold aw;lia
theorem aI(s t j:Nat):(aw s t).testBit j=(s.testBit j&& !t.testBit j):=by unfold aw;rw[Qx,QE];cases s.testBit j<;>cases t.testBit j<;>rfl
theorem iQ(s t:Nat):aw s t<=s:=by have:=rP s s t (Pu _);unfold aw;lia
theorem gh:∀s:Nat,s<256->∀k:Nat,k<8->s.testBit k=true->sz (s^^^2^k)+1=sz s:=#[9]
theorem IC(s k j:Nat):(s|||2^k).testBit j=(s.testBit j||decide (k=j)):=by rw[PN,Py]
theorem Hg:∀s:Nat,s<256->∀k:Nat,k<8->sz (s|||2^k)<=sz s+1:=#[9]
def qm(s t y:Nat):Nat:=aw s (2^t)|||2^y
def mrg(ms:List Int)(x y:Nat):List Int:=ms.map λm=>if m=ms.getD x 0 then ms.getD y 0 else m
theorem kZ(ms:List Int)(x y:Nat):(mrg ms x y).length=ms.length:=My ..
theorem nG{ms:List Int}(a:z<ms.length):(mrg ms x y).getD z 0=if ms.getD z 0=ms.getD x 0 then ms.getD y 0 else ms.getD z 0:=by
 have e:ms.getD z 0=ms[z]:=by simp[a]
 have b:(mrg ms x y).getD z 0=(mrg ms x y)[z]'(by rw[kZ];exact a):=by simp[kZ,a]
 rw[b,e];unfold mrg;rw[T9]
structure Mks(p:Nat)(ts:List (Nat×Nat))(S:Nat->Prop)(ms:List Int):Prop where
 len:ms.length=p
 eq:∀k t,ts[k]?=some t->S k->ms.getD t.1 0=ms.getD t.2 0
 cl:∀P:Nat->Prop,(∀k t,ts[k]?=some t->S k->(P t.1↔P t.2))->∀x y,x<p->y<p->ms.getD x 0=ms.getD y 0->(P x↔P y)
def start(p:Nat):List Int:=(List.range p).map λi:Nat=>(i:Int)
theorem Mks.start(p:Nat)(ts:List (Nat×Nat)):Mks p ts (λ_=>False) (start p):=by
 refine#[by simp[Bh.start],λ_ _ _ h=>h.elim,λP _ x y b c e=> ?_];have ex:(Bh.start p).getD x 0=(x:Int):=by simp[Bh.start,b]
 have a:(Bh.start p).getD y 0=(y:Int):=by simp[Bh.start,c]
 rw[ex,a]at e;have:x=y:=()
 rw[this]
theorem Mks.step(h:Mks p ts S ms)(q:∀t∈ts,t.1<p/\t.2<p)(m:ts[k]?=some t):
  Mks p ts (λj=>S j\/j=k) (mrg ms t.1 t.2):=by
 have b:=q t (Pq m);refine#[by rw[kZ];exact h.len,λj u d g=> ?_,λP o x y i l e=> ?_]
 .have n:=q u (Pq d);rw[nG (by rw[h.len];exact n.1),nG (by rw[h.len];exact n.2)];rcases g with g|rfl
  .rw[h.eq j u d g]
  .rw[m]at d;cases d;rw[Pd rfl];split<;>rfl
 .have c:=h.cl P λj u d g=>o j u d (.inl g);have r:=o k t m (.inr rfl);rw[nG (by rw[h.len];exact i),nG (by rw[h.len];exact l)]at e;by_cases f:ms.getD x 0=ms.getD t.1 0
  .by_cases a:ms.getD y 0=ms.getD t.1 0
   .exact c x y i l (f.trans a.symm)
   .rw[Pd f,Pb a]at e;exact(c x t.1 i b.1 f).trans (r.trans (c t.2 y b.2 l e))
  .by_cases a:ms.getD y 0=ms.getD t.1 0
   .rw[Pb f,Pd a]at e;exact(c x t.2 i b.2 e).trans (r.symm.trans (c t.1 y b.1 l a.symm))
   .rw[Pb f,Pb a]at e;exact c x y i l e
theorem Mks.congr(h:Mks p ts S ms)(e:∀j t,ts[j]?=some t->(S j↔S' j)):Mks p ts S' ms:=
 #[h.len,λk t a b=>h.eq k t a ((e k t a).mpr b),λP c x y d f=>h.cl P (λk t a b=>c k t a ((e k t a).mp b)) x y d f]
def A4(p:Nat)(ts:List (Nat×Nat))(l:List Int):List Int:=l.foldl (λms k=>mrg ms (ts.getD k.toNat (0,0)).1 (ts.getD k.toNat (0,0)).2) (start p)
theorem FP(p:Nat)(ts:List (Nat×Nat))(l:List Int)(k:Int):A4 p ts (l++[k])=mrg (A4 p ts l) (ts.getD k.toNat (0,0)).1 (ts.getD k.toNat (0,0)).2:=by unfold A4;rw[RA];rfl
theorem rK(p:Nat)(ts:List (Nat×Nat)):∀l:List Int,(A4 p ts l).length=p:=by
 intro l;unfold A4;have:∀(l:List Int)(ms:List Int),ms.length=p->(l.foldl (λms k=>mrg ms (ts.getD k.toNat (0,0)).1 (ts.getD k.toNat (0,0)).2) ms).length=p:=by
  intro l
  induction l with
  |nil=>intro ms h;exact h
  |cons k r a=>intro ms h;rw[Rm];exact a _ (by rw[kZ];exact h)
 exact this l _ (by simp[start])
def Ja(p:Nat)(ts:List (Nat×Nat))(s:Nat):List Int:=A4 p ts (bits s)
theorem k7(c:s<2^n){k:Int}(h:k∈bits s):0<=k/\k.toNat<n:=by obtain⟨j,d,a,rfl⟩:=cQ.mp h;refine#[QT _,6];rw[Pj];refine RM λb=> ?_;have:s.testBit j=false:=Qk (Pg c (PJ () b));rw[this]at a;cases a
def oQ(val:Nat->Int):Nat->Nat
 |0=>0
 |i+1=>if(List.range i).any (λj=>val j==val i)=true then oQ val i else oQ val i+1
theorem J2(h:∃j,j<i/\val j=val i):oQ val (i+1)=oQ val i:=by obtain⟨j,a,e⟩:=h;show(if _ then _ else _)=_;rw[Pd];rw[RV];exact#[j,Pf.mpr a,by rw[e];simp]
theorem Bw(h:¬∃j,j<i/\val j=val i):oQ val (i+1)=oQ val i+1:=by show(if _ then _ else _)=_;rw[Pb];rw[RV];rintro⟨j,a,e⟩;exact h #[j,Pf.mp a,#[5,e]]
def pcs(p:Nat)(ts:List (Nat×Nat))(s:Nat):Nat:=oQ (λi=>(Ja p ts s).getD i 0) p
theorem JZ(i l:Nat):min i l+(l- (i+1))<=l:=()
def mn(l st:Nat):Nat:=if l^^^st<l then l^^^st else l
theorem uA{x y i:Nat}(a:x.testBit i=false)(b:y.testBit i=true)(h:∀j,i<j->x.testBit j=y.testBit j):x<y:=by
 have e:x/2^(i+1)=y/2^(i+1):=PC λj=>by rw[RT,RT];exact h _ ()
 rw[Ta]at a b;have f:=TM a;have g:=PH b;rw[Tv,<-Nat.div_div_eq_div_mul,<-Nat.div_div_eq_div_mul]at e;refine RM λd=> ?_;have:=Nat.div_le_div_right (c:=2^i) d;lia
theorem uB{st:Nat}(h:0<st):st.testBit st.log2=true:=Nat.testBit_log2 ()
theorem w4{st j:Nat}(h:st.log2<j):st.testBit j=false:=
 Qk (Pg (Nat.lt_log2_self (n:=st)) (PJ () h))
theorem Eh{l st:Nat}(h:0<st):mn l st=if l.testBit st.log2=true then l^^^st else l:=by
 unfold mn;cases a:l.testBit st.log2 with
 |true=>
  rw[Pd rfl,Pd];refine uA (i:=st.log2) ?_ a λj b=> ?_
  .rw[Qx,a,uB h];rfl
  .rw[Qx,w4 b,SR]
 |false=>
  rw[Pb PQ,Pb];refine Nat.not_lt_of_le (Tj (uA (i:=st.log2) a ?_ λj b=> ?_))
  .rw[Qx,a,uB h];rfl
  .rw[Qx,w4 b,SR]
theorem Mx(u v w:Nat):(u^^^w)^^^ (v^^^w)=u^^^v:=by rw[R9 v w,Qp,<-Qp w w v,Ru,SI]
theorem Nq(h:0<st):mn (u^^^v) st=mn u st^^^mn v st:=by
 rw[Eh h,Eh h,Eh h,Qx];cases u.testBit st.log2<;>cases v.testBit st.log2
 .rfl
 .show(u^^^v)^^^st=u^^^ (v^^^st);rw[Qp]
 .show(u^^^v)^^^st=(u^^^st)^^^v;rw[Qp,R9 v st,<-Qp]
 .show u^^^v=(u^^^st)^^^ (v^^^st);rw[Mx]
theorem Eg(st:Nat):mn 0 st=0:=by unfold mn;rw[Pb ()]
theorem Lv(h:0<w):mn w w=0:=by rw[Eh h,uB h,Pd rfl,Ru]
def red(ss:List Nat)(v:Nat):Nat:=ss.foldl mn v
theorem Ih(ss:List Nat)(w v:Nat):red (ss++[w]) v=mn (red ss v) w:=by unfold red;rw[RA];rfl
theorem Ig(ss:List Nat):red ss 0=0:=by
 induction ss with
 |nil=>rfl
 |cons s r a=>show red r (mn 0 s)=0;rw[Eg];exact a
theorem DX(h:∀s∈ss,0<s)(u v:Nat):red ss (u^^^v)=red ss u^^^red ss v:=by
 induction ss generalizing u v with
 |nil=>rfl
 |cons s r b=>
  show red r (mn (u^^^v) s)=red r (mn u s)^^^red r (mn v s);rw[Nq (h s Pt),b λz a=>h z (Po _ a)]
inductive cv(vs:List Nat):Nat->Prop
 |zero:cv vs 0
 |add {x v:Nat}:cv vs x->v∈vs->cv vs (x^^^v)
theorem cv.of_mem(h:v∈vs):cv vs v:=by
 have:=cv.add cv.zero h
 rwa [SI]at this
theorem cv.xor(b:cv vs x)(c:cv vs y):cv vs (x^^^y):=by
 induction c with
 |zero=>rw[Sa];exact b
 |add _ a d=>rw[<-Qp];exact d.add a
theorem cv.sub(h:∀v∈vs,cv ws v)(b:cv vs x):cv ws x:=by
 induction b with
 |zero=>exact .zero
 |add _ a c=>exact c.xor (h _ a)
theorem cv.snoc:cv (vs++[w]) x↔cv vs x\/cv vs (x^^^w):=by
 constructor
 .intro h
  induction h with
  |zero=>exact .inl .zero
  | @add x v _ a b=>
   rcases Pz.mp a with a|a
   .rcases b with b|b
    .exact .inl (b.add a)
    .refine .inr ?_;rw[Qp,R9 v w,<-Qp];exact b.add a
   .rw[PR.mp a];rcases b with b|b
    .refine .inr ?_;rw[Qp,Ru,Sa];exact b
    .exact .inl b
 .rintro(h|h)
  .exact h.sub λv a=> .of_mem (Rf _ a)
  .have c:=(h.sub (ws:=vs++[w]) λv a=> .of_mem (Rf _ a)).add (v:=w) (Qj _ (PR.mpr rfl));rwa[Qp,Ru,Sa]at c
theorem Cs(v:Nat):cv ss (red ss v^^^v):=by
 have b:∀(r ss:List Nat)(u v:Nat),(∀s∈r,s∈ss)->cv ss (u^^^v)->cv ss (red r u^^^v):=by
  intro r
  induction r with
  |nil=>intro ss u v _ h;exact h
  |cons s r d=>
   intro ss u v a h;show cv ss (red r (mn u s)^^^v);refine d ss _ v (λz c=>a z (Po _ c)) ?_;unfold mn;split
   .rw[Qp,R9 s v,<-Qp];exact h.add (a s Pt)
   .exact h
 refine b ss ss v v (λ_ h=>h) ?_;rw[Ru];exact .zero
def stp(ss:List Nat)(v:Nat):List Nat:=if 0<red ss v then ss++[red ss v]else ss
def o7(vs:List Nat):List Nat:=vs.foldl stp []
theorem o6(vs:List Nat)(v:Nat):o7 (vs++[v])=stp (o7 vs) v:=by unfold o7;rw[RA];rfl
structure Ech(vs ss:List Nat):Prop where
 pos:∀s∈ss,0<s
 kill:∀s∈ss,red ss s=0
 span:∀x,cv ss x↔cv vs x
theorem AG(b:∀s∈ss,0<s)(a:∀s∈ss,red ss s=0)(h:cv ss x):red ss x=0:=by
 induction h with
 |zero=>exact Ig ss
 |add _ c d=>rw[DX b,d,a _ c];rfl
theorem Ech.red{vs ss:List Nat}(h:Ech vs ss)(v:Nat):red ss v=0↔cv vs v:=by
 rw[<-h.span v];constructor
 .intro e;have:=Cs (ss:=ss) v;rwa[e,SI]at this
 .exact AG h.pos h.kill
theorem Ech.step(h:Ech vs ss)(v:Nat):Ech (vs++[v]) (stp ss v):=by
 unfold stp;by_cases c:0<Bh.red ss v
 .rw[Pd c];have idem:Bh.red ss (Bh.red ss v)=Bh.red ss v:=by have e:=AG h.pos h.kill (Cs (ss:=ss) v);rw[DX h.pos]at e;have:=Qd (· ^^^Bh.red ss v) e;simpa [Qp]using this
  refine#[λs a=> ?_,λs a=> ?_,λx=> ?_]
  .rcases Pz.mp a with a|a
   .exact h.pos s a
   .rw[PR.mp a];exact c
  .rw[Ih];rcases Pz.mp a with a|a
   .rw[h.kill s a,Eg]
   .rw[PR.mp a,idem,Lv c]
  .have f:=(h.span _).mp (Cs (ss:=ss) v);rw[cv.snoc,cv.snoc,h.span,h.span];have key:∀y,cv vs (y^^^Bh.red ss v)↔cv vs (y^^^v):=λy=>by
    constructor
    .intro d;have:=d.xor f;rwa[Qp,<-Qp (Bh.red ss v),Ru,SI]at this
    .intro d;have:=d.xor f;rwa[R9 (Bh.red ss v) v,Qp,<-Qp v,Ru,SI]at this
   rw[key]
 .rw[Pb c];have g:cv vs v:=(h.red v).mp ();refine#[h.pos,h.kill,λx=> ?_];rw[h.span,cv.snoc];constructor
  .exact λb=> .inl b
  .rintro(b|b)
   .exact b
   .have:=b.xor g;rwa[Qp,Ru,Sa]at this
theorem wH(vs:List Nat):Ech vs (o7 vs):=by
 have a:∀(r vs ss:List Nat),Ech vs ss->Ech (vs++r) (r.foldl stp ss):=by
  intro r
  induction r with
  |nil=>intro vs ss h;rw[Q0];exact h
  |cons v r b=>
   intro vs ss h;have:=b _ _ (h.step v);rwa[Q2]at this
 exact a vs [] [] #[#[5],#[5],λx=>Iff.rfl]
def rkX(vs:List Nat):Nat:=(o7 vs).length
theorem qL(h:cv vs v):rkX (vs++[v])=rkX vs:=by unfold rkX;rw[o6,stp,Pb];have:=((wH vs).red v).mpr h;lia
theorem kW(h:¬cv vs v):rkX (vs++[v])=rkX vs+1:=by
 unfold rkX;rw[o6,stp,Pd]
 .rw[PK];rfl
 .refine SJ λe=>h (((wH vs).red v).mp e)
def jz(vs:List Nat):List Nat:=vs.foldl (λa v=>if v∈a then a else a++a.map (· ^^^v)) [0]
theorem tK(vs:List Nat)(v:Nat):jz (vs++[v])=if v∈jz vs then jz vs else jz vs++(jz vs).map (· ^^^v):=by unfold jz;rw[RA];rfl
theorem pO{b:Type}{P:List b->Prop}(c:P [])(d:∀l a,P l->P (l++[a])):∀l,P l:=by
 have:∀l:List b,P l.reverse:=by
  intro l
  induction l with
  |nil=>exact c
  |cons a r e=>rw[List.reverse_cons];exact d _ _ e
 intro l;have:=this l.reverse
 rwa [List.reverse_reverse]at this
theorem jt(vs:List Nat):∀x,x∈jz vs↔cv vs x:=by
 refine pO (P:=λvs=>∀x,x∈jz vs↔cv vs x) ?_ ?_ vs
 .intro x;constructor
  .intro h;rw[PR.mp h];exact .zero
  .intro h;cases h with
   |zero=>exact PR.mpr rfl
   |add _ a=>cases a
 .intro vs v b x;rw[tK,cv.snoc];by_cases a:v∈jz vs
  .rw[Pd a,b x];have c:=(b v).mp a;constructor
   .exact λh=> .inl h
   .rintro(h|h)
    .exact h
    .have:=h.xor c;rwa[Qp,Ru,Sa]at this
  .rw[Pb a,Pz,b x,Pl];constructor
   .rintro(h|⟨y,d,rfl⟩)
    .exact .inl h
    .refine .inr ?_;rw[Qp,Ru,Sa];exact(b y).mp d
   .rintro(h|h)
    .exact .inl h
    .refine .inr #[x^^^v,(b _).mpr h,6];rw[Qp,Ru,Sa]
theorem rH(vs:List Nat):(jz vs).Nodup/\(jz vs).length=2^rkX vs:=by
 refine pO (P:=λvs=>(jz vs).Nodup/\(jz vs).length=2^rkX vs) #[by simp[jz],2] ?_ vs;rintro vs v ⟨d,f⟩;rw[tK];by_cases c:v∈jz vs
 .rw[Pd c,qL ((jt vs v).mp c)];exact#[d,f]
 .have g:¬cv vs v:=λh=>c ((jt vs v).mpr h);rw[Pb c,kW g,PK,My,f,Tv,Nat.mul_two];refine#[RB.mpr #[d,66],2]
  .rw[List.Nodup,SW];refine d.imp λ{a b} j e=>j ?_;have:=Qd (· ^^^v) e;simpa [Qp]using this
  .intro a i b k e;obtain⟨y,l,rfl⟩:=Pl.mp k;subst e;have:=((jt vs _).mp i).xor ((jt vs _).mp l);rw[R9 y v,Qp,Ru,Sa]at this;exact g this
theorem dM:∀ {a b:List Nat},a.Nodup->(∀x∈a,x∈b)->a.length<=b.length
 | [],_,_,_=>Qu _
 |x::r,b,d,h=>by have f:=h x Pt;rw[Qr]at d;have g:=dM (a:=r) (b:=b.erase x) d.2 λy c=>(List.mem_erase_of_ne (λe=>by rw[e]at c;exact d.1 c)).mpr (h y (Po _ c));rw[Sb f]at g;have:0<b.length:=Sn f;rw[PM];lia
theorem Im(h:2^a<=2^b):a<=b:=(Nat.pow_le_pow_iff_right ()).mp h
theorem HQ(h:∀v∈vs,cv ws v):rkX vs<=rkX ws:=by have a:=rH vs;have b:=rH ws;have:=dM a.1 λx c=>(jt ws x).mpr (((jt vs x).mp c).sub h);rw[a.2,b.2]at this;exact Im this
theorem KP(vs:List Nat):rkX vs<=vs.length:=by
 refine pO (P:=λvs=>rkX vs<=vs.length) (Pu _) (λvs v a=> ?_) vs;rw[PK];show _<=vs.length+1;by_cases h:cv vs v
 .rw[qL h];lia
 .rw[kW h];lia
def par(p:Nat)(ms:List Int)(c:Int)(z:Nat):Bool:=(List.range p).foldl (λb i=>b^^ (z.testBit i&&decide (ms.getD i 0=c))) false
theorem Ni(ms:List Int)(c:Int):∀(l:List Nat)(z w:Nat)(a b:Bool),
  l.foldl (λb i=>b^^ ((z^^^w).testBit i&&decide (ms.getD i 0=c))) (a^^b)=(l.foldl (λb i=>b^^ (z.testBit i&&decide (ms.getD i 0=c))) a^^l.foldl (λb i=>b^^ (w.testBit i&&decide (ms.getD i 0=c))) b):=by
 intro l
 induction l with
 |nil=>intros;rfl
 |cons i r d=>
  intro z w a b;rw[Rm,Rm,Rm,<-d,Qx];congr 1;cases a<;>cases b<;>cases z.testBit i<;>cases w.testBit i<;>cases decide (ms.getD i 0=c)<;>rfl
theorem yu(p:Nat)(ms:List Int)(c:Int)(z w:Nat):par p ms c (z^^^w)=(par p ms c z^^par p ms c w):=Ni ms c (List.range p) z w false false
theorem Iw(p:Nat)(ms:List Int)(c:Int):par p ms c 0=false:=by
 unfold par
 induction (List.range p)with
 |nil=>rfl
 |cons i r a=>rw[Rm,P4];exact a
theorem sJ(ms:List Int)(c:Int)(g:x<p):par p ms c (2^x)=decide (ms.getD x 0=c):=by
 unfold par;have a:∀n,(List.range n).foldl (λb i=>b^^ ((2^x).testBit i&&decide (ms.getD i 0=c))) false=(decide (x<n)&&decide (ms.getD x 0=c)):=by
  intro n
  induction n with
  |zero=>rfl
  |succ n j=>
   rw[RQ,RA,j];show((decide (x<n)&&decide (ms.getD x 0=c))^^ ((2^x).testBit n&&decide (ms.getD n 0=c)))=_;rw[Py];by_cases e:x=n
   .subst e;simp
   .have d:decide (x=n)=false:=Pc e;have f:decide (x<n+1)=decide (x<n):=by
     by_cases h:x<n
     .rw[Pe h,Pe ()]
     .rw[Pc h,Pc ()]
    rw[d,f];simp
 rw[a,Pe g,Qy]
def eT(t:Nat×Nat):Nat:=2^t.1^^^2^t.2
theorem rM{ts:List (Nat×Nat)}{ms:List Int}(h:Mks p ts (λ_=>True) ms)(q:∀t∈ts,t.1<p/\t.2<p)(n:x<p)(o:y<p):cv (ts.map eT) (2^x^^^2^y)↔ms.getD x 0=ms.getD y 0:=by
 constructor
 .intro r;have g:∀c z,cv (ts.map eT) z->par p ms c z=false:=by
   intro c z g
   induction g with
   |zero=>exact Iw p ms c
   |add _ s u=>
    obtain⟨t,m,rfl⟩:=Pl.mp s;obtain⟨k,f⟩:=Qm m;have e:=h.eq k t f trivial;have i:=q t m;rw[yu,u,eT,yu,sJ ms c i.1,sJ ms c i.2,e];simp
  have d:=g (ms.getD x 0) _ r;rw[yu,sJ _ _ n,sJ _ _ o,Pe rfl]at d;have:decide (ms.getD y 0=ms.getD x 0)=true:=#[5,d]
  exact(PH this).symm
 .intro e;have:=h.cl (λz=>cv (ts.map eT) (2^x^^^2^z)) (λk t f _=> ?_) x y n o e
  .refine this.mp ?_;rw[Ru];exact .zero
  .have l:eT t∈ts.map eT:=Pl.mpr #[t,Pq f,2];have j:∀a b c:Nat,a^^^b^^^ (b^^^c)=a^^^c:=λa b c=>by rw[Qp,<-Qp b b c,Ru,SI]
   constructor
   .intro d;have:=d.add l;rwa[eT,j]at this
   .intro d;have:=d.add l;rwa[eT,R9 (2^t.1),j]at this
theorem jL:∀ {a b:List Int},a.Nodup->(∀x∈a,x∈b)->a.length<=b.length
 | [],_,_,_=>Qu _
 |x::r,b,d,h=>by have f:=h x Pt;rw[Qr]at d;have g:=jL (a:=r) (b:=b.erase x) d.2 λy c=>(List.mem_erase_of_ne (λe=>by rw[e]at c;exact d.1 c)).mpr (h y (Po _ c));rw[Sb f]at g;have:0<b.length:=Sn f;rw[PM];lia
theorem rf(val:Nat->Int):∀p,∃L:List Int,L.Nodup/\(∀v,v∈L↔∃i,i<p/\val i=v)/\L.length=oQ val p
 |0=>#[[],#[5],λv=>#[5],2]
 |p+1=>by
  obtain⟨L,l,g,hl⟩:=rf val p;by_cases h:∃j,j<p/\val j=val p
  .refine#[L,l,λv=> ?_,by rw[J2 h];exact hl];rw[g v];obtain⟨j,n,e⟩:=h;constructor
   .rintro⟨i,d,c⟩;exact#[i,9,c]
   .rintro⟨i,d,c⟩;by_cases f:i=p
    .subst f;exact#[j,n,e.trans c]
    .exact#[i,9,c]
  .refine#[L++[val p],6,λv=> ?_,by rw[Bw h,PK,hl];rfl]
   .rw[RB];refine#[l,#[5],λa k b m e=> ?_];rw[PR.mp m]at e;rw[e]at k;exact h ((g _).mp k)
   .rw[Pz,g v,PR];constructor
    .rintro(⟨i,d,e⟩|e)
     .exact#[i,9,e]
     .exact#[p,9,e.symm]
    .rintro⟨i,d,e⟩;by_cases f:i=p
     .subst f;exact .inr e.symm
     .exact .inl #[i,9,e]
theorem Gw{ms:List Int}(hl:ms.length=p)(q:x<p)(r:y<p)(o:¬ms.getD x 0=ms.getD y 0):oQ (λi=>(mrg ms x y).getD i 0) p+1=oQ (λi=>ms.getD i 0) p:=by
 obtain⟨L,g,d,t⟩:=rf (λi=>ms.getD i 0) p;obtain⟨h,s,n,u⟩:=rf (λi=>(mrg ms x y).getD i 0) p;have f:ms.getD x 0∈L:=(d _).mpr #[x,q,2];have key:∀v,v∈h↔v∈L.erase (ms.getD x 0):=by
  intro v;rw[g.mem_erase_iff,n v,d v];constructor
  .rintro⟨i,b,e⟩;have a:(mrg ms x y).getD i 0=v:=e;rw[nG (by rw[hl];exact b)]at a;split at a
   .rw[<-a];exact#[λj=>o j.symm,y,r,2]
   .rename_i m;rw[<-a];exact#[m,i,b,2]
  .rintro⟨c,i,b,e⟩;refine#[i,b,6];show(mrg ms x y).getD i 0=v;have a:ms.getD i 0=v:=e;rw[nG (by rw[hl];exact b),Pb (by rw[a];exact c)];exact a
 have k:=jL s λv c=>(key v).mp c;have l:=jL (g.erase _) λv c=>(key v).mpr c;rw[Sb f]at k l;have:0<L.length:=Sn f;lia
theorem IZ{ms:List Int}(hl:ms.length=p)(e:ms.getD x 0=ms.getD y 0):mrg ms x y=ms:=by
 unfold mrg;rw[<-e]
 conv=>rhs;rw[<-RX ms]
 refine Qt λm _=> ?_;show(if m=_ then _ else m)=m;split
 .rename_i h;exact h.symm
 .rfl
def mkA(p:Nat)(ts:List (Nat×Nat)):List Int:=ts.foldl (λms t=>mrg ms t.1 t.2) (start p)
theorem A5(p:Nat)(ts:List (Nat×Nat))(t:Nat×Nat):mkA p (ts++[t])=mrg (mkA p ts) t.1 t.2:=by unfold mkA;rw[RA];rfl
theorem Jb(ts:List (Nat×Nat))(a:∀t∈ts,t.1<p/\t.2<p):Mks p ts (λ_=>True) (mkA p ts):=by
 revert a
 refine pO (P:=λts=>(∀t∈ts,t.1<p/\t.2<p)->Mks p ts (λ_=>True) (mkA p ts)) ?_ ?_ ts
 .intro _;exact#[by simp[mkA,start],λk t b=>by simp at b,λP _=>(Mks.start p []).cl P λk t b=>by simp at b]
 .intro ts t l a;have h:=l λu i=>a u (Rf _ i);have m:=a t (Qj _ (PR.mpr rfl));rw[A5];have b:(ts++[t])[ts.length]?=some t:=#[5]
  have h':Mks p (ts++[t]) (λj=>j<ts.length) (mkA p ts):=by refine#[h.len,λk u c g=>h.eq k u (by rwa[P1 g]at c) trivial,λP e=>h.cl P λk u c _=> ?_];have d:k<ts.length:=(Pn.mp c).1;exact e k u (by rw[P1 d];exact c) d
  refine(h'.step a b).congr λj u f=> ?_;have:=(Pn.mp f).1;rw[PK]at this;have:j<ts.length+1:=this;constructor
  .intro _;trivial
  .intro _;lia
theorem Gv(p:Nat):oQ (λi=>(start p).getD i 0) p=p:=by
 have d:∀n,n<=p->oQ (λi=>(start p).getD i 0) n=n:=by
  intro n
  induction n with
  |zero=>intro _;rfl
  |succ n f=>
   intro h;rw[Bw,f ()];rintro⟨j,g,e⟩;have a:(start p).getD j 0=(start p).getD n 0:=e;have b:(start p).getD j 0=(j:Int):=by
    have:j<p:=()
    simp[start,this]
   have c:(start p).getD n 0=(n:Int):=by
    have:n<p:=()
    simp[start,this]
   rw[b,c]at a;lia
 exact d p (Pu _)
theorem IU(ts:List (Nat×Nat))(a:∀t∈ts,t.1<p/\t.2<p):oQ (λi=>(mkA p ts).getD i 0) p+rkX (ts.map eT)=p:=by
 revert a
 refine pO (P:=λts=>(∀t∈ts,t.1<p/\t.2<p)->oQ (λi=>(mkA p ts).getD i 0) p+rkX (ts.map eT)=p) ?_ ?_ ts
 .intro _;exact Gv p
 .intro ts t j a;have d:∀u∈ts,u.1<p/\u.2<p:=λu g=>a u (Rf _ g);have h:=j d;have c:=Jb ts d;have b:=a t (Qj _ (PR.mpr rfl));have f:cv (ts.map eT) (eT t)↔_:=rM c d b.1 b.2;rw[A5,Qs];show _+rkX (ts.map eT++[eT t])=p;by_cases e:(mkA p ts).getD t.1 0=(mkA p ts).getD t.2 0
  .rw[IZ c.len e,qL (f.mpr e)];exact h
  .rw[kW λz=>e (f.mp z)];have:=Gw c.len b.1 b.2 e;lia
structure Mat(n:Nat)(r:Nat->Nat):Prop where
 n8:n<=8
 zero:r 0=0
 step:∀s k,s<2^n->k<n->r s<=r (s|||2^k)/\r (s|||2^k)<=r s+1
 sub:∀s j k,s<2^n->j<n->k<n->r (s|||2^j)=r s->r (s|||2^k)=r s->r (s|||2^j|||2^k)=r s
def Sub(a b:Nat):Prop:=∀k,a.testBit k=true->b.testBit k=true
theorem Sub.refl(a:Nat):Sub a a:=λ_ h=>h
theorem Sub.trans(h:Sub a b)(g:Sub b c):Sub a c:=λk d=>g k (h k d)
theorem Sub.lt(h:Sub a b)(c:b<2^n):a<2^n:=RO _ λi d=>by
 cases e:a.testBit i with
 |false=>rfl
 |true=>
  have:=h i e;rw[Qk (Pg c (PJ () d))]at this;cases this
theorem aM(b:s<2^n)(a:k<n):s|||2^k<2^n:=QB b (RR () a)
theorem a9(s k j:Nat):(s|||2^k).testBit j=(s.testBit j||decide (k=j)):=by rw[PN,Py]
theorem ip{s k:Nat}(h:s.testBit k=true):s|||2^k=s:=PC λj=>by
 rw[a9];by_cases e:k=j
 .subst e;rw[h];rfl
 .rw[Pc e,Ry]
def upto(s t:Nat):Nat->Nat
 |0=>s
 |i+1=>if t.testBit i=true then upto s t i|||2^i else upto s t i
theorem iD(s t i:Nat):upto s t (i+1)=if t.testBit i=true then upto s t i|||2^i else upto s t i:=rfl
theorem lI(s t j:Nat):∀i,(upto s t i).testBit j=(s.testBit j||(decide (j<i)&&t.testBit j))
 |0=>by simp[upto]
 |i+1=>by
  rw[iD];by_cases a:t.testBit i=true
  .rw[Pd a,a9,lI s t j i];by_cases e:i=j
   .subst e;simp[a]
   .have b:decide (j<i+1)=decide (j<i):=by
     by_cases h:j<i
     .rw[Pe h,Pe ()]
     .rw[Pc h,Pc ()]
    rw[Pc e,b,Ry]
  .rw[Pb a,lI s t j i];by_cases e:i=j
   .subst e;simp[a]
   .have b:decide (j<i+1)=decide (j<i):=by
     by_cases h:j<i
     .rw[Pe h,Pe ()]
     .rw[Pc h,Pc ()]
    rw[b]
theorem lJ(a:t<2^n):upto s t n=s|||t:=PC λj=>by
 rw[lI,PN];by_cases h:j<n
 .rw[Pe h,Qy]
 .rw[Qk (Pg a (PJ () ())),Qw]
theorem kS(a:s<2^n):∀i,i<=n->upto s t i<2^n
 |0,_=>a
 |i+1,b=>by
  rw[iD];split
  .exact aM (kS a i ()) ()
  .exact kS a i ()
theorem yw(h:Sub s t):s|||t=t:=PC λj=>by
 rw[PN];cases e:s.testBit j with
 |false=>rfl
 |true=>rw[h j e];rfl
namespace Mat
variable{n:Nat}{r:Nat->Nat}(M:Mat n r)
include M
theorem mono(h:Sub s t)(a:t<2^n):r s<=r t:=by
 have d:=h.lt a;have c:∀i,i<=n->r s<=r (upto s t i):=by
  intro i
  induction i with
  |zero=>intro _;exact Pu _
  |succ i b=>
   intro e;rw[iD];split
   .exact Pr (b ()) (M.step _ i (kS d i ()) ()).1
   .exact b ()
 have:=c n (Pu _);rwa[lJ a,yw h]at this
theorem keep(h:Sub s t)(c:t<2^n)(b:k<n)(e:r (s|||2^k)=r s):r (t|||2^k)=r t:=by
 have j:=h.lt c;have g:∀i,i<=n->r (upto s t i|||2^k)=r (upto s t i):=by
  intro i
  induction i with
  |zero=>intro _;exact e
  |succ i a=>
   intro m;have a:=a ();rw[iD];split
   .have hl:=kS (t:=t) j i ();generalize upto s t i=u at*;have o:=M.step u i hl ();have p:=M.step (u|||2^i) k (aM hl ()) b;have l:=M.step (u|||2^k) i (aM hl b) ();have f:u|||2^k|||2^i=u|||2^i|||2^k:=by rw[Rn,R7 (2^k),<-Rn]
    rw[f]at l;by_cases d:r (u|||2^i)=r u
    .have:=M.sub u i k hl () b d a;lia
    .lia
   .exact a
 have:=g n (Pu _);rwa[lJ c,yw h]at this
theorem closed{s t:Nat}(e:s<2^n)(g:t<2^n)(h:∀k,t.testBit k=true->r (s|||2^k)=r s):r (s|||t)=r s:=by
 have b:∀i,i<=n->r (upto s t i)=r s:=by
  intro i
  induction i with
  |zero=>intro _;rfl
  |succ i a=>
   intro l;have a:=a ();rw[iD];split
   .rename_i c;have f:Sub s (upto s t i):=λj d=>by rw[lI,d];rfl
    rw[M.keep f (kS e i ()) () (h i c)];exact a
   .exact a
 have:=b n (Pu _)
 rwa [lJ g]at this
end Mat
def grow(r:Nat->Nat)(s t:Nat):Nat->Nat
 |0=>s
 |i+1=>if t.testBit i=true/\r (grow r s t i)<r (grow r s t i|||2^i)then grow r s t i|||2^i else grow r s t i
theorem Gg(r:Nat->Nat)(s t i:Nat):grow r s t (i+1)=if t.testBit i=true/\r (grow r s t i)<r (grow r s t i|||2^i)then grow r s t i|||2^i else grow r s t i:=rfl
theorem eU:∀s:Nat,s<256->∀k:Nat,k<8->s.testBit k=false->sz (s|||2^k)=sz s+1:=#[9]
theorem Mm(h:n<=8):2^n<=256:=PJ (n:=2) () h
namespace Mat
variable{n:Nat}{r:Nat->Nat}(M:Mat n r)
include M
theorem aV(a:s<2^n):s<256:=Pg a (Mm M.n8)
theorem lu:∀s,s<2^n->r s<=sz s:=by
 intro s d;have b:∀i,i<=n->r (upto 0 s i)<=sz (upto 0 s i):=by
  intro i
  induction i with
  |zero=>intro _;show r 0<=_;rw[M.zero];exact Qu _
  |succ i a=>
   intro e;have a:=a ();rw[iD];have hl:upto 0 s i<2^n:=kS (Q9 ()) i ();split
   .have c:(upto 0 s i).testBit i=false:=by rw[lI];simp
    rw[eU _ (M.aV hl) i (by have:=M.n8;lia) c];have:=(M.step _ i hl ()).2;lia
   .exact a
 have:=b n (Pu _);rwa[lJ d,So]at this
theorem C6{s t:Nat}(v:Sub s t)(w:t<2^n)(q:r s=sz s):∀i,i<=n->Sub s (grow r s t i)/\Sub (grow r s t i) t/\r (grow r s t i)=sz (grow r s t i)/\
  ∀k,k<i->t.testBit k=true->r (grow r s t i|||2^k)=r (grow r s t i):=by
 intro i
 induction i with
 |zero=>intro _;exact#[Sub.refl _,v,q,λk f=>absurd f (Sl _)]
 |succ i x=>
  intro y;obtain⟨h,d,o,l⟩:=x ();rw[Gg];have hl:=d.lt w;generalize grow r s t i=g at*;have A:=M.n8;by_cases c:t.testBit i=true/\r g<r (g|||2^i)
  .rw[Pd c];have p:g.testBit i=false:=by
    cases e:g.testBit i with
    |false=>rfl
    |true=>rw[ip e]at c;exact absurd c.2 (Rg _)
   have st:=M.step g i hl ();have u:=aM (k:=i) hl ();have m:Sub g (g|||2^i):=λj a=>by rw[a9,a];rfl
   refine#[h.trans m,λj a=> ?_,6,λk f b=> ?_]
   .rw[a9]at a;by_cases e:i=j
    .subst e;exact c.1
    .rw[Pc e,Ry]at a;exact d j a
   .rw[eU g (M.aV hl) i () p];lia
   .by_cases e:k=i
    .subst e;rw[ip];rw[a9];simp
    .exact M.keep m u () (l k () b)
  .rw[Pb c];refine#[h,d,o,λk f b=> ?_];by_cases e:k=i
   .subst e;have st:=M.step g k hl ();have:¬r g<r (g|||2^k):=λz=>c #[b,z];lia
   .exact l k () b
theorem extend(j:Sub s t)(a:t<2^n)(h:r s=sz s):∃g,Sub s g/\Sub g t/\r g=sz g/\r g=r t:=by
 obtain⟨d,b,e,f⟩:=M.C6 j a h n (Pu _);refine#[grow r s t n,d,b,e,6];have hl:=b.lt a;have:=M.closed hl a λk c=>f k (by
  refine RM λi=> ?_;rw[Qk (Pg a (PJ () i))]at c;cases c) c
 rw[yw b]at this;exact this.symm
end Mat
end Bh
namespace Bh
theorem EY(a b:Nat):Sub (a&&&b) a:=λk h=>by rw[QE,PX]at h;exact h.1
theorem EX(a b:Nat):Sub (a&&&b) b:=λk h=>by rw[QE,PX]at h;exact h.2
theorem o5(h:Sub a b)(g:Sub a c):Sub a (b&&&c):=λk d=>by rw[QE,h k d,g k d];rfl
theorem bD(b:s<2^n):Sub s (2^n-1):=λk a=>by rw[PY];refine Pe (RM λh=> ?_);rw[Qk (Pg b (PJ () h))]at a;cases a
theorem aH(n:Nat):2^n-1<2^n:=by have:0<2^n:=Q9 ();lia
theorem c7:sz 0=0:=∅
namespace Mat
variable{n:Nat}{r:Nat->Nat}(M:Mat n r)
include M
theorem yR(h:Sub x b)(c:b<2^n):r b+sz x<=r x+sz b:=by
 have f:=h.lt c;have d:∀i,i<=n->r (upto x b i)+sz x<=r x+sz (upto x b i):=by
  intro i
  induction i with
  |zero=>intro _;exact Pu _
  |succ i a=>
   intro g;have a:=a ();rw[iD];have hl:=kS (t:=b) f i ();split
   .generalize upto x b i=u at*;cases e:u.testBit i with
    |true=>rw[ip e];exact a
    |false=>
     rw[eU u (M.aV hl) i (by have:=M.n8;lia) e];have:=(M.step u i hl ()).2;lia
   .exact a
 have:=d n (Pu _);rwa[lJ c,yw h]at this
theorem jN(h:Sub x b)(a:b<2^n)(e:r b=sz b):r x=sz x:=by have c:=M.yR h a;have d:=M.lu x (h.lt a);lia
theorem vd(f:∀z,z∈ms↔∃b:Nat,b<2^n/\z=(b:Int)/\r b=sz b/\r b=r (2^n-1))(a:s<2^n):kK ms s=r s:=by
 obtain⟨g,_,e,w,G⟩:=M.extend (s:=0) (t:=s) (λk h=>by rw[P4]at h;cases h) a (by rw[M.zero,c7]);obtain⟨b,v,o,d,p⟩:=M.extend (t:=2^n-1) (bD (e.lt a)) (aH n) w;have c:b<2^n:=o.lt (aH n);have key:∀b:Nat,b<2^n->r b=sz b->sz (s&&&b)<=r s:=λb j q=>by rw[<-M.jN (EX s b) j q];exact M.mono (EY s b) a
 refine rA #[(b:Int),(f _).mpr #[b,c,2,d,p],6] λm y=> ?_
 .rw[Pj];have A:=key b c d;have B:sz g<=sz (s&&&b):=sv λk _ x=>o5 e v k x;lia
 .obtain⟨i,l,rfl,u,_⟩:=(f m).mp y;rw[Pj];exact key i l u
end Mat
def av(cols:List Nat)(s:Nat):List Nat:=(bits s).map λz:Int=>cols.getD z.toNat 0
theorem cP{cols:List Nat}{s v:Nat}:v∈av cols s↔∃k,k<8/\s.testBit k=true/\v=cols.getD k 0:=by
 unfold av;rw[Pl];constructor
 .rintro⟨z,c,rfl⟩;obtain⟨k,b,a,rfl⟩:=cQ.mp c;exact#[k,b,a,by rw[Pj]]
 .rintro⟨k,b,a,rfl⟩;exact#[(k:Int),cQ.mpr #[k,b,a,2],by rw[Pj]]
def rkC(cols:List Nat)(s:Nat):Nat:=rkX (av cols s)
theorem yo(cols:List Nat)(d:k<8):rkC cols (s|||2^k)=rkX (av cols s++[cols.getD k 0]):=by
 refine QR (HQ λv a=> ?_) (HQ λv a=> ?_)
 .obtain⟨j,c,b,rfl⟩:=cP.mp a;rw[a9]at b;by_cases e:k=j
  .subst e;exact .of_mem (Qj _ (PR.mpr rfl))
  .rw[Pc e,Ry]at b;exact .of_mem (Rf _ (cP.mpr #[j,c,b,2]))
 .rcases Pz.mp a with a|a
  .obtain⟨j,c,b,rfl⟩:=cP.mp a;exact .of_mem (cP.mpr #[j,c,by rw[a9,b];rfl,2])
  .rw[PR.mp a];exact .of_mem (cP.mpr #[k,d,by rw[a9];simp,2])
theorem mH(cols:List Nat)(d:n<=8):Mat n (rkC cols):=by
 refine#[d,6,λs k l g=> ?_,λs j k l o g a b=> ?_]
 .show rkX (av cols 0)=0;have:bits 0=[]:=∅
  have:av cols 0=[]:=by unfold av;rw[this];rfl
  rw[this];rfl
 .rw[yo cols ()];show rkX _<=_/\_<=rkX _+1;by_cases h:cv (av cols s) (cols.getD k 0)
  .rw[qL h];lia
  .rw[kW h];lia
 .rw[yo cols ()]at a b⊢;have p:cv (av cols s) (cols.getD j 0):=by refine PU λh=> ?_;rw[kW h]at a;have:rkX (av cols s)+1=rkX (av cols s):=a;lia
  have m:cv (av cols s) (cols.getD k 0):=by refine PU λh=> ?_;rw[kW h]at b;have:rkX (av cols s)+1=rkX (av cols s):=b;lia
  have sub:∀v∈av cols s,v∈av cols (s|||2^j):=λv c=>by obtain⟨i,f,e,rfl⟩:=cP.mp c;exact cP.mpr #[i,f,by rw[a9,e];rfl,2]
  rw[qL (m.sub λv c=> .of_mem (sub v c))];show rkC cols (s|||2^j)=_;rw[yo cols ()];exact a
def rkG(m:Nat)(gone:List Int)(s:Nat):Nat:=min (sz s) m- (if(s:Int)∈gone then 1 else 0)
structure vp(n m:Nat)(gone:List Int):Prop where
 size:∀z∈gone,∃s:Nat,s<2^n/\z=(s:Int)/\sz s=m
 far:Far (m:Int) gone
 mid:gone=[]\/(0<m/\m<n)
theorem vp.not(h:vp n m gone)(a:¬sz s=m):¬(s:Int)∈gone:=λb=>by
 obtain⟨t,_,e,c⟩:=h.size _ b;have:s=t:=()
 rw[this]at a;exact a c
theorem Du{s j k:Nat}(c:s.testBit j=false)(e:s.testBit k=false)(d:j≠k):(s|||2^j)&&& (s|||2^k)=s:=PC λi=>by
 rw[QE,a9,a9];by_cases a:j=i
 .subst a;rw[c,Pc (Q7 d)];simp
 .by_cases b:k=i
  .subst b;rw[e,Pc a];simp
  .rw[Pc a,Pc b];simp
theorem Jg(r:n<=8)(h:vp n m gone):Mat n (rkG m gone):=by
 have c:∀ {s},s<2^n->s<256:=λa=>Pg a (Mm r);have one:∀(s:Nat),(if(s:Int)∈gone then 1 else 0)<=1:=λs=>by split<;>lia
 have b:∀ {s:Nat},¬sz s=m->rkG m gone s=min (sz s) m:=λa=>by unfold rkG;rw[Pb (h.not a)];rfl
 have t:∀(s:Nat),rkG m gone s<=min (sz s) m/\min (sz s) m<=rkG m gone s+1:=λs=>by unfold rkG;have:=one s;lia
 refine#[r,6,λs k a A=> ?_,λs j k a z A p w=> ?_]
 .unfold rkG;rw[c7];lia
 .cases e:s.testBit k with
  |true=>rw[ip e];lia
  |false=>
   have L:=eU s (c a) k () e;have M:=t s;have l2:=t (s|||2^k);by_cases f:sz s=m
   .have J:=b (s:=s|||2^k) ();lia
   .have H:=b f;by_cases g:sz (s|||2^k)=m
    .lia
    .have J:=b g;lia
 .cases i:s.testBit j with
  |true=>rw[ip i];exact w
  |false=>
   cases d:s.testBit k with
   |true=>
    have B:(s|||2^j).testBit k=true:=by rw[a9,d];rfl
    rw[ip B];exact p
   |false=>
    by_cases l:j=k
    .subst l;rw[ip (by rw[a9];simp)];exact p
    .have O:=eU s (c a) j () i;have U:=eU s (c a) k () d;have q:(s|||2^j).testBit k=false:=by rw[a9,d,Pc l];rfl
     have Q:=eU (s|||2^j) (c (aM a z)) k () q;by_cases f:sz s=m
     .have K:=b (s:=s|||2^j) ();have N:=b (s:=s|||2^j|||2^k) ();lia
     .have H:=b f;by_cases g:sz (s|||2^j)=m
      .exfalso;have x:((s|||2^j:Nat):Int)∈gone:=by
        refine PU λo=> ?_;have:rkG m gone (s|||2^j)=min (sz (s|||2^j)) m:=by unfold rkG;rw[Pb o];rfl
        lia
       have y:((s|||2^k:Nat):Int)∈gone:=by
        refine PU λo=> ?_;have:rkG m gone (s|||2^k)=min (sz (s|||2^k)) m:=by unfold rkG;rw[Pb o];rfl
        lia
       have G:((s|||2^j:Nat):Int)≠((s|||2^k:Nat):Int):=λe=>by
        have v:s|||2^j=s|||2^k:=()
        have:(s|||2^j).testBit k=(s|||2^k).testBit k:=by rw[v]
        rw[q,a9]at this;simp at this
       have:=h.far _ x _ y G;rw[Pj,Pj,Du i d l]at this;lia
      .have K:=b g;have ok:=b (s:=s|||2^k) ();by_cases u:sz (s|||2^j|||2^k)=m
       .lia
       .have:=b u;lia
end Bh
namespace Bh
theorem ql(p q:Nat->Bool):∀l:List Nat,(l.filter λk=>p k&&q k).length+(l.filter λk=>p k&& !q k).length=(l.filter p).length
 | []=>rfl
 |k::l=>by have c:=ql p q l;rw[QQ,QQ,QQ];cases a:p k<;>cases b:q k<;>simp[a,b]<;>lia
theorem lO{s a b:Nat}(q:Nat->Bool)(f:∀k,k<8->a.testBit k=(s.testBit k&&q k))(g:∀k,k<8->b.testBit k=(s.testBit k&& !q k)):sz a+sz b=sz s:=by rw[jx,jx,jx,<-ql s.testBit q (List.range 8)];have d:(List.range 8).filter a.testBit=(List.range 8).filter λk=>s.testBit k&&q k:=QC λk c=>f k (Pf.mp c);have e:(List.range 8).filter b.testBit=(List.range 8).filter λk=>s.testBit k&& !q k:=QC λk c=>g k (Pf.mp c);rw[d,e]
theorem fb{n s:Nat}(k:Nat):(aw (2^n-1) s).testBit k=(decide (k<n)&& !s.testBit k):=by rw[aI,PY]
theorem bF{n s k:Nat}(b:s<2^n)(h:s.testBit k=true):k<n:=by refine RM λa=> ?_;rw[Qk (Pg b (PJ () a))]at h;cases h
theorem oZ(e:n<=8)(d:s<2^n):sz s+sz (aw (2^n-1) s)=n:=by
 have h:=lO (s:=2^n-1) (a:=s) (b:=aw (2^n-1) s) s.testBit (λk _=> ?_) λk _=> ?_
 .rw[h];exact Ce n ()
 .rw[PY];cases c:s.testBit k with
  |false=>rw[Qw]
  |true=>rw[Pe (bF d c)];rfl
 .rw[fb,PY]
def ir(n:Nat)(r:Nat->Nat)(s:Nat):Nat:=sz s+r (aw (2^n-1) s) -r (2^n-1)
namespace Mat
variable{n:Nat}{r:Nat->Nat}(M:Mat n r)
include M
theorem LQ(a:s<2^n):r (2^n-1)<=sz s+r (aw (2^n-1) s):=by have hl:aw (2^n-1) s<2^n:=Px (iQ _ _) (aH n);have h:=M.yR (bD hl) (aH n);have b:=oZ M.n8 a;have c:=Ce n (by have:=M.n8;lia);lia
theorem dD(a:s<2^n):((ir n r s:Nat):Int)=(sz s:Int)+(r (aw (2^n-1) s):Nat) - (r (2^n-1):Nat):=by have:=M.LQ a;unfold ir;lia
end Mat
end Bh
namespace Bh
theorem cx{s h t:Nat}:(aT s h).testBit t=true↔∃j,(bits h)[j]?=some (t:Int)/\s.testBit j=true:=by
 unfold aT;rw[lV λz c=>(jV z c).1,nH];constructor
 .rintro⟨j,b,a⟩;exact#[j,b,by rwa[RE]at a]
 .rintro⟨j,b,a⟩;exact#[j,b,by rw[RE];exact a]
theorem LX{h t:Nat}(b:h<256)(a:h.testBit t=true):∃j:Nat,(bits h)[j]?=some (t:Int):=by
 have d:t<8:=by refine RM λc=> ?_;rw[Qk (Pg (show h<2^8 from b) (PJ () c))]at a;cases a
 exact Qm (cQ.mpr #[t,d,a,2])
theorem J8{h j t:Nat}(b:(bits h)[j]?=some (t:Int)):h.testBit t=true:=by
 obtain⟨k,_,a,e⟩:=cQ.mp (Pq b);have:t=k:=()
 rw[this];exact a
theorem fq(s h:Nat):Sub (aT s h) h:=λt b=>by obtain⟨j,a,_⟩:=cx.mp b;exact J8 a
theorem J5{k s:Nat}(h:Sub k s):bits k=(bits s).filter λz=>k.testBit z.toNat:=by
 unfold bits;rw[R3,RF];congr 1;refine QC λt _=> ?_;show k.testBit t=(k.testBit ((t:Nat):Int).toNat&&s.testBit t);rw[Pj];cases a:k.testBit t with
 |false=>rfl
 |true=>rw[h t a];rfl
theorem Bc(s:Nat):(bits s).length=sz s:=rfl
theorem Fn(d:(bits h).length<=j):(ig s h).testBit j=false:=by
 cases e:(ig s h).testBit j with
 |false=>rfl
 |true=>
  unfold ig at e;rw[lV (λz b=>(oN (aW h) z b).1),mF]at e;obtain⟨i,y,a,_,c⟩:=e;have:=(Pn.mp a).1;lia
theorem Dq(k s:Nat):bits (ig k s)=idxs (λ_ z=>k.testBit z.toNat) 0 (bits s):=by
 rw[Bi (q:=λz=>k.testBit z.toNat) 0];have hl:(bits s).length<=8:=aW s;unfold bits;have e:(List.range 8).filter (ig k s).testBit=(List.range (bits s).length).filter λj=>k.testBit ((bits s).getD j 0).toNat:=by
  have a:∀d,(bits s).length+d<=8->(List.range ((bits s).length+d)).filter (ig k s).testBit=(List.range (bits s).length).filter (ig k s).testBit:=by
   intro d
   induction d with
   |zero=>intro _;rfl
   |succ d h=>
    intro i;rw[show(bits s).length+(d+1)=(bits s).length+d+1 from rfl,RQ,RY,h (),List.filter_cons_of_neg (by rw[Fn ()];exact PQ)];simp
  have g:=a (8- (bits s).length) ();rw[show(bits s).length+(8- (bits s).length)=8 by lia]at g;rw[g];refine QC λj b=> ?_;have c:=Pf.mp b;have f:(bits s)[j]?=some ((bits s).getD j 0):=by simp[c]
  exact Fo f
 show((List.range 8).filter (ig k s).testBit).map _=_;rw[e];refine Qt λj _=> ?_;show(j:Int)=((0+j:Nat):Int);rw[RE]
theorem uK:∀(a:List Int)(i:Nat),(idxs (λ_ z=>q z) i a).length=(a.filter q).length
 | [],_=>rfl
 |x::r,i=>by
  rw[idxs,QQ];split
  .rw[PM,PM,uK r (i+1)]
  .exact uK r (i+1)
theorem He(h:Sub k s):sz (ig k s)=sz k:=by rw[<-Bc,Dq,uK,<-Bc,J5 h]
theorem GH:∀n:Nat,n<9->bits (2^n-1)=(List.range n).map λj:Nat=>(j:Int):=#[9]
def cJ(r:Nat->Nat)(k w:Nat)(s:Nat):Nat:=r (aT s k|||w) -r w
theorem Mat.min_int(M:Mat n r)(c:k<2^n)(d:w<2^n)(s:Nat):((cJ r k w s:Nat):Int)=(r (aT s k|||w):Nat) - (r w:Nat):=by
 have a:aT s k|||w<2^n:=QB ((fq s k).lt c) d;have b:Sub w (aT s k|||w):=λt h=>by rw[PN,h,Ua]
 have:=M.mono b a;unfold cJ;lia
theorem sM{s k:Nat}(h:s.testBit k=true):s|||2^k=s:=PC λj=>by
 rw[a9];by_cases e:k=j
 .subst e;rw[h];rfl
 .rw[Pc e,Ry]
theorem CB(s k:Nat):s|||2^k|||2^k=s|||2^k:=by rw[Rn,Nat.or_self]
theorem Ec(s j k:Nat):s|||2^j|||2^k=s|||2^k|||2^j:=by rw[Rn,R7 (2^j),<-Rn]
theorem kL(b:s<2^n)(a:k<n):s|||2^k<2^n:=QB b (RR () a)
theorem sQ{n s k:Nat}(a:k<n)(h:s.testBit k=false):aw (2^n-1) (s|||2^k)|||2^k=aw (2^n-1) s:=PC λj=>by
 rw[a9,fb,fb,a9];by_cases e:k=j
 .subst e;rw[h,Pe a,Pe rfl];rfl
 .rw[Pc e,Ry,Ry]
theorem nK(n:Nat):aw (2^n-1) 0=2^n-1:=PC λj=>by rw[fb,P4,PY];simp
theorem gp{s k:Nat}(b:s<256)(a:k<8)(h:s.testBit k=false):sz (s|||2^k)=sz s+1:=eU s b k a h
theorem uC:aw (2^n-1) s<2^n:=Px (iQ _ _) (by have:0<2^n:=Q9 ();lia)
theorem sz0:sz 0=0:=∅
theorem Mat.dual(M:Mat n r):Mat n (ir n r):=by
 have J:=M.n8;refine#[J,6,λs k b a=> ?_,λs j k b c a i B=> ?_]
 .unfold ir;rw[nK,sz0];lia
 .by_cases l:s.testBit k=true
  .rw[sM l];lia
  .have m:s.testBit k=false:=#[5,l]
   have L:=M.dD b;have y:=M.dD (kL b a);have z:=sQ a m;have A:=(M.step (aw (2^n-1) (s|||2^k)) k uC a);rw[z]at A;rw[gp (M.aV b) () m]at y;lia
 .by_cases o:s.testBit j=true
  .rw[sM o];exact B
  by_cases q:s.testBit k=true
  .rw[Ec,sM q];exact i
  by_cases f:j=k
  .subst f;rw[CB];exact i
  have g:s.testBit j=false:=#[5,o]
  have t:s.testBit k=false:=#[5,q]
  have G:(s|||2^k).testBit j=false:=by rw[a9,g,Pc (λe=>f e.symm)];rfl
  have p:(s|||2^j).testBit k=false:=by rw[a9,t,Pc f];rfl
  have h:=kL b c;have lk:=kL b a;have H:=kL h a;have v:=M.dD b;have w:=M.dD h;have x:=M.dD lk;have K:=M.dD H;have N:=gp (M.aV b) (show j<8 by lia) g;have O:=gp (M.aV b) (show k<8 by lia) t;have Q:=gp (M.aV h) (show k<8 by lia) p;have u1:=sQ (n:=n) a p;have u2:=sQ (n:=n) c G;rw[<-Ec s j k]at u2;have u3:=sQ (n:=n) c g;have d:aw (2^n-1) (s|||2^j|||2^k)<2^n:=uC;generalize aw (2^n-1) (s|||2^j|||2^k)=u at*;rw[<-u3,<-u1]at v;rw[<-u1]at w;rw[<-u2]at x;have sub:=M.sub u k j d a c;have U:=M.step u j d c;have ag:=M.step u k d a;have ai:=M.step (u|||2^k) j (kL d a) c;lia
theorem nr{k i:Nat}(f:i<sz k):∃t,k.testBit t=true/\∀s,aT (s|||2^i) k=aT s k|||2^t:=by
 have g:i<(bits k).length:=f;have c:(bits k)[i]?=some (bits k)[i]:=PF g;generalize (bits k)[i]=z at c;obtain⟨t,_,d,rfl⟩:=cQ.mp (Pq c);refine#[t,d,λs=>PC λj=> ?_];rw[Q8,cx,a9,P0,cx];constructor
 .rintro⟨m,b,a⟩;rw[a9,P0]at a;rcases a with a|a
  .exact .inl #[m,b,a]
  .have e:=PH a;subst e;rw[c]at b;have:=Qq b;exact .inr (Pe ())
 .rintro(⟨m,b,a⟩|h)
  .exact#[m,b,by rw[a9,a];rfl]
  .have e:=PH h;subst e;exact#[i,c,by rw[a9,Pe rfl,Ua]]
theorem iX(k:Nat):aT 0 k=0:=PC λt=>by
 rw[P4];cases h:(aT 0 k).testBit t with
 |false=>rfl
 |true=>
  obtain⟨j,_,a⟩:=cx.mp h;rw[P4]at a;cases a
theorem uj(a b w:Nat):a|||b|||w=a|||w|||b:=by rw[Rn,R7 b w,<-Rn]
theorem Mat.minor(M:Mat n r)(a:k<2^n)(b:w<2^n):Mat (sz k) (cJ r k w):=by
 have m:∀s,aT s k|||w<2^n:=λs=>QB ((fq s k).lt a) b;refine#[aW k,6,λs i v d=> ?_,λs i j v d q z A=> ?_]
 .unfold cJ;rw[iX,So];lia
 .obtain⟨t,f,e⟩:=nr d;have g:=bF a f;have h:=M.min_int a b s;have c:=M.min_int a b (s|||2^i);rw[e,uj]at c;have:=M.step _ t (m s) g;lia
 .obtain⟨t,f,e⟩:=nr d;obtain⟨u,x,l⟩:=nr q;have g:=bF a f;have un:=bF a x;have y:=M.min_int a b s;have h:=M.min_int a b (s|||2^i);have c:=M.min_int a b (s|||2^j);have o:=M.min_int a b (s|||2^i|||2^j);rw[e,uj]at h;rw[l,uj]at c;have p:aT (s|||2^i|||2^j) k|||w=aT s k|||w|||2^t|||2^u:=by rw[l,e,uj _ (2^u) w,uj _ (2^t) w]
  rw[p]at o;have:=M.sub _ t u (m s) g un () ();lia
theorem Ae(g:k<256):aT (aw (2^sz k-1) s) k=aw k (aT s k):=PC λt=>by
 rw[Q8,cx,aI,PX,QY];constructor
 .rintro⟨j,b,a⟩;rw[fb,PX,QY]at a;refine#[J8 b,6];cases h:(aT s k).testBit t with
  |false=>rfl
  |true=>
   obtain⟨m,e,d⟩:=cx.mp h;rw[BC e b,a.2]at d;cases d
 .rintro⟨b,a⟩;obtain⟨j,c⟩:=LX g b;refine#[j,c,6];have f:j<sz k:=(Pn.mp c).1;rw[fb,Pe f,Qy,QY];cases h:s.testBit j with
  |false=>rfl
  |true=>rw[cx.mpr #[j,c,h]]at a;cases a
theorem tx{a b:Nat}(h:∀t,a.testBit t=true->b.testBit t=true->False):sz (a|||b)=sz a+sz b:=by
 refine(lO (s:=a|||b) (a:=a) (b:=b) a.testBit (λk _=> ?_) λk _=> ?_).symm
 .rw[PN];cases a.testBit k<;>simp
 .rw[PN];have:=h k;cases c:a.testBit k<;>cases d:b.testBit k<;>simp_all
theorem oz(a:k<256):aT (2^sz k-1) k=k:=by have h:=Ae (k:=k) (s:=0) a;rw[nK,iX]at h;rw[h];exact PC λt=>by rw[aI,P4];simp
theorem v9(b:s<2^sz k):sz (aT s k)=sz s:=by have h:=yr (s:=s) (h:=k) b;have a:=He (fq s k);rw[h]at a;exact a.symm
theorem cZ{s k:Nat}(h:s.testBit k=true):Sub (s^^^2^k) s:=λj a=>by rw[c6 h,PX]at a;exact a.1
theorem fR{s k:Nat}(h:s.testBit k=true):(s^^^2^k)|||2^k=s:=PC λj=>by
 rw[a9,c6 h];by_cases e:k=j
 .subst e;rw[h];simp
 .rw[Pc e];simp
theorem Hi(s t:Nat):Sub t (s|||t):=λj h=>by rw[PN,h,Ua]
theorem Ls{s t:Nat}(h:¬Sub s t):∃k,s.testBit k=true/\t.testBit k=false:=by
 refine PU λb=>h λk a=> ?_;cases e:t.testBit k with
 |true=>rfl
 |false=>exact absurd #[k,a,e] b
theorem Hk{s t k:Nat}(h:Sub s t)(b:s.testBit k=false)(c:t.testBit k=true):Sub s (t^^^2^k):=λj a=>by
 rw[c6 c,h j a];by_cases e:k=j
 .subst e;rw[b]at a;cases a
 .rw[Pc e];rfl
def B9(n:Nat)(r:Nat->Nat)(b:Nat):Prop:=b<2^n/\r b=sz b/\r b=r (2^n-1)
namespace Mat
variable{n:Nat}{r:Nat->Nat}(M:Mat n r)
include M
theorem jr{s k:Nat}(b:s<2^n)(a:s.testBit k=true):s^^^2^k<2^n:=(cZ a).lt b
theorem iV{s k:Nat}(b:s<2^n)(a:s.testBit k=true):sz (s^^^2^k)+1=sz s:=
 gh s (M.aV b) k (Pg (bF b a) M.n8) a
theorem exch{b c k:Nat}(a:B9 n r b)(g:B9 n r c)(h:b.testBit k=true)(m:c.testBit k=false):
  ∃y,c.testBit y=true/\b.testBit y=false/\B9 n r ((b^^^2^k)|||2^y):=by
 have d:=M.jr a.1 h;have v:r (b^^^2^k)=sz (b^^^2^k):=M.jN (cZ h) a.1 a.2.1;have w:=M.iV a.1 h;refine PU λq=> ?_;have all:∀y,c.testBit y=true->r ((b^^^2^k)|||2^y)=r (b^^^2^k):=λy j=>by
  refine PU λi=>q #[y,j,66]
  .cases e:b.testBit y with
   |false=>rfl
   |true=>
    refine absurd ?_ i;rw[ip];rw[c6 h,e];by_cases f:k=y
    .subst f;rw[j]at m;cases m
    .rw[Pc f];rfl
  .have l:=bF g.1 j;have st:=M.step _ y d l;have p:(b^^^2^k).testBit y=false:=by
    cases e:(b^^^2^k).testBit y with
    |false=>rfl
    |true=>rw[ip e]at i;exact absurd rfl i
   have x:=eU _ (M.aV d) y (Pg l M.n8) p;have o:=a.2.1;have f:=a.2.2;exact#[aM d l,99]
 have t:=M.closed d g.1 all;have u:=M.mono (Hi (b^^^2^k) c) (QB d g.1);have o:=a.2.1;have f:=a.2.2;have s:=g.2.2;lia
end Mat
end Bh
namespace Bh
def dW(n k:Nat):List Nat:=(List.range (2^n)).filter λs=>decide (sz s=k)
def dg(n:Nat)(r:Nat->Nat)(m k:Nat):Bool:=decide (n=m)&&decide (r (2^n-1)=k)&&(dW n k).all λs=>decide (r s=k)
def iH(n:Nat)(r:Nat->Nat):List Nat:=(dW n 3).filter λs=>decide (r s<sz s)
def cc(n:Nat)(r:Nat->Nat):Bool:=decide (n=7)&&decide (r (2^n-1)=3)&&(dW n 2).all λp=>decide (((iH n r).filter λt=>decide (p&&&t=p)).length=1)
def iC(n:Nat)(r:Nat->Nat)(s:Nat):Nat:=sz s+r (aw (2^n-1) s) -r (2^n-1)
def bZ(n:Nat)(r:Nat->Nat):List Nat:=(List.range (2^n)).filter λs=>decide (r s=sz s)&&decide (r s=r (2^n-1))
def ji(told:List Nat):List Nat:=(List.range 128).filter λs=>decide (sz s=3)&& !decide (s∈told)
def ft(told:List Nat):Bool:=decide (told.length=28)&&(decide ((ji told).length=7)&&(List.range 7).all λj=>(List.range j).all λk=>decide (((ji told).filter λt=>t.testBit j&&t.testBit k).length=1))
structure Dv(n:Nat)(r:Nat->Nat):Prop where
 le:∀s,s<2^n->r s<=sz s
 mono:∀s t,s<2^n->t<2^n->s&&&t=s->r s<=r t
 unit:∀s,s<2^n->r (2^n-1)<=r (aw (2^n-1) s)+sz s
theorem mQ{b:Type}{p:b->Bool}:∀l:List b,(l.filter p).length=l.length↔l.all p=true
 | []=>by simp
 |a::l=>by
  have c:=mQ (p:=p) l;have hl:=QU p l;rw[QQ,TZ];by_cases h:p a=true
  .rw[Pd h,PM,PM,h,Qy,<-c];lia
  .rw[Pb h,PM,Rc.mpr h,Qv];constructor
   .intro e;lia
   .intro e;cases e
theorem qA(h:r (2^n-1)=k):bZ n r=(dW n k).filter λs=>decide (r s=k):=by
 unfold bZ dW;rw[RF];refine QC λs _=> ?_;rw[h];by_cases a:r s=k
 .rw[a];simp only[decide_true,Bool.and_true,Qy];exact Q1.mpr #[λe=>e.symm,λe=>e.symm]
 .rw[Pc a,Qw,Qv]
theorem yX(r:Nat->Nat):dg n r m k=(decide (n=m)&&(decide (r (2^n-1)=k)&&decide ((bZ n r).length=(dW m k).length))):=by
 unfold dg;rw[Bool.and_assoc];by_cases b:n=m
 .subst b;by_cases c:r (2^n-1)=k
  .rw[qA c];congr 2;have:=mQ (p:=λs=>decide (r s=k)) (dW n k);by_cases a:(dW n k).all (λs=>decide (r s=k))=true
   .rw[a,Pe (this.mpr a)]
   .rw[Rc.mpr a,Pc λe=>a (this.mp e)]
  .rw[Pc c,Qv,Qv]
 .rw[Pc b,Qv,Qv]
theorem wL(R:Nat->Bool):∀L:List Nat,(L.map λl=>if R l=true then 1 else 0).sum=(L.filter R).length
 | []=>rfl
 |a::L=>by
  rw[Qb,Si,wL R L,QQ];by_cases h:R a=true
  .rw[Pd h,Pd h,PM];lia
  .rw[Pb h,Pb h];lia
theorem DE(f g:Nat->Nat):∀L:List Nat,(L.map λl=>f l+g l).sum=(L.map f).sum+(L.map g).sum
 | []=>rfl
 |a::L=>by rw[Qb,Si,Qb,Si,Qb,Si,DE f g L];lia
theorem zV(R:Nat->Nat->Bool)(L:List Nat):∀P:List Nat,(P.map λp=>(L.filter (R p)).length).sum=(L.map λl=>(P.filter λp=>R p l).length).sum
 | []=>by
  have:∀L:List Nat,(L.map λl=>(([]:List Nat).filter λp=>R p l).length).sum=0:=λL=>by
   induction L with
   |nil=>rfl
   |cons a L b=>rw[Qb,Si,b];rfl
  rw[this];rfl
 |p::P=>by
  rw[Qb,Si,zV R L P,<-wL (R p) L,<-DE];congr 1;refine Qt λl _=> ?_;rw[QQ];by_cases h:R p l=true
  .rw[Pd h,Pd h,PM];lia
  .rw[Pb h,Pb h];lia
theorem qD(f:Nat->Nat):∀L:List Nat,(∀l∈L,f l=c)->(L.map f).sum=c*L.length
 | [],_=>rfl
 |a::L,h=>by rw[Qb,Si,h a Pt,qD f L (λl hl=>h l (Po _ hl)),PM,Nat.mul_succ];lia
theorem Fx:((List.range 128).all λp=> !(decide (sz p=2))||(List.range 7).any λj=>(List.range j).any λk=>decide (p=2^j|||2^k))=true:=#[9]
theorem Lh:((List.range 7).all λj=>(List.range j).all λk=>decide (2^j|||2^k<128)&&decide (sz (2^j|||2^k)=2))=true:=#[9]
theorem AN:((List.range 7).all λj=>(List.range j).all λk=>(List.range 128).all λt=>decide ((2^j|||2^k)&&&t=2^j|||2^k)==(t.testBit j&&t.testBit k))=true:=#[9]
theorem CU:((List.range 128).all λt=> !(decide (sz t=3))||decide (((dW 7 2).filter λp=>decide (p&&&t=p)).length=3))=true:=#[9]
theorem mW:(dW 4 2).length=6/\(dW 5 2).length=10/\(dW 5 3).length=10/\(dW 7 3).length=35/\(dW 7 2).length=21:=#[9]
theorem iP:s∈dW n k↔s<2^n/\sz s=k:=by unfold dW;rw[PV,Pf,PD]
theorem mP{b:Type}(p:b->Bool):∀l:List b,(l.filter p).length+(l.filter λx=> !p x).length=l.length
 | []=>rfl
 |a::l=>by
  have c:=mP p l;rw[QQ,QQ,PM];by_cases h:p a=true
  .rw[Pd h,Pb (by rw[h];decide),PM];lia
  .rw[Pb h,Pd (by rw[Rc.mpr h];rfl),PM];lia
theorem Ar{told:List Nat}(q:∀s,s<128->(s∈told↔sz s=3/\f s=true))(hl:told.length=((dW 7 3).filter f).length):
  ft told=(dW 7 2).all λp=>decide (((((dW 7 3).filter λs=> !f s)).filter λt=>decide (p&&&t=p)).length=1):=by
 have v:ji told=(dW 7 3).filter λs=> !f s:=by
  unfold ji dW;rw[RF];refine QC λs G=> ?_;have r:=Pf.mp G;by_cases g:sz s=3
  .rw[Pe g,Qy,Bool.and_true];by_cases d:f s=true
   .rw[d,Pe ((q s r).mpr #[g,d])]
   .rw[Rc.mpr d,Pc λz=>d ((q s r).mp z).2]
  .rw[Pc g,Qv,Qw]
 unfold ft;rw[v];generalize o:((dW 7 3).filter λs=> !f s)=L;have u:∀t∈L,t<128/\sz t=3:=λt c=>by rw[<-o]at c;exact iP.mp (PV.mp c).1
 have H:told.length+L.length=35:=by rw[hl,<-o,mP,mW.2.2.2.1]
 have K:=zV (λp t=>decide (p&&&t=p)) L (dW 7 2);have J:(L.map λl=>((dW 7 2).filter λp=>decide (p&&&l=p)).length).sum=3*L.length:=qD _ L λt c=>by obtain⟨w,x⟩:=u t c;have:=P9.mp CU t (Pf.mpr w);rw[Pe x]at this;simpa using this
 have flt:∀j,j<7->∀k,k<j->(L.filter λt=>t.testBit j&&t.testBit k)=L.filter λt=>decide ((2^j|||2^k)&&&t=2^j|||2^k):=λj a k b=>QC λt c=>by have:=P9.mp (P9.mp (P9.mp AN j (Pf.mpr a)) k (Pf.mpr b)) t (Pf.mpr (u t c).1);exact(by simpa using this:decide ((2^j|||2^k)&&&t=2^j|||2^k)=(t.testBit j&&t.testBit k)).symm
 rw[Q8];constructor
 .intro h;rw[PX,PX]at h;refine P9.mpr λp n=> ?_;obtain⟨p1,p2⟩:=iP.mp n;have:=P9.mp Fx p (Pf.mpr p1);rw[Pe p2]at this;obtain⟨j,a,A⟩:=RV.mp (by simpa using this:((List.range 7).any λj=>(List.range j).any λk=>decide (p=2^j|||2^k))=true);obtain⟨k,b,B⟩:=RV.mp A;have e:=PH B;have i:=Pf.mp a;have m:=Pf.mp b;have:=P9.mp (P9.mp h.2.2 j a) k b;rwa[flt j i k m,<-e]at this
 .intro h;have one:((dW 7 2).map λp=>(L.filter λt=>decide (p&&&t=p)).length).sum=1*(dW 7 2).length:=qD _ _ λp n=>PH (P9.mp h p n);rw[mW.2.2.2.2]at one;have y:L.length=7:=()
  rw[Pe (show told.length=28 by lia),Pe y,Qy,Qy];refine P9.mpr λj a=>P9.mpr λk b=> ?_;have i:=Pf.mp a;have m:=Pf.mp b;have:=P9.mp (P9.mp Lh j a) k b;rw[PX,PD,PD]at this;rw[flt j i k m];exact P9.mp h _ (iP.mpr this)
theorem E5(h:Dv 7 r)(b:r 127=3):ft (bZ 7 r)=cc 7 r:=by
 have e:=qA (n:=7) (r:=r) (k:=3) b;rw[Ar (f:=λs=>decide (r s=3)) (λs a=> ?_) (by rw[e])]
 .unfold cc;rw[Pe rfl,Pe (show r (2^7-1)=3 from b),Qy,Qy];have d:((dW 7 3).filter λs=> !decide (r s=3))=iH 7 r:=by
   unfold iH;refine QC λs a=> ?_;obtain⟨g,i⟩:=iP.mp a;have:=h.le s g;rw[i]at this⊢;by_cases c:r s=3
   .rw[c];rfl
   .rw[Pc c,Pe (show r s<3 by lia)];rfl
  rw[d]
 .rw[e,PV,iP,PD];exact#[λz=>#[z.1.2,z.2],λz=>#[#[a,z.1],z.2]]
theorem sR:∀s:Nat,s<128->aw 127 s=127-s/\sz (127-s)+sz s=7:=#[9]
theorem MS:(List.range 128).map (127- ·)=(List.range 128).reverse:=#[9]
theorem E3(h:Dv 7 r)(b:r 127=4):ft ((bZ 7 r).map (127- ·))=cc 7 (iC 7 r):=by
 have e:=qA (n:=7) (r:=r) (k:=4) b;have v:∀s,s<128->(s∈(bZ 7 r).map (127- ·)↔sz s=3/\decide (r (127-s)=4)=true):=λs a=>by
  rw[Pl,PD];have G:=(sR s a).2;constructor
  .rintro⟨t,d,rfl⟩;rw[e,PV,iP,PD]at d;have x:t<128:=d.1.1;have l2:=(sR t x).2;rw[show 127- (127-t)=t by lia];exact#[9,d.2]
  .rintro⟨g,c⟩;refine#[127-s,69];rw[e,PV,iP,PD];exact#[#[by show 127-s<128;lia,9],c]
 have q:((bZ 7 r).map (127- ·)).length=((dW 7 3).filter λs=>decide (r (127-s)=4)).length:=by
  have l:bZ 7 r=(List.range 128).filter ((λs=>decide (sz s=3)&&decide (r (127-s)=4))∘(127- ·)):=by rw[e];unfold dW;rw[RF];refine QC λs a=> ?_;have w:s<128:=Pf.mp a;have l2:=(sR s w).2;show _=(decide (sz (127-s)=3)&&decide (r (127- (127-s))=4));rw[show 127- (127-s)=s by lia,S7];congr 1;exact Q1.mpr #[λz=>(),λz=>()]
  rw[l,<-R3,MS,List.filter_reverse,List.length_reverse];unfold dW;rw[RF];congr 1;exact QC λs _=>S7 _ _
 rw[Ar (f:=λs=>decide (r (127-s)=4)) v q];unfold cc;have A:aw 127 127=0:=∅
 have y:r 0=0:=by have:=h.le 0 ∅;have B:sz 0=0:=∅;lia
 have j:iC 7 r (2^7-1)=3:=by
  unfold iC;show sz 127+r (aw 127 127) -r 127=3;have:sz 127=7:=∅
  rw[A,y,this,b]
 rw[Pe rfl,Pe j,Qy,Qy];have o:((dW 7 3).filter λs=> !decide (r (127-s)=4))=iH 7 (iC 7 r):=by
  unfold iH;refine QC λs a=> ?_;obtain⟨g,c⟩:=iP.mp a;have p:s<128:=g;have hl:=sR s p;have u:=h.mono (127-s) 127 (by show 127-s<128;lia) ∅ (by
   have:∀t:Nat,t<128->t&&&127=t:=#[9]
   exact this _ ())
  have m:iC 7 r s=sz s+r (127-s) -r 127:=by unfold iC;show sz s+r (aw 127 s) -r 127=_;rw[hl.1]
  rw[m,c,b];rw[b]at u;by_cases i:r (127-s)=4
  .rw[i];rfl
  .rw[Pc i,Pe (show 3+r (127-s) -4<3 by lia)];rfl
 rw[o]
theorem E4(h:Dv 7 r):cc 7 (iC 7 r)=true->r 127=4:=λe=>by
 unfold cc at e;rw[PX,PX,PD,PD]at e;have a:=e.1.2;unfold iC at a;have b:sz 127+r (aw 127 127) -r 127=3:=a;have d:aw 127 127=0:=∅
 have c:r 0=0:=by have:=h.le 0 ∅;have f:sz 0=0:=∅;lia
 have s7:sz 127=7:=∅
 have:=h.le 127 ∅;rw[d,c,s7]at b;lia
def kinds(n:Nat)(r:Nat->Nat):List Bool:=[decide (n=4)&&(decide (r (2^n-1)=2)&&decide ((bZ n r).length=6)),decide (n=5)&&(decide (r (2^n-1)=2)&&decide ((bZ n r).length=10)),decide (n=5)&&(decide (r (2^n-1)=3)&&decide ((bZ n r).length=10)),
 decide (n=7)&&(decide (r (2^n-1)=3)&&ft (bZ n r)),decide (n=7)&&(decide (r (2^n-1)=4)&&ft ((bZ n r).map (127- ·)))]
theorem Jy(h:Dv n r):kinds n r=[dg n r 4 2,dg n r 5 2,dg n r 5 3,cc n r,cc n (iC n r)]:=by
 unfold kinds;rw[yX,yX,yX,mW.1,mW.2.1,mW.2.2.1];by_cases b:n=7
 .subst b;have c:(decide (7=7)&&(decide (r (2^7-1)=3)&&ft (bZ 7 r)))=cc 7 r:=by
   by_cases e:r (2^7-1)=3
   .rw[E5 h e,Pe e];simp
   .unfold cc;rw[Pc e];simp
  have d:(decide (7=7)&&(decide (r (2^7-1)=4)&&ft ((bZ 7 r).map (127- ·))))=cc 7 (iC 7 r):=by
   by_cases a:r (2^7-1)=4
   .rw[E3 h a,Pe a];simp
   .rw[Pc a];have:cc 7 (iC 7 r)=false:=Rc.mpr λz=>a (E4 h z);rw[this];simp
  rw[c,d]
 .have c:cc n r=false:=by unfold cc;rw[Pc b];simp
  have d:cc n (iC n r)=false:=by unfold cc;rw[Pc b];simp
  rw[c,d,Pc b];simp
theorem uc(a:n<=8):decide (2^n=16)=decide (n=4)/\decide (2^n=32)=decide (n=5)/\decide (2^n=128)=decide (n=7):=by
 have:∀n:Nat,n<9->decide (2^n=16)=decide (n=4)/\decide (2^n=32)=decide (n=5)/\decide (2^n=128)=decide (n=7):=∅
 exact this n ()
abbrev Row:=Nat->Int
def sgn(i:Nat):Int:=if i % 2=0 then 1 else-1
theorem lU(i:Nat):sgn (i+1)= -sgn i:=by
 unfold sgn;rcases Nat.mod_two_eq_zero_or_one i with h|h
 .rw[Pb (),Pd h]
 .rw[Pd (),Pb ()];rfl
theorem MP(i:Nat):sgn i*sgn i=1:=by unfold sgn;split<;>rfl
def bh:Nat->(Nat->Int)->Int
 |0,_=>0
 |n+1,f=>bh n f+f n
theorem bc:∀ {n:Nat},(∀i,i<n->f i=g i)->bh n f=bh n g
 |0,_=>rfl
 |n+1,h=>by rw[bh,bh,bc λi a=>h i (),h n ()]
theorem lP(f g:Nat->Int):∀n,bh n (λi=>f i+g i)=bh n f+bh n g
 |0=>rfl
 |n+1=>by rw[bh,bh,bh,lP f g n];lia
theorem eD(a:Int)(f:Nat->Int):∀n,bh n (λi=>a*f i)=a*bh n f
 |0=>by show(0:Int)=a*0;lia
 |n+1=>by rw[bh,bh,eD a f n,RP]
theorem qE:∀ {n:Nat},(∀i,i<n->f i=0)->bh n f=0
 |0,_=>rfl
 |n+1,h=>by rw[bh,qE λi a=>h i (),h n ()];rfl
theorem ow(f:Nat->Int)(m:Nat):∀n,bh (m+n) f=bh m f+bh n λk=>f (m+k)
 |0=>by show bh m f=bh m f+0;lia
 |n+1=>by rw[<-Nat.add_assoc,bh,bh,ow f m n];lia
theorem kT(f:Nat->Int)(n:Nat):bh (n+1) f=f 0+bh n λk=>f (k+1):=by
 rw[SK,ow];have a:bh 1 f=f 0:=by show 0+f 0=f 0;lia
 rw[a];refine Qd (f 0+ ·) (bc λi _=>by rw[SK])
theorem qF(f:Nat->Nat->Int)(n:Nat):∀m,bh m (λi=>bh n (f i))=bh n λj=>bh m λi=>f i j
 |0=>(qE λ_ _=>rfl).symm
 |m+1=>by rw[bh,qF f n m,<-lP];rfl
def rw0:Row:=λ_=>0
def aK:List Row->List Nat->Int
 |_,[]=>1
 |R,c::cs=>bh R.length λi=>sgn i*(R.getD i rw0 c*aK (R.eraseIdx i) cs)
theorem ku{a:Type}{A B:List a}{d:a}(h:i<A.length):(A++B).getD i d=A.getD i d:=by rw[Ph,Ph,P1 h]
theorem fF{a:Type}{A B:List a}{d:a}(k:Nat):(A++B).getD (A.length+k) d=B.getD k d:=by rw[Ph,Ph,P2 (),Uj]
theorem uU{a:Type}{A B:List a}(h:i<A.length):(A++B).eraseIdx i=A.eraseIdx i++B:=List.eraseIdx_append_of_lt_length h B
theorem jj{a:Type}{A B:List a}(k:Nat):(A++B).eraseIdx (A.length+k)=A++B.eraseIdx k:=by rw[List.eraseIdx_append_of_length_le (),Uj]
theorem gD(A:List Row)(x:Row)(B:List Row)(c:Nat)(cs:List Nat):aK (A++x::B) (c::cs)=bh A.length (λi=>sgn i*(A.getD i rw0 c*aK (A.eraseIdx i++x::B) cs))+sgn A.length*(x c*aK (A++B) cs)+
  bh B.length λk=>sgn (A.length+1+k)*(B.getD k rw0 c*aK (A++x::B.eraseIdx k) cs):=by
 show bh (A++x::B).length _=_;rw[PK,PM,ow,kT,<-Int.add_assoc];refine congr (Qd _ (congr (Qd _ (bc λi a=> ?_)) ?_)) (bc λk b=> ?_)
 .rw[ku a,uU a]
 .show sgn (A.length+0)*((A++x::B).getD (A.length+0) rw0 c*aK ((A++x::B).eraseIdx (A.length+0)) cs)=_;rw[fF,jj];rfl
 .rw[fF,jj,show A.length+1+k=A.length+(k+1) by lia];rfl
theorem qp(a b:Int)(r p:Row):∀(cols:List Nat)(A B:List Row),cols≠[]->A.length+1+B.length=cols.length->aK (A++(λj=>a*r j+b*p j)::B) cols=a*aK (A++r::B) cols+b*aK (A++p::B) cols
 | [],_,_,h,_=>absurd rfl h
 |c::cs,A,B,_,hl=>by
  rw[gD,gD,gD];have e:bh A.length (λi=>sgn i*(A.getD i rw0 c*aK (A.eraseIdx i++(λj=>a*r j+b*p j)::B) cs))=a*bh A.length (λi=>sgn i*(A.getD i rw0 c*aK (A.eraseIdx i++r::B) cs))+b*bh A.length (λi=>sgn i*(A.getD i rw0 c*aK (A.eraseIdx i++p::B) cs)):=by
   rw[<-eD,<-eD,<-lP];refine bc λi l=> ?_;have d:(A.eraseIdx i).length+1+B.length=cs.length:=by rw[Ql l];simp at hl;lia
   rw[qp a b r p cs (A.eraseIdx i) B (λz=>by rw[z]at d;simp at d) d];generalize aK (A.eraseIdx i++r::B) cs=u;generalize aK (A.eraseIdx i++p::B) cs=v;generalize A.getD i rw0 c=w;generalize sgn i=s;simp only[RP,Q3]
  have f:bh B.length (λk=>sgn (A.length+1+k)*(B.getD k rw0 c*aK (A++(λj=>a*r j+b*p j)::B.eraseIdx k) cs))=a*bh B.length (λk=>sgn (A.length+1+k)*(B.getD k rw0 c*aK (A++r::B.eraseIdx k) cs))+b*bh B.length (λk=>sgn (A.length+1+k)*(B.getD k rw0 c*aK (A++p::B.eraseIdx k) cs)):=by
   rw[<-eD,<-eD,<-lP];refine bc λk m=> ?_;have d:A.length+1+(B.eraseIdx k).length=cs.length:=by rw[Ql m];simp at hl;lia
   rw[qp a b r p cs A (B.eraseIdx k) (λz=>by rw[z]at d;simp at d) d];generalize aK (A++r::B.eraseIdx k) cs=u;generalize aK (A++p::B.eraseIdx k) cs=v;generalize B.getD k rw0 c=w;generalize sgn (A.length+1+k)=s;simp only[RP,Q3]
  have g:sgn A.length*((λj=>a*r j+b*p j) c*aK (A++B) cs)=a*(sgn A.length*(r c*aK (A++B) cs))+b*(sgn A.length*(p c*aK (A++B) cs)):=by show sgn A.length*((a*r c+b*p c)*aK (A++B) cs)=_;generalize aK (A++B) cs=u;generalize sgn A.length=s;rw[Int.add_mul,RP];simp only[Qf,Q3]
  rw[e,f,g];simp only[RP];lia
theorem wI(a:Int)(r:Row)(cols:List Nat)(A B:List Row)(hl:A.length+1+B.length=cols.length):aK (A++(λj=>a*r j)::B) cols=a*aK (A++r::B) cols:=by have h:=qp a 0 r r cols A B (λz=>by rw[z]at hl;simp at hl) hl;rw[Ro,RS]at h;rw[<-h];refine Qd (λz=>aK (A++z::B) cols) (funext λj=> ?_);rw[Ro,RS]
theorem mR(x y:Row):∀(cols:List Nat)(A B:List Row),A.length+2+B.length=cols.length->aK (A++x::y::B) cols= -aK (A++y::x::B) cols
 | [],A,B,hl=>by simp at hl
 |c::cs,A,B,hl=>by
  rw[gD A x (y::B),gD A y (x::B)];have e:bh A.length (λi=>sgn i*(A.getD i rw0 c*aK (A.eraseIdx i++x::y::B) cs))= -bh A.length (λi=>sgn i*(A.getD i rw0 c*aK (A.eraseIdx i++y::x::B) cs)):=by
   have:∀z:Int,-z=(-1)*z:=λz=>()
   rw[this,<-eD];refine bc λi a=> ?_;have b:(A.eraseIdx i).length+2+B.length=cs.length:=by rw[Ql a];simp at hl;lia
   rw[mR x y cs (A.eraseIdx i) B b,SD,SD,<-this]
  have d:∀u v:Row,bh (v::B).length (λk=>sgn (A.length+1+k)*((v::B).getD k rw0 c*aK (A++u::(v::B).eraseIdx k) cs))=sgn (A.length+1)*(v c*aK (A++u::B) cs)+bh B.length (λk=>sgn (A.length+2+k)*(B.getD k rw0 c*aK (A++u::v::B.eraseIdx k) cs)):=λu v=>by rw[PM,kT];refine Qd (λz=>sgn (A.length+1)*(v c*aK (A++u::B) cs)+z) (bc λk _=> ?_);rw[show A.length+1+(k+1)=A.length+2+k by lia];rfl
  have f:bh B.length (λk=>sgn (A.length+2+k)*(B.getD k rw0 c*aK (A++x::y::B.eraseIdx k) cs))= -bh B.length (λk=>sgn (A.length+2+k)*(B.getD k rw0 c*aK (A++y::x::B.eraseIdx k) cs)):=by
   have:∀z:Int,-z=(-1)*z:=λz=>()
   rw[this,<-eD];refine bc λi a=> ?_;have b:A.length+2+(B.eraseIdx i).length=cs.length:=by rw[Ql a];simp at hl;lia
   rw[mR x y cs A (B.eraseIdx i) b,SD,SD,<-this]
  rw[e,d,d,f,lU,Rq,Rq];lia
theorem mU(x:Row)(cols:List Nat):∀(A b B:List Row),b.length+A.length+1+B.length=cols.length->aK (b++(A++x::B)) cols=sgn A.length*aK (b++x::(A++B)) cols
 | [],b,B,_=>by show _=1*_;rw[QJ];rfl
 |a::A,b,B,hl=>by have h:=mU x cols A (b++[a]) B (by simp at hl⊢;lia);rw[Q2,Q2]at h;have c:=mR a x cols b (A++B) (by simp at hl⊢;lia);show aK (b++([a]++(A++x::B))) cols=_;rw[h];show sgn A.length*aK (b++a::x::(A++B)) cols=_;rw[c,PM,lU,SD,Rq];rfl
theorem Bq(p:Row)(cols:List Nat)(A B:List Row)(hl:A.length+2+B.length=cols.length):aK (p::(A++p::B)) cols=0:=by
 have h:=mU p cols A [p] B (by simp;lia);have a:=mR p p cols [] (A++B) (by simp;lia);have b:aK (p::p::(A++B)) cols=0:=by have:aK (p::p::(A++B)) cols= -aK (p::p::(A++B)) cols:=a;lia
 have c:aK (p::(A++p::B)) cols=sgn A.length*aK (p::p::(A++B)) cols:=h;rw[c,b,Rp]
theorem wK(p:Row)(a:Int)(b:Row->Int)(cols:List Nat):∀(S c:List Row),c.length+1+S.length=cols.length->
  aK (p::(c++S.map λr j=>a*r j+b r*p j)) cols=a^S.length*aK (p::(c++S)) cols
 | [],c,_=>by rw[Su,Uo,Ub,QJ]
 |r::S,c,hl=>by have h:=wK p a b cols S (c++[λj=>a*r j+b r*p j]) (by simp at hl⊢;lia);rw[Q2,Q2]at h;rw[Qb];show aK (p::(c++([λj=>a*r j+b r*p j]++S.map λr j=>a*r j+b r*p j))) cols=_;rw[h];show a^S.length*aK ((p::c)++(λj=>a*r j+b r*p j)::S) cols=_;rw[qp a (b r) r p cols (p::c) S (λz=>by rw[z]at hl;simp at hl) (by simp at hl⊢;lia)];have d:aK ((p::c)++p::S) cols=0:=Bq p cols c S (by simp at hl;lia);rw[d,Rp,RS,PM,Tw,Qf];rfl
theorem uW(p:Row)(d:Int)(g:Row->Row)(cols:List Nat):∀(S a:List Row),a.length+1+S.length=cols.length->
  aK (p::(a++S.map λr j=>d*g r j)) cols=d^S.length*aK (p::(a++S.map g)) cols
 | [],a,_=>by rw[Su,Su,Uo,Ub,QJ]
 |r::S,a,hl=>by have h:=uW p d g cols S (a++[λj=>d*g r j]) (by simp at hl⊢;lia);rw[Q2,Q2]at h;rw[Qb,Qb];show aK (p::(a++([λj=>d*g r j]++S.map λr j=>d*g r j))) cols=_;rw[h];show d^S.length*aK ((p::a)++(λj=>d*g r j)::S.map g) cols=_;rw[wI d (g r) cols (p::a) (S.map g) (by simp at hl⊢;lia),PM,Tw,Qf];rfl
theorem wJ(p:Row)(B:List Row)(c:Nat)(cs:List Nat)(h:∀r∈B,r c=0):aK (p::B) (c::cs)=p c*aK B cs:=by
 have e:=gD [] p B c cs;have b:bh B.length (λk=>sgn (([]:List Row).length+1+k)*(B.getD k rw0 c*aK ([]++p::B.eraseIdx k) cs))=0:=qE λk a=>by
  have:B.getD k rw0 c=0:=by
   have d:B.getD k rw0=B[k]:=by simp[a]
   rw[d];exact h _ (QP a)
  rw[this,Ro,Rp]
 rw[b]at e;show aK ([]++p::B) (c::cs)=_;rw[e];show(0:Int)+1*(p c*aK B cs)+0=_;lia
theorem gE:∀(cols:List Nat)(R a:List Row),R.length=a.length->(∀i j,j∈cols->R.getD i rw0 j=a.getD i rw0 j)->aK R cols=aK a cols
 | [],_,_,_,_=>rfl
 |c::cs,R,a,hl,h=>by
  show bh R.length _=bh a.length _;rw[<-hl];refine bc λi e=> ?_;rw[h i c Pt,gE cs (R.eraseIdx i) (a.eraseIdx i) (by rw[Ql e,Ql (),hl]) λk j d=> ?_];rw[Ph,Ph,Sq,Sq];by_cases b:k<i
  .rw[Pd b,Pd b,<-Ph,<-Ph];exact h k j (Po _ d)
  .rw[Pb b,Pb b,<-Ph,<-Ph];exact h (k+1) j (Po _ d)
theorem vS(p:Row)(g h:Row->Row)(cols:List Nat)(S:List Row)(e:∀r∈S,∀j∈cols,g r j=h r j):aK (p::S.map g) cols=aK (p::S.map h) cols:=by
 refine gE cols _ _ #[5] λi j a=> ?_;cases i with
 |zero=>rfl
 |succ i=>
  rw[Ph,Ph,SU,SU,PB,PB];cases b:S[i]? with
  |none=>rfl
  |some r=>exact e r (Pq b) j a
theorem sV(p r:Row)(c j:Nat):aK [p,r] [c,j]=p c*r j-r c*p j:=by simp[aK,bh,sgn];lia
def rY(d:Int)(R:List Row)(cs:List Nat):Prop:=∀(S:List Row)(T:List Nat)(k:Nat),(∀r∈S,r∈R)->(∀t∈T,t∈cs)->S.length=k+1->T.length=k+1->d^k∣aK S T
theorem kO(R:List Row)(cs:List Nat):rY 1 R cs:=λS T k _ _ _ _=>by rw[Int.one_pow];exact Int.one_dvd _
def bV(d:Int)(p:Row)(c:Nat)(r:Row):Row:=λj=>(r j*p c-p j*r c).fdiv d
section
variable{d:Int}{R:List Row}{c:Nat}{cs:List Nat}{p:Row}
theorem jy(h:rY d R (c::cs))(f:d≠0)(i:p∈R)(l:r∈R)(g:j∈c::cs):d*bV d p c r j=r j*p c-p j*r c:=by
 have b:=h [p,r] [c,j] 1 (λx a=>by
  rcases Pk.mp a with rfl|a
  .exact i
  .rw[PR.mp a];exact l) (λx a=>by
  rcases Pk.mp a with rfl|a
  .exact Pt
  .rw[PR.mp a];exact g) rfl rfl
 rw[sV,Tw,Ub,QJ]at b;obtain⟨q,k⟩:=b;have e:r j*p c-p j*r c=d*q:=by rw[<-k,Qn (r j),Qn (p j)]
 unfold bV;rw[e,Int.mul_fdiv_cancel_left _ f]
theorem Ab(h:rY d R (c::cs))(b:d≠0)(m:p∈R){S:List Row}{T:List Nat}(l:∀r∈S,r∈R)(o:∀t∈T,t∈cs)(hl:S.length=T.length):d^S.length*(p c*aK (S.map (bV d p c)) T)=p c^S.length*aK (p::S) (c::T):=by
 have a:=wK p (p c) (λr=> -r c) (c::T) S [] (by simp;lia);have k:=uW p d (bV d p c) (c::T) S [] (by simp;lia);have n:=vS p (λr j=>d*bV d p c r j) (λr j=>p c*r j+(-r c)*p j) (c::T) S λr i j g=>by
  have q:j∈c::cs:=by
   rcases Pk.mp g with rfl|g
   .exact Pt
   .exact Po _ (o j g)
  rw[jy h b m (l r i) q,Rq,Qn (r j),Qn (p j)];lia
 have z:∀r∈S.map (bV d p c),r c=0:=λx s=>by
  obtain⟨r,i,rfl⟩:=Pl.mp s;have e:=jy h b m (l r i) Pt;rw[Qn (p c),QH]at e;rcases Tx.mp e with e|e
  .exact absurd e b
  .exact e
 have f:=wJ p (S.map (bV d p c)) c T z;rw[Rh]at a k;rw[Rh]at a k;rw[<-f,<-k,n,a]
theorem unmap{i j:Type}(f:i->j)(L:List i):∀S:List j,(∀x∈S,x∈L.map f)->∃g:List i,(∀x∈g,x∈L)/\S=g.map f
 | [],_=>#[[],(λ_ b=>nomatch b),2]
 |y::S,h=>by
  obtain⟨a,m,e⟩:=Pl.mp (h y Pt);obtain⟨g,l,k⟩:=unmap f L S λx b=>h x (Po _ b);refine#[a::g,λx b=> ?_,by rw[Qb,e,k]];rcases Pk.mp b with rfl|b
  .exact m
  .exact l x b
theorem Gh(h:rY d R (c::cs))(i:d≠0)(j:p∈R)(t:p c≠0){L:List Row}(f:∀r∈L,r∈R):rY (p c) (L.map (bV d p c)) cs:=by
 intro S T k s g l z;obtain⟨b,e,rfl⟩:=unmap _ L S s;rw[My]at l;have m:=Ab h i j (λr y=>f r (e r y)) g (show b.length=T.length by lia);obtain⟨q,w⟩:=h (p::b) (c::T) (k+1) (λx a=>by
  rcases Pk.mp a with rfl|a
  .exact j
  .exact f x (e x a)) (λx a=>by
  rcases Pk.mp a with rfl|a
  .exact Pt
  .exact Po _ (g x a)) (by simp;lia) (by simp;lia)
 rw[w,l]at m;refine#[q,6];have n:d^(k+1)≠0:=Int.pow_ne_zero i;have o:d^(k+1)*(p c*aK (b.map (bV d p c)) T)=d^(k+1)*(p c*(p c^k*q)):=by rw[m,Tw (p c)];generalize p c^k=u;generalize d^(k+1)=v;simp only[Qf,Q3,Qn]
 exact T3 t (T3 n o)
end
theorem Bt(r:Row):∀(cols:List Nat)(R:List Row),R.length+1=cols.length->aK (R++[r]) cols=bh cols.length λj=>sgn (cols.length-1-j)*(r (cols.getD j 0)*aK R (cols.eraseIdx j))
 | [],R,hl=>by simp at hl
 |c::cs,R,hl=>by
  have e:R.length=cs.length:=#[5,hl]
  rw[gD R r [] c cs,PM,kT,Q0];have a:bh ([]:List Row).length (λk=>sgn (R.length+1+k)*(([]:List Row).getD k rw0 c*aK (R++r::([]:List Row).eraseIdx k) cs))=0:=rfl;rw[a,RS,Int.add_comm];refine congr (Qd _ ?_) ?_
  .rw[e];rfl
  .have b:∀j,j<cs.length->sgn (cs.length+1-1- (j+1))*(r ((c::cs).getD (j+1) 0)*aK R ((c::cs).eraseIdx (j+1)))=bh R.length λi=>sgn i*(R.getD i rw0 c*(sgn (cs.length-1-j)*(r (cs.getD j 0)*aK (R.eraseIdx i) (cs.eraseIdx j)))):=λj f=>by show sgn (cs.length+1-1- (j+1))*(r (cs.getD j 0)*bh R.length λi=>sgn i*(R.getD i rw0 c*aK (R.eraseIdx i) (cs.eraseIdx j)))=_;rw[show cs.length+1-1- (j+1)=cs.length-1-j by lia,<-Qf,<-eD];refine bc λi _=> ?_;simp only[Qf,Q3]
   rw[bc b,<-qF (λi j=>sgn i*(R.getD i rw0 c*(sgn (cs.length-1-j)*(r (cs.getD j 0)*aK (R.eraseIdx i) (cs.eraseIdx j))))) cs.length R.length];refine bc λi d=> ?_;rw[Bt r cs (R.eraseIdx i) (by rw[Ql d];lia),<-Qf,<-eD];refine bc λj _=> ?_;rw[Qf]
theorem sW(r:Row):∀(cols:List Nat)(R:List Row),R.length+1=cols.length->aK (r::R) cols=bh cols.length λj=>sgn j*(r (cols.getD j 0)*aK R (cols.eraseIdx j))
 | [],R,hl=>by simp at hl
 |c::cs,R,hl=>by
  have h:R.length=cs.length:=#[5,hl]
  have sp:=gD [] r R c cs;rw[Rh]at sp;rw[sp,PM,kT];have d:bh ([]:List Row).length (λi=>sgn i*(([]:List Row).getD i rw0 c*aK (([]:List Row).eraseIdx i++r::R) cs))=0:=rfl;rw[d,QO];refine congr (Qd _ rfl) ?_;have e:∀j,j<cs.length->sgn (j+1)*(r ((c::cs).getD (j+1) 0)*aK R ((c::cs).eraseIdx (j+1)))=bh R.length λi=>sgn (i+1)*(R.getD i rw0 c*(sgn j*(r (cs.getD j 0)*aK (R.eraseIdx i) (cs.eraseIdx j)))):=λj g=>by show sgn (j+1)*(r (cs.getD j 0)*bh R.length λi=>sgn i*(R.getD i rw0 c*aK (R.eraseIdx i) (cs.eraseIdx j)))=_;rw[<-Qf,<-eD];refine bc λi _=> ?_;rw[lU,lU,Rq,Rq,Rq];refine Qd (λz:Int=> -z) ?_;generalize aK (R.eraseIdx i) (cs.eraseIdx j)=z;generalize R.getD i rw0 c=y;generalize sgn i=b;generalize sgn j=a;simp only[Qf,Q3,Qn]
  rw[bc e,<-qF (λi j=>sgn (i+1)*(R.getD i rw0 c*(sgn j*(r (cs.getD j 0)*aK (R.eraseIdx i) (cs.eraseIdx j))))) cs.length R.length];refine bc λi f=> ?_;show sgn (([]:List Row).length+1+i)*(R.getD i rw0 c*aK ([]++r::R.eraseIdx i) cs)=_;rw[Rh,sW r cs (R.eraseIdx i) (by rw[Ql f];lia),<-Qf,<-eD,show([]:List Row).length+1+i=i+1 by simp;lia];refine bc λj _=> ?_;rw[Qf]
theorem uS{b d:Type}(f:b->d)(l:List b)(j:Nat):(l.map f).eraseIdx j=(l.eraseIdx j).map f:=by
 induction l generalizing j with
 |nil=>rfl
 |cons a l c=>
  cases j with
  |zero=>rfl
  |succ j=>show f a::(l.map f).eraseIdx j=f a::(l.eraseIdx j).map f;rw[c]
theorem kQ(M:Nat->Nat->Int):∀(J I:List Nat),I.length=J.length->aK (I.map λi j=>M i j) J=aK (J.map λj i=>M i j) I
 | [],I,hl=>by have:I=[]:=SV.mp hl;subst this;rfl
 |c::cs,I,hl=>by
  rw[Qb,sW (λi=>M i c) I (cs.map λj i=>M i j) (by rw[My];simpa using hl.symm)];show bh (I.map _).length _=_;rw[My];refine bc λk a=> ?_;rw[uS,kQ M cs (I.eraseIdx k) (by rw[Ql a];simp at hl;lia)];have e:(I.map λi j=>M i j).getD k rw0 c=M (I.getD k 0) c:=by rw[Ph,Ph,PB,PF a];rfl
  rw[e]
theorem kP:∀ {n:Nat},(∀i,i<n->m∣f i)->m∣bh n f
 |0,_=>Qa m
 |n+1,h=>Rr (kP λi a=>h i ()) (h n ())
def Van(m:Int)(k:Nat)(R:List Row)(cs:List Nat):Prop:=∀(S:List Row)(T:List Nat),(∀r∈S,r∈R)->(∀t∈T,t∈cs)->S.length=k->T.length=k->m∣aK S T
def Mnr(m:Int)(k:Nat)(R:List Row)(cs:List Nat):Prop:=∃(S:List Row)(T:List Nat),S.Sublist R/\T.Sublist cs/\S.length=k/\T.length=k/\¬m∣aK S T
theorem ko{a:Type}{l:List a}{x:a}(h:x∈l.eraseIdx i):x∈l:=(List.eraseIdx_sublist l i).subset h
theorem Van.up(h:Van m k R cs):Van m (k+1) R cs:=by
 intro S T a b f lt
 match T,lt with
 |t::T,lt=>
  refine kP λi c=> ?_;refine PL (PL (h (S.eraseIdx i) T (λr d=>a r (ko d)) (λt e=>b t (Po _ e)) ?_ ?_))
  .rw[Ql c];lia
  .simpa using lt
theorem Van.le(h:Van m k R cs):∀ {l:Nat},k<=l->Van m l R cs
 |0,hl=>by rw[show 0=k by lia];exact h
 |l+1,hl=>by
  by_cases e:k=l+1
  .rw[<-e];exact h
  .exact(Van.le h ()).up
theorem Mnr.not_van(h:Mnr m k R cs):¬Van m k R cs:=by obtain⟨S,T,a,b,e,lt,n⟩:=h;exact λv=>n (v S T (λr c=>a.subset c) (λt d=>b.subset d) e lt)
theorem oV(h:¬Van m k R cs)(v:Van m (l+1) R cs):k<=l:=by
 by_cases e:k<=l
 .exact e
 .exact absurd (v.le (show l+1<=k by lia)) h
theorem EJ(h:¬Van m k R cs)(v:Van m (k+1) R cs)(h':¬Van m l R cs)(a:Van m (l+1) R cs):k=l:=by have:=oV h a;have:=oV h' v;lia
theorem xP(a:¬m∣1)(R:List Row)(cs:List Nat):Mnr m 0 R cs:=#[[],[],List.nil_sublist _,List.nil_sublist _,22,a]
theorem xM(m:Int)(R:List Row):Van m 1 R []:=λS T _ a _ lt=>by
 match T,lt with
 |t::T,_=>exact absurd (a t Pt) (λh=>nomatch h)
theorem Ep:∀(T:List Nat)(S:List Row),c∈T->(∀r∈S,m∣r c)->m∣aK S T
 |t::T,S,d,h=>by
  refine kP λi a=> ?_;by_cases e:t=c
  .subst e;have b:S.getD i rw0=S[i]:=by simp[a]
   rw[b];exact PL (Qc (h _ (QP a)))
  .have:c∈T:=by
    rcases Pk.mp d with rfl|h
    .exact absurd rfl e
    .exact h
   exact PL (PL (Ep T (S.eraseIdx i) this λr f=>h r (ko f)))
theorem LP{S:List Row}{T:List Nat}(c:r∈S)(hl:S.length=T.length)(h:∀t∈T,m∣r t):m∣aK S T:=by
 obtain⟨A,B,rfl⟩:=SM c;have b:=mU r T A [] B (by simp at hl⊢;lia);rw[Rh,Rh]at b;rw[b,sW r T (A++B) (by simp at hl⊢;lia)];refine PL (kP λj a=>PL (Qc ?_));have e:T.getD j 0=T[j]:=by simp[a]
 rw[e];exact h _ (QP a)
theorem lH(f:∀r∈R,m∣r c)(h:Van m k R cs):Van m k R (c::cs):=by
 intro S T a d i lt;by_cases e:c∈T
 .exact Ep T S e λr g=>f r (a r g)
 .refine h S T a (λt b=> ?_) i lt;rcases Pk.mp (d t b)with rfl|h
  .exact absurd b e
  .exact h
theorem z7(h:Mnr m k R cs):Mnr m k R (c::cs):=by obtain⟨S,T,a,b,d,lt,n⟩:=h;exact#[S,T,a,b.trans (List.sublist_cons_self c cs),d,lt,n]
theorem ym{T:List Nat}{A B:List Row}(hl:A.length+1+B.length=T.length)(h:∀j∈T,a*r j=d*s j+b*p j):a*aK (A++r::B) T=d*aK (A++s::B) T+b*aK (A++p::B) T:=by
 rw[<-wI a r T A B hl,<-qp d b s p T A B (λz=>by rw[z]at hl;simp at hl) hl];refine gE T _ _ #[5] λi j e=> ?_;by_cases c:i<A.length
 .rw[ku c,ku c]
 .obtain⟨k,rfl⟩:∃k,i=A.length+k:=#[i-A.length,9];rw[fF,fF];cases k with
  |zero=>exact h j e
  |succ k=>rfl
theorem rG(d:∀x y:Int,m∣x*y->m∣x\/m∣y)(b:¬m∣1)(c:¬m∣a):∀k:Nat,¬m∣a^k
 |0=>by rw[Ub];exact b
 |k+1=>λh=>by
  rw[Tw]at h;rcases d _ _ h with h|h
  .exact rG d b c k h
  .exact c h
section
variable{m d:Int}{R:List Row}{c:Nat}{cs:List Nat}{p:Row}
theorem tf(hm:∀x y:Int,m∣x*y->m∣x\/m∣y)(h:rY d R (c::cs))(q:d≠0)(K:R=A++p::B)(ha:¬m∣p c)(v:Van m k ((A++B).map (bV d p c)) cs):Van m (k+1) R (c::cs):=by
 have u:p∈R:=by rw[K];simp
 have ex:∀r∈R,∀j∈c::cs,p c*r j=d*bV d p c r j+r c*p j:=λr n j i=>by rw[jy h q u n i,Qn (r c),Qn (r j)];lia
 have zc:∀r∈R,bV d p c r c=0:=λr n=>by
  have e:=jy h q u n Pt;rw[Qn (p c),QH]at e;rcases Tx.mp e with e|e
  .exact absurd e q
  .exact e
 have zp:∀j∈c::cs,bV d p c p j=0:=λj i=>by
  have e:=jy h q u u i;rw[QH]at e;rcases Tx.mp e with e|e
  .exact absurd e q
  .exact e
 have N:Van m k (R.map (bV d p c)) (c::cs):=by
  refine lH (λr n=> ?_) λS T g f H lt=> ?_
  .obtain⟨x,a,rfl⟩:=Pl.mp n;rw[zc x a];exact Qa m
  .by_cases z:∃s∈S,∀j∈T,m∣s j
   .obtain⟨s,w,hz⟩:=z;exact LP w () hz
   .refine v S T (λs w=> ?_) f H lt;obtain⟨x,a,rfl⟩:=Pl.mp (g s w);refine Pl.mpr #[x,62];have L:=a;rw[K]at L;rcases Pz.mp L with o|o
    .exact Pz.mpr (.inl o)
    .rcases Pk.mp o with e|o
     .refine absurd #[_,w,λj i=> ?_] z;rw[e,zp j (Po _ (f j i))];exact Qa m
     .exact Pz.mpr (.inr o)
 have pull:∀x:Int,m∣p c*x->m∣x:=λx a=>(hm _ _ a).resolve_left ha;have J:∀ {r:Row} {T:List Nat},r∈R->(∀t∈T,t∈c::cs)->∀j∈T,p c*r j=d*bV d p c r j+r c*p j:=λn f j i=>ex _ n j (f j i);have Q:∀(S b:List Row)(T:List Nat),(∀r∈b,r∈R.map (bV d p c))->(∀r∈S,r∈R)->(∀t∈T,t∈c::cs)->b.length+S.length=k->T.length=k+1->m∣aK (p::(b++S)) T:=by
  intro S
  induction S with
  |nil=>
   intro b T l _ f hl lt;rw[Q0,sW p T b (by simp at hl;lia)];refine kP λj i=>PL (PL (N b (T.eraseIdx j) l (λt ht=>f t (ko ht)) #[5,hl] ?_));rw[Ql i];lia
  |cons r S G=>
   intro b T l g f hl lt;simp only[PM]at hl;have e:=ym (A:=p::b) (B:=S) (by simp only[PM];lia) (J (g r Pt) f);have U:aK ((p::b)++p::S) T=0:=Bq p T b S ();rw[U,Rp,RS]at e;refine pull _ ?_;show m∣p c*aK ((p::b)++r::S) T;rw[e];refine PL ?_;have:=G (b++[bV d p c r]) T (λx a=>by
    rcases Pz.mp a with a|a
    .exact l x a
    .rw[PR.mp a];exact Sf (g r Pt)) (λx a=>g x (Po _ a)) f (by simp;lia) lt
   rwa[Q2]at this
 have O:∀(S b:List Row)(T:List Nat),(∀r∈b,r∈R.map (bV d p c))->(∀r∈S,r∈R)->(∀t∈T,t∈c::cs)->b.length+S.length=k+1->T.length=k+1->m∣aK (b++S) T:=by
  intro S
  induction S with
  |nil=>
   intro b T l _ f hl lt;rw[Q0];exact N.up b T l f #[5,hl] lt
  |cons r S G=>
   intro b T l g f hl lt;simp only[PM]at hl;have e:=ym (A:=b) (B:=S) () (J (g r Pt) f);refine pull _ ?_;rw[e];refine Rr (PL ?_) (PL ?_)
   .have:=G (b++[bV d p c r]) T (λx a=>by
     rcases Pz.mp a with a|a
     .exact l x a
     .rw[PR.mp a];exact Sf (g r Pt)) (λx a=>g x (Po _ a)) f (by simp;lia) lt
    rwa[Q2]at this
   .have M:=mU p T b [] S (by simp;lia);rw[Rh,Rh]at M;rw[M];exact PL (Q S b T l (λx a=>g x (Po _ a)) f () lt)
 intro S T g f H lt;have:=O S [] T (λx a=>nomatch a) g f #[5,H] lt
 rwa [Rh]at this
theorem tF(g:∀x y:Int,m∣x*y->m∣x\/m∣y)(u:¬m∣1)(h:rY d R (c::cs))(K:d≠0)(L:¬m∣d)(f:R=A++p::B)(J:¬m∣p c)(v:Mnr m k ((A++B).map (bV d p c)) cs):Mnr m (k+1) R (c::cs):=by
 have M:p∈R:=by rw[f];simp
 obtain⟨S,T,w,o,i,lt,n⟩:=v;obtain⟨S0,G,rfl⟩:=Tz.mp w;obtain⟨a,b,rfl,j,l⟩:=List.sublist_append_iff.mp G;rw[My]at i;have H:∀r∈a++b,r∈R:=λr e=>by
  rw[f];rcases Pz.mp e with e|e
  .exact Pz.mpr (.inl (j.subset e))
  .exact Pz.mpr (.inr (Po _ (l.subset e)))
 have O:=Ab h K M H (λt N=>o.subset N) (show(a++b).length=T.length by lia);refine#[a++p::b,c::T,6,o.cons_cons c,by simp at i⊢;lia,by simp;lia,λz=> ?_]
 .rw[f];exact j.append (l.cons_cons p)
 .have s:=mU p (c::T) a [] b (by simp at i⊢;lia);rw[Rh,Rh]at s;rw[s]at z;have Q:m∣aK (p::(a++b)) (c::T):=by
   have:m∣sgn a.length*(sgn a.length*aK (p::(a++b)) (c::T)):=PL z
   rwa [<-Qf,MP,QJ]at this
  have U:m∣d^(a++b).length*(p c*aK ((a++b).map (bV d p c)) T):=by rw[O];exact PL Q
  rcases g _ _ U with q|q
  .exact rG g u L _ q
  .rcases g _ _ q with q|q
   .exact J q
   .exact n q
end
theorem yY:∀(cols:List Nat)(R a:List Row),R.length=a.length->(∀i j,j∈cols->m∣R.getD i rw0 j-a.getD i rw0 j)->m∣aK R cols-aK a cols
 | [],_,_,_,_=>by show m∣(1:Int) -1;exact Qa m
 |c::cs,R,a,hl,h=>by
  show m∣bh R.length _-bh a.length _;rw[<-hl];have e:∀f g:Nat->Int,bh R.length f-bh R.length g=bh R.length λi=>f i+(-1)*g i:=λf g=>by rw[lP,eD];lia
  rw[e];refine kP λi q=> ?_;have o:=h i c Pt;have p:m∣aK (R.eraseIdx i) cs-aK (a.eraseIdx i) cs:=yY cs (R.eraseIdx i) (a.eraseIdx i) (by rw[Ql q,Ql (),hl]) λk j n=>by
   rw[Ph,Ph,Sq,Sq];by_cases d:k<i
   .rw[Pd d,Pd d,<-Ph,<-Ph];exact h k j (Po _ n)
   .rw[Pb d,Pb d,<-Ph,<-Ph];exact h (k+1) j (Po _ n)
  generalize R.getD i rw0 c=x at*;generalize a.getD i rw0 c=b at*;generalize aK (R.eraseIdx i) cs=y at*;generalize aK (a.eraseIdx i) cs=l at*;have:sgn i*(x*y)+ -1*(sgn i*(b*l))=sgn i*((x-b)*y+b*(y-l)):=by rw[SE,Rj,show x*y-b*y+(b*y-b*l)=x*y-b*l by lia,Rj];lia
  rw[this];exact PL (Rr (Qc o) (PL p))
theorem A9{S:List Row}(h:∀r∈S,m∣f r j-r j):m∣(S.map f).getD i rw0 j-S.getD i rw0 j:=by
 rw[Ph,Ph,PB];cases e:S[i]? with
 |none=>show m∣rw0 j-rw0 j;rw[QH];exact Qa m
 |some r=>exact h r (Pq e)
theorem De{m a b:Int}(h:m∣a-b)(c:m∣b):m∣a:=by
 have:=Rr h c
 rwa [Rx]at this
theorem Bn{m a b:Int}(h:m∣a-b)(c:m∣a):m∣b:=by
 have:=Rt c h
 rwa [show a- (a-b)=b by lia]at this
section
variable{m:Int}{k:Nat}{R:List Row}{cs:List Nat}{f:Row->Row}
theorem Km(h:∀r∈R,∀j∈cs,m∣f r j-r j)(v:Van m k (R.map f) cs):Van m k R cs:=by
 intro S T b c g lt;have:=v (S.map f) T (λr a=>by obtain⟨x,e,rfl⟩:=Pl.mp a;exact Sf (b x e)) c (by rw[My];exact g) lt
 exact Bn (yY T (S.map f) S (My _) λi j d=>A9 λr a=>h r (b r a) j (c j d)) this
theorem KC(h:∀r∈R,∀j∈cs,m∣f r j-r j)(v:Mnr m k (R.map f) cs):Mnr m k R cs:=by obtain⟨S,T,e,c,d,lt,n⟩:=v;obtain⟨a,b,rfl⟩:=Tz.mp e;rw[My]at d;refine#[a,T,b,c,d,lt,λz=>n ?_];exact De (yY T (a.map f) a (My _) λi j g=>A9 λr l=>h r (b.subset l) j (c.subset g)) z
end
theorem qr(f:Nat->Nat):∀(T:List Nat)(S:List Row),aK (S.map λr j=>r (f j)) T=aK S (T.map f)
 | [],_=>rfl
 |t::T,S=>by
  show bh (S.map _).length _=bh S.length _;rw[My];refine bc λi a=> ?_;rw[uS,qr f T];have e:(S.map λr j=>r (f j)).getD i rw0 t=S.getD i rw0 (f t):=by rw[Ph,Ph,PB,PF a];rfl
  rw[e]
theorem wu{R d:List Row}{f:Nat->Nat}{T:List Nat}:∀(S:List Row),(∀r∈S,r∈d)->(∀r∈d,∃c∈R,∀j∈T,r j=c (f j))->∃a:List Row,(∀r∈a,r∈R)/\a.length=S.length/\∀i j,j∈T->S.getD i rw0 j=(a.map λr j=>r (f j)).getD i rw0 j
 | [],_,_=>#[[],(λ_ h=>nomatch h),2,λ_ _ _=>rfl]
 |r::S,e,h=>by
  obtain⟨a,k,l,m⟩:=wu S (λx b=>e x (Po _ b)) h;obtain⟨c,g1,g2⟩:=h r (e r Pt);refine#[c::a,λx b=> ?_,by simp[l],λi j g=> ?_]
  .rcases Pk.mp b with rfl|b
   .exact g1
   .exact k x b
  .cases i with
   |zero=>exact g2 j g
   |succ i=>exact m i j g
theorem gH{f:Nat->Nat}(p:∀j∈d,f j∈cs)(q:∀r∈g,∃b∈R,∀j∈d,r j=b (f j))(v:Van m k R cs):Van m k g d:=by
 intro S T o e u lt;obtain⟨c,i,l,n⟩:=wu (T:=T) S o λr h=>by obtain⟨b,g1,g2⟩:=q r h;exact#[b,g1,λj a=>g2 j (e j a)]
 rw[gE T S (c.map λr j=>r (f j)) (by rw[My,l]) n,qr];refine v c (T.map f) i (λt s=> ?_) () (by rw[My];exact lt);obtain⟨j,a,rfl⟩:=Pl.mp s;exact p j (e j a)
structure bg(m:Int):Prop where
 nn:0<=m
 lt:m<128
 one:¬m∣1
 mul:∀x y:Int,m∣x*y->m∣x\/m∣y
theorem oH:bg 0:=#[444,λx y h=>by
 have h:=SN.mp h;rcases Tx.mp h with h|h
 .exact .inl (SN.mpr h)
 .exact .inr (SN.mpr h)]
theorem Fm{p:Nat}(c:2<=p)(hl:p<128)(b:∀d,d<p+1->d∣p->d=1\/d=p):bg (p:Int):=#[99,λh=>by
 have:=Int.le_of_dvd ∅ h;lia,λx y h=>by
 have a:p∣x.natAbs*y.natAbs:=by rw[<-TJ];exact TN.mp h
 by_cases e:p∣x.natAbs
 .exact .inl (TN.mpr e)
 .refine .inr (TN.mpr ?_);have g:Nat.gcd p x.natAbs=1:=by
   rcases b _ (Nat.lt_succ_of_le (Nat.le_of_dvd () (Nat.gcd_dvd_left p x.natAbs))) (Nat.gcd_dvd_left p x.natAbs)with g|g
   .exact g
   .exact absurd (g▸Nat.gcd_dvd_right p x.natAbs) e
  exact Nat.Coprime.dvd_of_dvd_mul_left g a]
def D4:List Nat:=[2,3,5,7,11,13,17,19,23,29,31,37,41,43,47,53,59,61,67,71,73,79,83,89,97]
theorem oI:∀p∈D4,bg (p:Int):=by
 have h:∀p∈D4,2<=p/\p<128/\∀d,d<p+1->d∣p->d=1\/d=p:=#[9]
 exact λp a=>Fm (h p a).1 (h p a).2.1 (h p a).2.2
theorem kX{a:Type}(l:List a)(d:a):(List.range l.length).map (λi=>l.getD i d)=l:=by
 refine List.ext_getElem? λi=> ?_;rw[PB];by_cases h:i<l.length
 .rw[QD h,PF h];simp[h]
 .rw[RN (by simp;lia),RN ()];rfl
theorem Cb{R:List Row}{J:List Nat}(d:∀r∈R,∀j,j<J.length->g r j=r (J.getD j 0)):Van m k (R.map g) (List.range J.length)↔Van m k R J:=by
 constructor
 .refine gH (f:=λt=>J.idxOf t) (λt c=>Pf.mpr (TQ c)) λr b=>#[g r,Sf b,λt c=> ?_];have h:=TQ c;rw[d r b _ h];have:J.getD (J.idxOf t) 0=t:=by rw[Ph,PF h,List.getElem_idxOf];rfl
  rw[this]
 .refine gH (f:=λj=>J.getD j 0) (λj a=> ?_) λx e=> ?_
  .have a:=Pf.mp a;have:J.getD j 0=J[j]:=by simp[a]
   rw[this];exact QP a
  .obtain⟨r,b,rfl⟩:=Pl.mp e;exact#[r,b,λj a=>d r b j (Pf.mp a)]
theorem CP{R:List Row}{J:List Nat}(l:∀r∈R,∀j,j<J.length->g r j=r (J.getD j 0))(h:Mnr m k (R.map g) (List.range J.length)):Mnr m k R J:=by
 obtain⟨S,T,f,c,d,lt,n⟩:=h;obtain⟨a,b,rfl⟩:=Tz.mp f;rw[My]at d;refine#[a,T.map λj=>J.getD j 0,b,6,d,by rw[My];exact lt,λz=>n ?_]
 .have:=c.map (λj=>J.getD j 0)
  rwa [kX]at this
 .rw[<-qr]at z;rw[gE T (a.map g) (a.map λr j=>r (J.getD j 0)) #[5] λi j o=> ?_]
  .exact z
  .rw[Ph,Ph,PB,PB];cases e:a[i]? with
   |none=>rfl
   |some r=>exact l r (b.subset (Pq e)) j (Pf.mp (c.subset o))
def RkV(m:Int)(R:List Row)(cs:List Nat)(r:Nat):Prop:=Van m (r+1) R cs/\¬Van m r R cs
theorem oW(h:∀j∈a,j∈cs)(v:Van m k R cs):Van m k R a:=
 gH (f:=id) h (λr b=>#[r,b,λ_ _=>rfl]) v
theorem RkV.mem(h:∀j,j∈cs↔j∈cs')(v:RkV m R cs r):RkV m R cs' r:=
 #[oW (λj a=>(h j).mpr a) v.1,λz=>v.2 (oW (λj a=>(h j).mp a) z)]
theorem RkV.one(h:RkV m R cs r)(h':RkV m R cs r'):r=r':=EJ h.2 h.1 h'.2 h'.1
theorem RkV.zeroC(a:∀x∈R,m∣x c)(h:RkV m R cs r):RkV m R (c::cs) r:=
 #[lH a h.1,λz=>h.2 (oW (λj b=>Po _ b) z)]
theorem nN(m:Int)(c:Nat)(R:List Row):(∀x∈R,m∣x c)\/∃p A B,R=A++p::B/\¬m∣p c:=by
 by_cases h:∀x∈R,m∣x c
 .exact .inl h
 .obtain⟨p,a⟩:=Sz.mp h;obtain⟨a,b⟩:=Classical.not_imp.mp a;obtain⟨A,B,e⟩:=SM a;exact .inr #[p,A,B,e,b]
theorem jv(a:bg m):∀(cs:List Nat)(R:List Row),∃r,Van m (r+1) R cs/\Mnr m r R cs
 | [],R=>#[0,xM m R,xP a.one R []]
 |c::cs,R=>by
  rcases nN m c R with h|⟨p,A,B,e,f⟩
  .obtain⟨r,b,d⟩:=jv a cs R;exact#[r,lH h b,z7 d]
  .obtain⟨r,b,d⟩:=jv a cs ((A++B).map (bV 1 p c));exact#[r+1,tf a.mul (kO R (c::cs)) ∅ e f b,tF a.mul a.one (kO R (c::cs)) ∅ a.one e f d]
theorem RkV.pivot(a:bg m)(e:R=A++p::B)(f:¬m∣p c)(h:RkV m ((A++B).map (bV 1 p c)) cs r):RkV m R (c::cs) (r+1):=by obtain⟨g,b,d⟩:=jv a cs ((A++B).map (bV 1 p c));have:r=g:=h.one #[b,d.not_van];subst this;exact#[tf a.mul (kO R (c::cs)) ∅ e f b,(tF a.mul a.one (kO R (c::cs)) ∅ a.one e f d).not_van]
open Classical in
noncomputable def rho(m:Int)(R:List Row)(cs:List Nat):Nat:=if h:∃r,RkV m R cs r then Classical.choose h else 0
theorem gq(c:bg m)(R:List Row)(cs:List Nat):RkV m R cs (rho m R cs):=by
 have h:∃r,RkV m R cs r:=by obtain⟨r,a,b⟩:=jv c cs R;exact#[r,a,b.not_van]
 unfold rho;rw[dif_pos h];exact Sw h
theorem fh(a:bg m)(h:RkV m R cs r):rho m R cs=r:=(gq a R cs).one h
theorem fO(a:bg m)(h:∀j,j∈cs↔j∈cs'):rho m R cs=rho m R cs':=fh a ((gq a R cs').mem λj=>(h j).symm)
theorem MR(a:bg m)(h:∀j∈cs,j∈cs'):rho m R cs<=rho m R cs':=
 oV (λz=>(gq a R cs).2 (oW h z)) (gq a R cs').1
theorem pM(a:bg m)(c:Nat)(R:List Row):(∀cs,rho m R (c::cs)=rho m R cs)\/∃b,∀cs,rho m R (c::cs)=rho m b cs+1:=by
 rcases nN m c R with h|⟨p,A,B,e,d⟩
 .exact .inl λcs=>fh a ((gq a R cs).zeroC h)
 .exact .inr #[(A++B).map (bV 1 p c),λcs=>fh a ((gq a _ cs).pivot a e d)]
theorem iO(a:bg m)(R:List Row):rho m R []=0:=fh a #[xM m R,λz=>a.one (z [] [] #[5] #[5] rfl rfl)]
theorem Az(a:bg m)(R:List Row)(j c:Nat)(cs:List Nat):rho m R (j::c::cs)=rho m R (c::j::cs):=fO a λx=>by rw[Pk,Pk,Pk,Pk];exact#[λh=>by rcases h with h|h|h;exact .inr (.inl h);exact .inl h;exact .inr (.inr h),λh=>by rcases h with h|h|h;exact .inr (.inl h);exact .inl h;exact .inr (.inr h)]
theorem pK(a:bg m)(k:Nat):∀(cs:List Nat)(R:List Row),rho m R (k::cs)<=rho m R cs+1
 | [],R=>by
  rcases pM a k R with h|⟨b,h⟩
  .rw[h];lia
  .rw[h,iO a,iO a];lia
 |c::cs,R=>by
  rw[Az a];rcases pM a c R with h|⟨b,h⟩
  .rw[h,h];exact pK a k cs R
  .rw[h,h];have:=pK a k cs b;lia
theorem yp(a:bg m)(j k:Nat):∀(cs:List Nat)(R:List Row),rho m R (j::cs)=rho m R cs->rho m R (k::cs)=rho m R cs->rho m R (k::j::cs)=rho m R cs
 | [],R,d,b=>by
  rcases pM a k R with h|⟨f,h⟩
  .rw[h];exact d
  .rw[h,iO a,iO a]at b;cases b
 |c::cs,R,d,b=>by
  rw[Az a]at d b;have e:rho m R (k::j::c::cs)=rho m R (c::k::j::cs):=fO a λx=>by rw[Pk,Pk,Pk,Pk,Pk,Pk];exact#[λh=>by rcases h with h|h|h|h;exact .inr (.inl h);exact .inr (.inr (.inl h));exact .inl h;exact .inr (.inr (.inr h)),λh=>by rcases h with h|h|h|h;exact .inr (.inr (.inl h));exact .inl h;exact .inr (.inl h);exact .inr (.inr (.inr h))]
  rw[e];rcases pM a c R with h|⟨f,h⟩
  .rw[h,h]at d b;rw[h,h];exact yp a j k cs R d b
  .rw[h,h]at d b;rw[h,h,yp a j k cs f () ()]
def ao(s:Nat):List Nat:=(List.range 8).filter s.testBit
theorem aJ{s k:Nat}:k∈ao s↔k<8/\s.testBit k=true:=by unfold ao;rw[PV,Pf]
theorem iu(c:k<8)(j:Nat):j∈ao (s|||2^k)↔j∈k::ao s:=by
 rw[Pk,aJ,aJ,PN,Py,P0,PD];constructor
 .rintro⟨b,a|a⟩
  .exact .inr #[b,a]
  .exact .inl a.symm
 .rintro(rfl|⟨b,a⟩)
  .exact#[c, .inr rfl]
  .exact#[b, .inl a]
noncomputable def bE(m:Int)(R:List Row)(s:Nat):Nat:=rho m R (ao s)
theorem pN(b:bg m)(a:k<8):bE m R (s|||2^k)=rho m R (k::ao s):=fO b (iu a)
theorem jc{m:Int}(hm:bg m)(R:List Row){n:Nat}(n8:n<=8):Mat n (bE m R) where
 n8:=n8
 zero:=by
  have e:ao 0=[]:=List.filter_eq_nil_iff.mpr λk _=>by rw[P4];exact PQ
  unfold bE;rw[e];exact iO hm R
 step:=λs k _ d=>by rw[pN hm ()];exact#[MR hm λj c=>Po _ c,pK hm k _ R]
 sub:=λs j k _ c d a b=>by
  rw[pN hm ()]at a b;have e:bE m R (s|||2^j|||2^k)=rho m R (k::j::ao s):=(pN hm ()).trans (fO hm λx=>by rw[Pk,iu (),Pk,Pk,Pk])
  rw[e];exact yp hm j k _ R a b
theorem KR(c:bg m)(a:Van m (r+1) R (ao s))(b:Mnr m r R (ao s)):bE m R s=r:=fh c #[a,b.not_van]
theorem Cu{s n:Nat}(a:n<=8)(c:s<2^n):(List.range n).filter s.testBit=(List.range 8).filter s.testBit:=by
 have e:List.range 8=List.range n++(List.range (8-n)).map (n+ ·):=by rw[<-List.range_add,Nat.add_sub_cancel' a]
 rw[e,RY];have z:((List.range (8-n)).map (n+ ·)).filter s.testBit=[]:=List.filter_eq_nil_iff.mpr λk b=>by obtain⟨j,_,rfl⟩:=Pl.mp b;rw[Qk (Pg c (PJ () (Sy n j)))];exact PQ
 rw[z,Q0]
def ng(m:Int)(R:List Row)(cs:List Nat):Prop:=∃S,S.Sublist R/\S.length=cs.length/\¬m∣aK S cs
theorem kJ(f:bg m)(R:List Row)(cs:List Nat):rho m R cs=cs.length↔ng m R cs:=by
 obtain⟨r,c,S,T,d,a,h,i,b⟩:=jv f cs R;have e:rho m R cs=r:=fh f #[c,Mnr.not_van #[S,T,d,a,h,i,b]];have lt:=a.length_le;rw[e];constructor
 .intro z;have:T=cs:=a.eq_of_length ();rw[this]at b;exact#[S,d,9,b]
 .rintro⟨g,g1,g2,g3⟩;have:=oV (m:=m) (k:=cs.length) (R:=R) (cs:=cs) (λv=>g3 (v g cs (λx l=>g1.subset l) (λt j=>j) g2 rfl)) c;lia
theorem aP(s:Nat):(ao s).length=sz s:=by unfold sz bits;rw[My];rfl
theorem uP:ng m R [j]↔∃x∈R,¬m∣x j:=by
 have e:∀x:Row,aK [x] [j]=x j:=λx=>by simp[aK,bh,sgn]
 constructor
 .rintro⟨S,a,b,c⟩
  match S,b with
  | [x],_=>exact#[x,a.subset #[5],by rw[<-e x];exact c]
 .rintro⟨x,a,b⟩;exact#[[x],S5.mpr a,2,by rw[e x];exact b]
theorem su{c:Type}{x y:c}:∀ {l:List c},[x,y].Sublist l↔∃p q:Nat,p<q/\l[p]?=some x/\l[q]?=some y
 | []=>#[λh=>(nomatch h),λ⟨p,q,_,h,_⟩=>by simp at h]
 |z::l=>by
  constructor
  .intro h;cases h with
   |cons _ h=>
    obtain⟨p,q,d,a,b⟩:=su.mp h;exact#[p+1,q+1,9,#[5,a],#[5,b]]
   |cons_cons _ h=>
    obtain⟨q,e⟩:=Qm (S5.mp h);exact#[0,q+1,92,#[5,e]]
  .rintro⟨p,q,d,a,b⟩;cases p with
   |zero=>
    cases q with
    |zero=>lia
    |succ q=>
     cases a;exact .cons_cons _ (S5.mpr (Pq (i:=q) #[5,b]))
   |succ p=>
    cases q with
    |zero=>lia
    |succ q=>exact .cons _ (su.mpr #[p,q,9,#[5,a],#[5,b]])
theorem uO:ng m R [j,k]↔∃(p q:Nat)(x y:Row),p<q/\R[p]?=some x/\R[q]?=some y/\¬m∣aK [x,y] [j,k]:=by
 constructor
 .rintro⟨S,a,b,c⟩
  match S,b with
  | [x,y],_=>
   obtain⟨p,q,g1,g2,g3⟩:=su.mp a;exact#[p,q,x,y,g1,g2,g3,c]
 .rintro⟨p,q,x,y,g1,g2,g3,g4⟩;exact#[[x,y],su.mpr #[p,q,g1,g2,g3],2,g4]
def exB(b x y:Nat):Nat:=(b^^^2^x)|||2^y
theorem bP(b x y j:Nat):(exB b x y).testBit j=((b.testBit j^^decide (x=j))||decide (y=j)):=by unfold exB;rw[PN,Qx,Py,Py]
namespace Mat
variable{n:Nat}{r:Nat->Nat}(M:Mat n r)
include M
theorem AO(a:C<2^n)(b:u<n)(d:v<n)(f:r C=c)(h:r (C|||2^u|||2^v)=c+2):r (C|||2^u)=c+1/\r (C|||2^v)=c+1:=by have g:=M.step C u a b;have i:=M.step (C|||2^u) v (aM a b) d;have j:=M.step C v a d;have e:=M.step (C|||2^v) u (aM a d) b;rw[show C|||2^v|||2^u=C|||2^u|||2^v by rw[Rn,R7 (2^v),<-Rn]]at e;lia
theorem Iy(f:C<2^n)(g:u<n)(b:v<n)(d:w<n)(i:r (C|||2^u)=c+1)(j:¬r (C|||2^u|||2^v)=c+2)(l:¬r (C|||2^u|||2^w)=c+2):¬r (C|||2^v|||2^w)=c+2:=by
 have a:=aM f g;have p:=M.step (C|||2^u) v a b;have q:=M.step (C|||2^u) w a d;have m:=M.sub (C|||2^u) v w a b d () ();have o:=M.mono (s:=C|||2^v|||2^w) (t:=C|||2^u|||2^v|||2^w) (λk e=>by simp only[PN,P0]at e⊢;rcases e with (h|h)|h<;>simp[h]) (aM (aM a b) d)
 lia
end Mat
structure Six(n:Nat)(r:Nat->Nat)(C c x z y v:Nat):Prop where
 M:Mat n r
 hC:C<2^n
 hx:x<n
 hz:z<n
 hy:y<n
 hv:v<n
 h0:r C=c
def bq(r:Nat->Nat)(C c u v:Nat):Prop:=r (C|||2^u|||2^v)=c+2
theorem gr:bq r C c u v↔bq r C c v u:=by unfold bq;rw[show C|||2^v|||2^u=C|||2^u|||2^v by rw[Rn,R7 (2^v),<-Rn]]
theorem C9(e:xz->X/\Z)(f:b->X/\Y)(g:a->X/\V)(h:zy->Z/\Y)(i:c->Z/\V)(j:d->Y/\V)(k:X->¬xz->¬b->¬zy)(o:X->¬xz->¬a->¬c)(p:X->¬b->¬a->¬d)(q:Z->¬xz->¬zy->¬b)(r:Z->¬xz->¬c->¬a)(s:Z->¬zy->¬c->¬d)(t:Y->¬b->¬zy->¬xz)(u:Y->¬b->¬d->¬a)(v:Y->¬zy->¬d->¬c)(l:V->¬a->¬c->¬xz)(m:V->¬a->¬d->¬b)(n:V->¬c->¬d->¬zy)(A:xz)(B:zy)(no:b->a->c->d->False):d↔((a/\¬(c/\b))\/(¬a/\c/\b)):=by
 by_cases w:b<;>by_cases x:a<;>by_cases y:c<;>by_cases z:d<;>simp_all
theorem Six.iff(S:Six n r C c x z y v)(q:bq r C c x z)(s:bq r C c z y)(no:bq r C c x y->bq r C c x v->bq r C c z v->bq r C c y v->False):
  bq r C c y v↔((bq r C c x v/\¬(bq r C c z v/\bq r C c x y))\/(¬bq r C c x v/\bq r C c z v/\bq r C c x y)):=by
 obtain⟨M,o,i,k,j,g,p⟩:=S;have non:∀ {u w},u<n->w<n->bq r C c u w->r (C|||2^u)=c+1/\r (C|||2^w)=c+1:=λl m h=>M.AO o l m p h;have par:∀ {u w t},u<n->w<n->t<n->r (C|||2^u)=c+1->¬bq r C c u w->¬bq r C c u t->¬bq r C c w t:=λl m A h a b=>M.Iy o l m A h a b;have f:∀ {u w},¬bq r C c u w->¬bq r C c w u:=λh e=>h (gr.mp e);refine C9 (non i k) (non i j) (non i g) (non k j) (non k g) (non j g) (par i k j) (par i k g) (par i j g)
  (λa b d=>par k i j a (f b) d) (λa b d=>par k i g a (f b) d) (λa b d=>par k j g a b d)
  (λa b d=>par j i k a (f b) (f d)) (λa b d=>par j i g a (f b) d) (λa b d=>par j k g a (f b) d)
  (λa b d=>par g i k a (f b) (f d)) (λa b d=>par g i j a (f b) (f d)) (λa b d=>par g k j a (f b) (f d)) q s no
def ix(r:Nat->Nat)(G R:Nat):Prop:=∀C x z y v,Sub C G->sz C+2=R->(∀t∈[x,z,y,v],G.testBit t=true/\C.testBit t=false)->[x,z,y,v].Nodup->r C+2=R->
 bq r C (r C) x z->bq r C (r C) x y->bq r C (r C) x v->bq r C (r C) z y->bq r C (r C) z v->bq r C (r C) y v->False
theorem OA{B x y a b:Nat}(h:B.testBit x=true)(f:B.testBit a=true)(i:x≠a)(c:B.testBit y=false)(k:B.testBit b=false)(l:y≠b):exB (exB B x y) a b=(B^^^2^x^^^2^a)|||2^y|||2^b:=PC λj=>by
 have g:y≠a:=λe=>by rw[e,f]at c;cases c
 rw[bP,bP,PN,PN,Qx,Qx,Py,Py,Py,Py];by_cases e:y=j
 .have d:¬a=j:=λz=>g (e.trans z.symm);simp[e,d]
 .simp[e]
theorem Eo{B x a y:Nat}(d:B.testBit x=true)(b:B.testBit a=true)(c:x≠a):(B^^^2^x^^^2^a)|||2^a|||2^y=exB B x y:=PC λj=>by
 rw[bP,PN,PN,Qx,Qx,Py,Py,Py];by_cases e:a=j
 .subst e;simp[b,c]
 .simp[e]
theorem LN{B x a:Nat}(c:B.testBit x=true)(d:B.testBit a=true)(f:x≠a):(B^^^2^x^^^2^a)|||2^x|||2^a=B:=PC λj=>by
 rw[PN,PN,Qx,Qx,Py,Py];by_cases e:a=j
 .subst e;simp[d]
 .by_cases b:x=j
  .subst b;simp[c]
  .simp[e,b]
theorem zU{n B x y:Nat}(M:Mat n r)(c:B<2^n)(a:B.testBit x=true)(d:B.testBit y=false)(f:y<n):exB B x y<2^n/\sz (exB B x y)=sz B:=by
 have b:=M.jr c a;have h:=M.iV c a;refine#[aM b f,6];have g:(B^^^2^x).testBit y=false:=by
  rw[Qx,d,Py];have:¬x=y:=λe=>by rw[e,d]at a;cases a
  simp[this]
 have i:=gp (M.aV b) (Pg f M.n8) g;unfold exB;lia
theorem Ke(M1:Mat n q)(M2:Mat n s){G R B x y:Nat}(hG:G<2^n)(b3:ix q G R)(b4:ix s G R)(l:Sub B G)(zB:sz B=R)(N:q B=R)(O:s B=R)(H:∀x y,B.testBit x=true->G.testBit y=true->B.testBit y=false->(q (exB B x y)=R↔s (exB B x y)=R))(g:B.testBit x=true)(K:G.testBit y=true)(p:B.testBit y=false)(e1:q (exB B x y)=R)(e2:s (exB B x y)=R):
  ∀c f,(exB B x y).testBit c=true->G.testBit f=true->(exB B x y).testBit f=false->(q (exB (exB B x y) c f)=R↔s (exB (exB B x y) c f)=R):=by
 intro c f ai w z;have L:x≠y:=λe=>by rw[e,p]at g;cases g
 rw[bP]at ai z;have ar:y≠f:=λe=>by simp[e]at z
 by_cases J:c=y
 .subst J;by_cases o:x=f
  .subst o;have e:exB (exB B x c) c x=B:=PC λj=>by
    rw[bP,bP];by_cases k:c=j
    .subst k;simp[p,L]
    .by_cases A:x=j
     .subst A;simp[g,k]
     .simp[k,A]
   rw[e,N,O]
  .have m:B.testBit f=false:=by have:¬c=f:=ar;simp[o,this]at z;exact z
   have e:exB (exB B x c) c f=exB B x f:=PC λj=>by
    rw[bP,bP,bP];by_cases k:c=j
    .subst k;simp[p,L]
    .simp[k]
   rw[e];exact H x f g w m
 .have nx:¬x=c:=λe=>by subst e;have k:¬y=x:=λe=>L e.symm;simp[g,k]at ai
  have i:B.testBit c=true:=by have k:¬y=c:=λe=>J e.symm;simp[nx,k]at ai;exact ai
  by_cases o:x=f
  .subst o;have e:exB (exB B x y) c x=exB B c y:=PC λj=>by
    rw[bP,bP,bP];by_cases A:x=j
    .subst A;have:¬c=x:=λe=>nx e.symm;simp[g,this]
    .by_cases k3:c=j
     .subst k3;have:¬y=c:=λe=>J e.symm;simp[A,i,this]
     .simp[A,k3]
   rw[e];exact H c y i K p
  .have m:B.testBit f=false:=by have:¬y=f:=ar;simp[o,this]at z;exact z
   have U:=l.lt hG;have C1:=M1.jr U g;have ay:(B^^^2^x).testBit c=true:=by rw[Qx,i,Py];simp[nx]
   have C2:=M1.jr C1 ay;have z1:=M1.iV U g;have z2:=M1.iV C1 ay;have sC:Sub (B^^^2^x^^^2^c) B:=(cZ ay).trans (cZ g);have f1:=M1.jN sC U (N.trans zB.symm);have f2:=M2.jN sC U (O.trans zB.symm);have lt:∀ {t},G.testBit t=true->t<n:=λh=>bF hG h;have Q:∀t,(B^^^2^x^^^2^c).testBit t=(B.testBit t^^decide (x=t)^^decide (c=t)):=λt=>by rw[Qx,Qx,Py,Py]
   have pr:∀(r:Nat->Nat),r (B^^^2^x^^^2^c)+2=R->∀u v,bq r (B^^^2^x^^^2^c) (r (B^^^2^x^^^2^c)) u v↔r ((B^^^2^x^^^2^c)|||2^u|||2^v)=R:=λr h u v=>by unfold bq;rw[h]
   have g1:q (B^^^2^x^^^2^c)+2=R:=()
   have g2:s (B^^^2^x^^^2^c)+2=R:=()
   have p1:=pr q g1;have p2:=pr s g2;have q1:(B^^^2^x^^^2^c)|||2^x|||2^c=B:=LN g i nx;have M:∀t,(B^^^2^x^^^2^c)|||2^c|||2^t=exB B x t:=λt=>Eo g i nx;have q3:∀t,(B^^^2^x^^^2^c)|||2^x|||2^t=exB B c t:=λt=>by rw[show B^^^2^x^^^2^c=B^^^2^c^^^2^x by rw[Qp,R9 (2^x),<-Qp]];exact Eo i g (λe=>nx e.symm)
   have mem:∀t∈[x,c,y,f],G.testBit t=true/\(B^^^2^x^^^2^c).testBit t=false:=λt ht=>by
    have n1:¬c=x:=λe=>nx e.symm;have n2:¬x=f:=o;have n3:¬c=f:=λe=>by rw[e,m]at i;cases i
    simp only[Pk,P7,RH]at ht;rcases ht with rfl|rfl|rfl|rfl
    .exact#[l _ g,by rw[Q,g];simp[n1]]
    .exact#[l _ i,by rw[Q,i];simp[nx]]
    .exact#[K,by rw[Q,p];simp[L,J]]
    .exact#[w,by rw[Q,m];simp[n2,n3]]
   have nd:[x,c,y,f].Nodup:=by
    have n3:¬c=f:=λe=>by rw[e,m]at i;cases i
    simp[nx,L,o,J,n3,ar]
   have bu:=sC.trans l;have i1:=Six.iff #[M1,C2,lt (l _ g),lt (l _ i),lt K,lt w,2] ((p1 x c).mpr (by rw[q1,N])) ((p1 c y).mpr (by rw[M,e1])) λa b d e=>b3 _ x c y f bu () mem nd g1 ((p1 x c).mpr (by rw[q1,N])) a b ((p1 c y).mpr (by rw[M,e1])) d e;have i2:=Six.iff #[M2,C2,lt (l _ g),lt (l _ i),lt K,lt w,2] ((p2 x c).mpr (by rw[q1,O])) ((p2 c y).mpr (by rw[M,e2])) λa b d e=>b4 _ x c y f bu () mem nd g2 ((p2 x c).mpr (by rw[q1,O])) a b ((p2 c y).mpr (by rw[M,e2])) d e;rw[OA g i nx p m ar];have j1:=(p1 y f).symm.trans i1;have j2:=(p2 y f).symm.trans i2;rw[j1,j2,p1,p1,p1,p2,p2,p2,M,q3,q3,H x f g w m,H c f i w m,H c y i K p]
theorem vZ(M1:Mat n g)(M2:Mat n i){G R:Nat}(d:G<2^n)(f1:g (2^n-1)=R)(f2:i (2^n-1)=R)(ar:ix g G R)(ax:ix i G R):
  ∀(k B:Nat),Sub B G->sz B=R->g B=R->i B=R->(∀x y,B.testBit x=true->G.testBit y=true->B.testBit y=false->(g (exB B x y)=R↔i (exB B x y)=R))->∀Z,Sub Z G->sz Z=R->sz (aw B Z)=k->(g Z=R↔i Z=R)
 |0,B,l,o,p,q,_,Z,f,s,K=>by
  have hs:Sub B Z:=λt ht=>by
   cases e:Z.testBit t with
   |true=>rfl
   |false=>
    have U:=bF (l.lt d) ht;have hb:(aw B Z).testBit t=true:=by rw[aI,ht,e];rfl
    have hl:=Px (iQ B Z) (l.lt d);have:=M1.iV hl hb;lia
  have e:B=Z:=wb (M1.aV (l.lt d)) (M1.aV (f.lt d)) (λk _ h=>hs k h) (o.trans s.symm);rw[<-e,p,q]
 |k+1,B,l,o,p,q,z,Z,f,s,K=>by
  by_cases L:g Z=R\/i Z=R
  .have v:=l.lt d;have Q:=f.lt d;obtain⟨x,w⟩:∃x,(aw B Z).testBit x=true:=by
    refine PU λU=> ?_;have:aw B Z=0:=PC λj=>by
     rw[P4];cases e:(aw B Z).testBit j with
     |false=>rfl
     |true=>exact absurd #[j,e] U
    rw[this,c7]at K;cases K
   have a:B.testBit x=true/\Z.testBit x=false:=by rw[aI]at w;cases A:B.testBit x<;>cases H:Z.testBit x<;>rw[A,H]at w<;>simp at w⊢
   obtain⟨y,u,M,N,O⟩:∃y,Z.testBit y=true/\B.testBit y=false/\g (exB B x y)=R/\i (exB B x y)=R:=by
    rcases L with h|h
    .obtain⟨y,g1,g2,g3⟩:=M1.exch (b:=B) (c:=Z) #[v,p.trans o.symm,p.trans f1.symm] #[Q,h.trans s.symm,h.trans f1.symm] a.1 a.2;have:g (exB B x y)=R:=g3.2.2.trans f1;exact#[y,g1,g2,this,(z x y a.1 (f _ g1) g2).mp this]
    .obtain⟨y,g1,g2,g3⟩:=M2.exch (b:=B) (c:=Z) #[v,q.trans o.symm,q.trans f2.symm] #[Q,h.trans s.symm,h.trans f2.symm] a.1 a.2;have:i (exB B x y)=R:=g3.2.2.trans f2;exact#[y,g1,g2,(z x y a.1 (f _ g1) g2).mpr this,this]
   have ay:=Ke M1 M2 d ar ax l o p q z a.1 (f _ u) M N O;have zE:=zU M1 v a.1 M (bF d (f _ u));have hE:Sub (exB B x y) G:=λj J=>by
    rw[bP]at J;by_cases m:y=j
    .subst m;exact f _ u
    .by_cases r:x=j
     .subst r;exact l _ a.1
     .simp[m,r]at J;exact l _ J
   refine vZ M1 M2 d f1 f2 ar ax k (exB B x y) hE (zE.2.trans o) N O ay Z f s ?_;have ed:aw (exB B x y) Z=aw B Z^^^2^x:=PC λj=>by
    rw[aI,bP,Qx,aI,Py];by_cases m:y=j
    .subst m;have:¬x=y:=λe=>by rw[e,u]at a;cases a.2
     simp[u,this]
    .by_cases r:x=j
     .subst r;simp[a.1,a.2,m]
     .simp[m,r]
   have:=M1.iV (Px (iQ B Z) v) w;rw[ed];lia
  .have A:¬g Z=R:=λh=>L (.inl h);have H:¬i Z=R:=λh=>L (.inr h);exact#[λh=>absurd h A,λh=>absurd h H]
theorem Cq{cols:List Nat}(a:k<8):rkC cols (s|||2^k)=rkC cols s↔cv (av cols s) (cols.getD k 0):=by
 rw[yo cols a];show rkX _=rkX _↔_;constructor
 .intro h;refine PU λb=> ?_;rw[kW b]at h;lia
 .exact qL
theorem DF{cols:List Nat}(d:k<8):cv (av cols (s|||2^k)) x↔cv (av cols s) x\/cv (av cols s) (x^^^cols.getD k 0):=by
 rw[<-cv.snoc];constructor
 .refine λh=>h.sub λv a=> ?_;obtain⟨j,c,b,rfl⟩:=cP.mp a;rw[a9]at b;by_cases e:k=j
  .subst e;exact .of_mem (Qj _ (PR.mpr rfl))
  .rw[Pc e,Ry]at b;exact .of_mem (Rf _ (cP.mpr #[j,c,b,2]))
 .refine λh=>h.sub λv a=> ?_;rcases Pz.mp a with a|a
  .obtain⟨j,c,b,rfl⟩:=cP.mp a;exact .of_mem (cP.mpr #[j,c,by rw[a9,b];rfl,2])
  .rw[PR.mp a];exact .of_mem (cP.mpr #[k,d,by rw[a9];simp,2])
theorem A0(cols:List Nat)(A:n<=8)(i:G<2^n)(hf:rkC cols (2^n-1)=R):ix (rkC cols) G R:=by
 intro C x z y v B _ mem _ hr p1 p2 K L N O;have M:=mH (n:=n) cols A;have g:=B.lt i;have lt:∀t∈[x,z,y,v],t<n:=λt H=>bF i (mem t H).1;have m:=lt x #[5];have p:=lt z #[5];have o:=lt y #[5];have l:=lt v #[5];have non:∀ {u w},u<n->w<n->bq (rkC cols) C (rkC cols C) u w->¬cv (av cols C) (cols.getD w 0)/\¬cv (av cols C) (cols.getD w 0^^^cols.getD u 0):=λ{u w} J b h=>by
  have f:=M.AO g J b rfl h;have c:¬cv (av cols (C|||2^u)) (cols.getD w 0):=λe=>by have:=(Cq (cols:=cols) (s:=C|||2^u) (k:=w) ()).mpr e;unfold bq at h;lia
  rw[DF ()]at c;exact#[λe=>c (.inl e),λe=>c (.inr e)]
 have all:∀ {w},w<n->cv (av cols (C|||2^x|||2^z)) (cols.getD w 0):=λ{w} b=>by have j:C|||2^x|||2^z<2^n:=aM (aM g m) p;refine(Cq ()).mp ?_;have a1:=(M.step _ w j b).1;have a2:=M.mono (bD (aM j b)) (aH n);unfold bq at p1;lia
 have top:∀ {w},w<n->bq (rkC cols) C (rkC cols C) x w->bq (rkC cols) C (rkC cols C) z w->cv (av cols C) (cols.getD w 0^^^cols.getD z 0^^^cols.getD x 0):=λ{w} b f c=>by
  have a:=all b;rw[DF (),DF (),DF ()]at a;have d:=non m b f;have r:=non p b c;rcases a with (a|a)|(a|a)
  .exact absurd a d.1
  .exact absurd a d.2
  .exact absurd a r.2
  .exact a
 have Q:=top o p2 L;have U:=top l K N;have q:=U.xor Q;rw[Mx,Mx]at q;exact(non o l O).2 q
end Bh
namespace Bh
theorem bR:bg 2:=oI 2 ∅
theorem pL(f:bg m):∀(cs:List Nat)(R:List Row),∃(b:List Row)(d:Nat),∀a,rho m R (cs++a)=rho m b a+d
 | [],R=>#[R,0,λa=>rfl]
 |c::cs,R=>by
  rcases pM f c R with h|⟨b,h⟩
  .obtain⟨R2,d,e⟩:=pL f cs R;exact#[R2,d,λa=>(h _).trans (e a)]
  .obtain⟨R2,d,e⟩:=pL f cs b;exact#[R2,d+1,λa=>by rw[T8,h,e];lia]
theorem IP(h:(2:Int)∣a*d-c*b)(f:¬(2:Int)∣a)(i:¬(2:Int)∣d):¬(2:Int)∣b:=λg=>by
 have e:(2:Int)∣a*d:=by have:=S9 g (Int.dvd_mul_left c b);lia
 rcases bR.mul _ _ e with e|e
 .exact f e
 .exact i e
theorem Lr(h:(2:Int)∣a*d-c*b)(i:¬(2:Int)∣a)(m:¬(2:Int)∣b):(2:Int)∣c-d:=by
 have e:a*(d-c)=a*d-a*c:=Rj ..;have k:c*(a-b)=c*a-c*b:=Rj ..;have l:(2:Int)∣c*(a-b):=S9 (show(2:Int)∣a-b by lia) (Int.dvd_mul_left c _);have j:c*a=a*c:=Qn ..;have g:(2:Int)∣a*(d-c):=()
 rcases bR.mul _ _ g with f|f
 .exact absurd f i
 .lia
theorem GR(h:(2:Int)∣a-b)(f:(2:Int)∣c-d):(2:Int)∣a*d-c*b:=by have e:(a-b)*d=a*d-b*d:=SE ..;have i:(c-d)*b=c*b-d*b:=SE ..;have g:d*b=b*d:=Qn ..;have:=S9 h (SX _ d);have:=S9 f (SX _ b);lia
theorem vR(h:∀a∈R,(2:Int)∣a j-a k):¬ng 2 R [j,k]:=λf=>by obtain⟨p,q,x,y,_,g1,g2,g3⟩:=uO.mp f;rw[sV]at g3;exact g3 (GR (h x (Pq g1)) (h y (Pq g2)))
theorem vQ(h:¬ng 2 R [j,k])(m:ng 2 R [j])(n:ng 2 R [k]):∀a∈R,(2:Int)∣a j-a k:=by
 obtain⟨x,f,g⟩:=uP.mp m;obtain⟨y,o,s⟩:=uP.mp n;have D:∀a∈R,∀b∈R,(2:Int)∣a j*b k-b j*a k:=λa c b i=>by
  obtain⟨p,d⟩:=Qm c;obtain⟨q,e⟩:=Qm i;rcases Nat.lt_trichotomy p q with l|l|l
  .cases Classical.em ((2:Int)∣a j*b k-b j*a k)with
   |inl z=>exact z
   |inr z=>exact absurd (uO.mpr #[p,q,a,b,l,d,e,by rw[sV];exact z]) h
  .subst l;have:a=b:=Qq (d.symm.trans e);subst this;lia
  .cases Classical.em ((2:Int)∣b j*a k-a j*b k)with
   |inl z=>lia
   |inr z=>exact absurd (uO.mpr #[q,p,b,a,l,e,d,by rw[sV];exact z]) h
 have r:=IP (D x f y o) g s;exact λa c=>Lr (D x f a c) g r
theorem Gj(s:rho 2 R [x,z]=2)(r:rho 2 R [x,y]=2)(q:rho 2 R [x,v]=2)(zy:rho 2 R [z,y]=2)(U:rho 2 R [z,v]=2)(Q:rho 2 R [y,v]=2)(M:rho 2 R [x,z,y]<=2)(N:rho 2 R [x,z,v]<=2)(O:rho 2 R [x,y,v]<=2):False:=by
 have b:=bR;rcases nN 2 x R with h|⟨p,A,B,e,n⟩
 .have t:rho 2 R (x::[z])=rho 2 R [z]:=fh b ((gq b R [z]).zeroC h);have l:=pK b z [] R;rw[iO b]at l;lia
 .have pv:∀cs,rho 2 R (x::cs)=rho 2 ((A++B).map (bV 1 p x)) cs+1:=λcs=>fh b ((gq b _ cs).pivot b e n);have key:∀j k,rho 2 R [x,j]=2->rho 2 R [x,k]=2->rho 2 R [j,k]=2->rho 2 R [x,j,k]<=2->¬(2:Int)∣p j-p k:=λj k H J K L m=>by
   rw[pv]at H J L;have f1:ng 2 ((A++B).map (bV 1 p x)) [j]:=(kJ b _ _).mp (by show _=1;lia);have f2:ng 2 ((A++B).map (bV 1 p x)) [k]:=(kJ b _ _).mp (by show _=1;lia);have w:¬ng 2 ((A++B).map (bV 1 p x)) [j,k]:=λz=>by have:=(kJ b _ _).mpr z;have:rho 2 ((A++B).map (bV 1 p x)) [j,k]=2:=this;lia
   have G:=vQ w f1 f2;refine vR (R:=R) (j:=j) (k:=k) (λa c=> ?_) ((kJ b _ _).mp K);rw[e]at c;have f:a=p\/a∈A++B:=by
    rw[Pz,Pk]at c;rw[Pz];rcases c with c|c|c
    .exact .inr (.inl c)
    .exact .inl c
    .exact .inr (.inr c)
   rcases f with rfl|f
   .exact m
   .have g:=G _ (Sf f);have o:∀i,bV 1 p x a i=a i*p x-p i*a x:=λi=>Int.fdiv_one _;rw[o,o]at g;have t:(a j-a k)*p x=a j*p x-a k*p x:=SE ..;have l:(p j-p k)*a x=p j*a x-p k*a x:=SE ..;have e3:=S9 m (SX _ (a x));have u:(2:Int)∣(a j-a k)*p x:=()
    rcases b.mul _ _ u with d|d
    .exact d
    .exact absurd d n
  have k1:=key z y s r zy M;have k2:=key z v s q U N;have k3:=key y v r q Q O;lia
theorem Bk(L:List Row)(lt:∀t∈[x,z,y,v],t<8)(p1:bq (bE 2 L) C (bE 2 L C) x z)(p2:bq (bE 2 L) C (bE 2 L C) x y)(A:bq (bE 2 L) C (bE 2 L C) x v)(B:bq (bE 2 L) C (bE 2 L C) z y)(G:bq (bE 2 L) C (bE 2 L C) z v)(H:bq (bE 2 L) C (bE 2 L C) y v)(top:∀s∈[x,z,y,v],∀t∈[x,z,y,v],∀u∈[x,z,y,v],bE 2 L (C|||2^s|||2^t|||2^u)<=bE 2 L C+2):False:=by
 have i:=bR;obtain⟨o,d,m⟩:=pL i (ao C) L;have p:bE 2 L C=d:=by have:=m [];rwa[Q0,iO i,RE]at this
 have b:∀s∈[x,z,y,v],∀t∈[x,z,y,v],bq (bE 2 L) C (bE 2 L C) s t->rho 2 o [s,t]=2:=λs k t l w=>by
  have e:bE 2 L (C|||2^s|||2^t)=rho 2 L (ao C++[s,t]):=fO i λj=>by rw[iu (lt t l),Pk,iu (lt s k),Pk,Pz,Pk,Pk];simp only[P7,RH];exact#[λh=>by rcases h with h|h|h;exact .inr (.inr h);exact .inr (.inl h);exact .inl h,λh=>by rcases h with h|h|h;exact .inr (.inr h);exact .inr (.inl h);exact .inl h]
  have r:bE 2 L (C|||2^s|||2^t)=bE 2 L C+2:=w;rw[e,m,p]at r;lia
 have n:∀s∈[x,z,y,v],∀t∈[x,z,y,v],∀u∈[x,z,y,v],rho 2 o [s,t,u]<=2:=λs k t l u q=>by
  have e:bE 2 L (C|||2^s|||2^t|||2^u)=rho 2 L (ao C++[s,t,u]):=fO i λj=>by rw[iu (lt u q),Pk,iu (lt t l),Pk,iu (lt s k),Pk,Pz,Pk,Pk,Pk];simp only[P7,RH];exact#[λh=>by rcases h with h|h|h|h;exact .inr (.inr (.inr h));exact .inr (.inr (.inl h));exact .inr (.inl h);exact .inl h,λh=>by rcases h with h|h|h|h;exact .inr (.inr (.inr h));exact .inr (.inr (.inl h));exact .inr (.inl h);exact .inl h]
  have:=top s k t l u q;rw[e,m,p]at this;lia
 have a:x∈[x,z,y,v]:=#[5]
 have g:z∈[x,z,y,v]:=#[5]
 have f:y∈[x,z,y,v]:=#[5]
 have c:v∈[x,z,y,v]:=#[5]
 exact Gj (b x a z g p1) (b x a y f p2) (b x a v c A) (b z g y f B) (b z g v c G) (b y f v c H) (n x a z g y f) (n x a z g v c) (n x a y f v c)
theorem CM(L:List Row)(a:n<=8)(b:G<2^n)(m:bE 2 L (2^n-1)=R):ix (bE 2 L) G R:=by intro C x z y v c q e o p p1 p2 i j k l;have lt:∀t∈[x,z,y,v],t<n:=λt h=>bw b (e t h).1;have M:=jc bR L a;refine Bk L (λt h=>Pg (lt t h) a) p1 p2 i j k l λs d t f u g=> ?_;have:=M.mono (bD (aM (aM (aM (c.lt b) (lt s d)) (lt t f)) (lt u g))) (aH n);lia
def bz(f:Nat->Nat->Int)(J:List Nat):List Row:=J.map λi t=>f t i
theorem Bj{L:List Row}{cs:List Nat}(h:L.length=cs.length):ng m L cs↔¬m∣aK L cs:=by
 constructor
 .rintro⟨S,a,b,c⟩;have:S=L:=a.eq_of_length (b.trans h.symm);rw[<-this];exact c
 .exact λz=>#[L,List.Sublist.refl _,h,z]
theorem cI(b:bg m){L:List Row}{cs:List Nat}(h:L.length=R)(a:cs.length=R):rho m L cs=R↔¬m∣aK L cs:=by rw[<-Bj (h.trans a.symm),<-kJ b,a]
theorem Ac(a:bg m)(f:Nat->Nat->Int){cs:List Nat}(hl:cs.length=R)(b:Van m (k+1) (cs.map λt j=>f t j) (List.range R))(c:Mnr m k (cs.map λt j=>f t j) (List.range R)):
  k=R↔rho m (bz f (List.range R)) cs=R:=by
 have e:rho m (cs.map λt j=>f t j) (List.range R)=k:=fh a #[b,c.not_van];rw[<-e,cI a (by rw[My,hl]) (Pw ..),cI a (by unfold bz;rw[My,Pw]) hl,kQ f (List.range R) cs (by rw[Pw,hl])];rfl
theorem mr(c:bg m)(L:List Row)(cs:List Nat):rho m L cs<=L.length:=by obtain⟨r,d,S,T,a,e,b,f,g⟩:=jv c cs L;rw[fh c #[d,Mnr.not_van #[S,T,a,e,b,f,g]],<-b];exact a.length_le
theorem nj(n:bg m)(f:Nat->Nat->Int)(g:Nat->Nat):∀(I J:List Nat),I.Nodup->J.Nodup->(∀i∈I,i∈J)->(∀i∈I,∀j∈J,f (g i) j=if j=i then 1 else 0)->
  ∃d:List Nat,d.Nodup/\(∀j,j∈d↔j∈J/\j∉I)/\∀l,rho m (bz f J) (I.map g++l)=rho m (bz f d) l+I.length
 | [],J,_,q,_,_=>#[J,q,λj=>#[5],λl=>rfl]
 |i::I,J,L,q,r,s=>by
  obtain⟨A,B,e⟩:=SM (r i Pt);subst e;have u:=Qr.mp L;have K:(A++B).Nodup:=(List.Sublist.append (List.Sublist.refl A) (List.sublist_cons_self i B)).nodup q;have v:i∉A++B:=λz=>by
   have o:=RB.mp q;rw[Pz]at z;rcases z with z|z
   .exact o.2.2 i z i Pt rfl
   .exact(Qr.mp o.2.1).1 z
  have p:∀j,j∈A++i::B↔j=i\/j∈A++B:=λj=>by rw[Pz,Pk,Pz];exact#[λh=>by rcases h with h|h|h;exact .inr (.inl h);exact .inl h;exact .inr (.inr h),λh=>by rcases h with h|h|h;exact .inr (.inl h);exact .inl h;exact .inr (.inr h)]
  obtain⟨d,o,y,G⟩:=nj n f g I (A++B) u.2 K (λj c=>by
   rcases(p j).mp (r j (Po _ c))with z|z
   .exact absurd (z▸c) u.1
   .exact z) λj c k H=>s j (Po _ c) k ((p k).mpr (.inr H))
  refine#[d,o,λj=> ?_,λl=> ?_]
  .rw[y,p,Pk];constructor
   .rintro⟨a,b⟩;exact#[.inr a,λz=>by rcases z with z|z;exact v (z▸a);exact b z]
   .rintro⟨a,b⟩;exact#[by rcases a with a|a;exact absurd (.inl a) b;exact a,λz=>b (.inr z)]
  .have w:bz f (A++i::B)=(A.map λi t=>f t i)++(λt=>f t i)::(B.map λi t=>f t i):=by unfold bz;rw[Qs,Qb]
   have u1:f (g i) i=1:=by rw[s i Pt i (r i Pt),Pd rfl]
   have x:((A.map λi t=>f t i)++(B.map λi t=>f t i)).map (bV 1 (λt=>f t i) (g i))=bz f (A++B):=by unfold bz;rw[<-Qs,P8];refine Qt λj c=> ?_;funext t;show(f t j*f (g i) i-f t i*f (g i) j).fdiv 1=f t j;rw[Int.fdiv_one,u1,s i Pt j ((p j).mpr (.inr c)),Pb (show¬j=i from λz=>v (z▸c))];lia
   have pv:=fh n ((gq n _ (I.map g++l)).pivot n w (by show¬m∣f (g i) i;rw[u1];exact n.one));rw[x,G]at pv;rw[Qb,T8,pv,PM];lia
structure vg(B R:Nat)(g:Nat->Nat):Prop where
 bit:∀i,i<R->B.testBit (g i)=true
 inj:∀i j,i<R->j<R->g i=g j->i=j
 all:∀t,B.testBit t=true->∃i,i<R/\g i=t
structure L7(r:Nat->Nat)(G B R:Nat)(g:Nat->Nat)(f:Nat->Nat->Int):Prop where
 unit:∀i j,i<R->j<R->f (g i) j=if j=i then 1 else 0
 fill:∀y i,G.testBit y=true->B.testBit y=false->i<R->f y i=if r (exB B (g i) y)=R then 1 else 0
theorem EL(t:n<=8)(p:B<2^n)(P:vg B R g)(T:L7 r G B R g f):bE 2 (bz f (List.range R)) B=R:=by
 have d:=bR;obtain⟨k,s,m,o⟩:=nj d f g (List.range R) (List.range R) PZ PZ (λi h=>h) λi c j q=>T.unit i j (Pf.mp c) (Pf.mp q);have e:k=[]:=by
  cases k with
  |nil=>rfl
  |cons a l=>
   have:=(m a).mp Pt;exact absurd this.1 this.2
 have:=o [];rw[e,iO d,Q0,Pw,RE]at this;refine(fO d λj=> ?_).trans this;rw[aJ,Pl];constructor
 .rintro⟨_,b⟩;obtain⟨i,c,e⟩:=P.all j b;exact#[i,Pf.mpr c,e]
 .rintro⟨i,c,rfl⟩;have b:=P.bit i (Pf.mp c);have:=bw p b;exact#[9,b]
theorem Kn{n B R:Nat}{G:Nat}(n8:n<=8)(M:B<2^n)(N:G<2^n)(P:vg B R g)(T:L7 r G B R g f)(m:p<R)(H:G.testBit y=true)(Q:B.testBit y=false):
  bE 2 (bz f (List.range R)) (exB B (g p) y)=R↔r (exB B (g p) y)=R:=by
 have d:=bR;have s:∀i,i∈(List.range R).erase p↔i≠p/\i∈List.range R:=λi=>PZ.mem_erase_iff;obtain⟨t,v,K,L⟩:=nj d f g ((List.range R).erase p) (List.range R) (PZ.erase p) PZ (λi h=>(s i).mp h|>.2) λi c j O=>T.unit i j (Pf.mp ((s i).mp c).2) (Pf.mp O);have m1:∀j,j∈t↔j=p:=λj=>by
  rw[K,s,Pf];constructor
  .rintro⟨a,b⟩;exact PU λz=>b #[z,a]
  .rintro rfl;exact#[m,λz=>z.1 rfl]
 have e:t=[p]:=by
  match t,v,m1 with
  | [],_,m1=>exact absurd ((m1 p).mpr rfl) P7
  | [a],_,m1=>rw[(m1 a).mp Pt]
  |a::b::l,v,m1=>
   have:=(m1 a).mp Pt;have:=(m1 b).mp (Po _ Pt);have q:=(Qr.mp v).1;exact absurd (by subst_vars;exact Pt) q
 have ln:((List.range R).erase p).length+1=R:=by rw[Sb (Pf.mpr m),Pw];lia
 have k:=L [y];rw[e]at k;have J:bE 2 (bz f (List.range R)) (exB B (g p) y)=rho 2 (bz f [p]) [y]+((List.range R).erase p).length:=by
  refine(fO d λj=> ?_).trans k;rw[aJ,bP,Pz,Pl,PR,P0,PD];constructor
  .rintro⟨U,b|b⟩
   .by_cases z:g p=j
    .rw[Pe z,<-z,P.bit p m]at b;cases b
    .rw[Pc z,SR]at b;obtain⟨i,c,A⟩:=P.all j b;exact .inl #[i,(s i).mpr #[λq=>z (q▸A),Pf.mpr c],A]
   .exact .inr b.symm
  .rintro(⟨i,c,rfl⟩|rfl)
   .have c:=(s i).mp c;have lt:=Pf.mp c.2;have b:=P.bit i lt;have:=bw M b;refine#[9, .inl ?_];rw[b,Pc λq=>c.1 (P.inj p i m lt q).symm];rfl
   .have:=bw N H;exact#[9, .inr rfl]
 have one:rho 2 (bz f [p]) [y]=1↔¬(2:Int)∣f y p:=by have:=(kJ d (bz f [p]) [y]).trans uP;refine this.trans #[λ⟨x,w,h⟩=> ?_,λh=>#[_,PR.mpr rfl,h]];have w:=PR.mp w;subst w;exact h
 rw[J];have u:=T.fill y p H Q m;have:rho 2 (bz f [p]) [y]<=1:=mr d _ _;constructor
 .intro h;have o:=one.mp ();rw[u]at o;cases Classical.em (r (exB B (g p) y)=R)with
  |inl z=>exact z
  |inr z=>rw[Pb z]at o;exact absurd (Qa _) o
 .intro h;rw[Pd h]at u;have:=one.mpr (by rw[u];exact d.one);lia
theorem qC(M:Mat n r)(m:r (2^n-1)=R)(a:G<2^n)(c:Sub B G)(w:sz B=R)(v:r B=R)(P:vg B R g)(T:L7 r G B R g f)(no:ix r G R)(l:Sub Z G)(z:sz Z=R):r Z=R↔bE 2 (bz f (List.range R)) Z=R:=by
 have b:=M.n8;have e:=bR;have M2:=jc e (bz f (List.range R)) b;have h:=EL b (c.lt a) P T;have lt:=c.lt a;have i:Sub B (2^n-1):=λj o=>by rw[PY];exact Pe (bw lt o)
 have f2:bE 2 (bz f (List.range R)) (2^n-1)=R:=by
  have A:=M2.mono i (by have:=Nat.two_pow_pos n;lia);have d:=mr e (bz f (List.range R)) (ao (2^n-1));have k:(bz f (List.range R)).length=R:=by unfold bz;rw[My,Pw]
  have H:bE 2 (bz f (List.range R)) (2^n-1)<=R:=by rwa[k]at d
  lia
 exact vZ M M2 a m f2 no (CM _ b a f2) _ B c w v h (λx y s t u=>by obtain⟨p,q,rfl⟩:=P.all x s;exact(Kn b lt a P T q t u).symm) Z l z rfl
theorem jA{S:Nat}(h:sz S≠0):∃a,S.testBit a=true:=PU λz=>h (by
 have:S=0:=PC λj=>by
  rw[P4];cases e:S.testBit j with
  |false=>rfl
  |true=>exact absurd #[j,e] z
 rw[this];exact c7)
theorem GS{n S:Nat}(p:n<=8)(f:S<2^n)(h:sz S=2):∃a b,a≠b/\S.testBit a=true/\S.testBit b=true/\S=2^a|||2^b:=by
 have j:S<256:=Pg f (PJ ∅ p);obtain⟨a,c⟩:=jA (S:=S) ();have s:=bw f c;have q:=gh S j a () c;obtain⟨b,d⟩:=jA (S:=S^^^2^a) ();have e:=d;rw[c6 c,PX]at e;have ne:a≠b:=λz=>by have:=e.2;rw[Pe z]at this;cases this
 have t:=bw f e.1;have m:S^^^2^a<256:=(cZ c).lt (n:=8) j;have r:=gh (S^^^2^a) m b () d;have o:S^^^2^a^^^2^b=0:=(wb (a:=0) ∅ ((cZ d).lt (n:=8) m) (λk _ l=>by rw[P4]at l;cases l) (by rw[c7];lia)).symm;have g:=fR d;rw[o,So]at g;have i:=fR c;rw[<-g,R7]at i;exact#[a,b,ne,c,e.1,i.symm]
theorem Gi(M:Mat n r)(B:G<2^n)(hf:r (2^n-1)=R)(no:¬ix r G R):
  ∃k w,k<2^n/\w<2^n/\sz k=4/\(∀t,k.testBit t=true->w.testBit t=false)/\sz w+2=R/\dg 4 (cJ r k w) 4 2=true:=by
 unfold ix at no;simp only[Sz]at no;obtain⟨C,x,z,y,v,U,zC,H,N,rC,p1,p2,p3,p4,p5,p6,_⟩:=no;have L:=M.n8;have m:=U.lt B;have lt:∀t∈[x,z,y,v],t<n:=λt h=>bw B (H t h).1;have bk:∀t,(2^x|||2^z|||2^y|||2^v).testBit t=true↔t∈[x,z,y,v]:=λt=>by
  simp only[PN,Py,P0,PD,Pk,P7,RH];constructor
  .rintro(((h|h)|h)|h)<;>simp[h]
  .rintro(h|h|h|h)<;>simp[h]
 have lk:2^x|||2^z|||2^y|||2^v<2^n:=RO _ λi hi=>by
  cases e:(2^x|||2^z|||2^y|||2^v).testBit i with
  |false=>rfl
  |true=>have:=lt i ((bk i).mp e);lia
 have J:=lt x #[5];have lz:=lt z #[5];have ly:=lt y #[5];have lv:=lt v #[5];simp only[Qr,Pk,P7,RH,not_or,List.nodup_nil,and_true,not_false_eq_true]at N;obtain⟨⟨K,n2,n3⟩,⟨n4,n5⟩,n6⟩:=N;have A:(2:Nat)^n<=256:=PJ ∅ L;have l:∀t,t<n->(2:Nat)^t<256:=λt h=>Pg (RR ∅ h) A;have s1:sz (2^x)=1:=by have:=gp (s:=0) ∅ (show x<8 by lia) (P4 x);rwa[So,c7]at this
 have s2:sz (2^x|||2^z)=2:=by rw[gp (l x J) () (by rw[Py];exact Pc K),s1]
 have o:2^x|||2^z<256:=QB (n:=8) (l x J) (l z lz);have s3:sz (2^x|||2^z|||2^y)=3:=by rw[gp o () (by rw[PN,Py,Py,Pc n2,Pc n4];rfl),s2]
 have p:sz (2^x|||2^z|||2^y|||2^v)=4:=by rw[gp (QB (n:=8) o (l y ly)) () (by rw[PN,PN,Py,Py,Py,Pc n3,Pc n5,Pc n6];rfl),s3]
 have u:∀a∈[x,z,y,v],∀b∈[x,z,y,v],a≠b->r (C|||2^a|||2^b)=r C+2:=by have q1:=gr.mp p1;have o:=gr.mp p2;have q3:=gr.mp p3;have q4:=gr.mp p4;have q5:=gr.mp p5;have q6:=gr.mp p6;intro a c b d ne;simp only[Pk,P7,RH]at c d;rcases c with c|c|c|c<;>rcases d with d|d|d|d<;>rw[c,d]<;>first|exact absurd (c.trans d.symm) ne|assumption
 have kl:2^x|||2^z|||2^y|||2^v<256:=Pg lk A;have full:∀s,s<2^n->Sub s (2^n-1):=λs f j g=>by rw[PY];exact Pe (bw f g)
 have top:cJ r (2^x|||2^z|||2^y|||2^v) C (2^4-1)=2:=by
  unfold cJ;have e:=oz kl;rw[p]at e;rw[e];have a1:=M.mono (full _ (QB lk m)) (by have:=Nat.two_pow_pos n;lia);have a2:r (C|||2^x|||2^z)<=r (2^x|||2^z|||2^y|||2^v|||C):=M.mono (λj g=>by
   rw[PN,PN,P0,P0]at g;rw[PN,P0];rcases g with (h|h)|h
   .exact .inr h
   .exact .inl ((bk j).mpr (by rw[Py,PD]at h;simp[h]))
   .exact .inl ((bk j).mpr (by rw[Py,PD]at h;simp[h]))) (QB lk m)
  have a3:=u x #[5] z #[5] (λe=>K e);lia
 refine#[2^x|||2^z|||2^y|||2^v,C,lk,m,p,λt h=>(H t ((bk t).mp h)).2,zC,6];unfold dg;rw[top];simp only[decide_true,Qy,P9,PD];intro s f;unfold dW at f;have f:=PV.mp f;have ai:=Pf.mp f.1;have O:=PH f.2;have zs:sz (aT s (2^x|||2^z|||2^y|||2^v))=2:=by rw[v9 (by rw[p];exact ai)];exact O
 have q:=fq s (2^x|||2^z|||2^y|||2^v);obtain⟨a,b,ne,c,d,Q⟩:=GS L (q.lt lk) zs;have:=u a ((bk a).mp (q a c)) b ((bk b).mp (q b d)) ne;unfold cJ;rw[Q,R7 _ C,<-Rn,this];lia
theorem Mat.pull{n m:Nat}{r:Nat->Nat}(M:Mat n r)(m8:m<=8)(φ:Nat->Nat)(h0:φ 0=0)(l:∀s,s<2^m->φ s<2^n)(f:∀k,k<m->(∀s,φ (s|||2^k)=φ s)\/∃j,j<n/\∀s,φ (s|||2^k)=φ s|||2^j):Mat m (λs=>r (φ s)) where
 n8:=m8
 zero:=by show r (φ 0)=0;rw[h0];exact M.zero
 step:=λs k i g=>by
  show r (φ s)<=r (φ (s|||2^k))/\r (φ (s|||2^k))<=r (φ s)+1;rcases f k g with h|⟨j,e,h⟩
  .rw[h];lia
  .rw[h];exact M.step _ j (l s i) e
 sub:=λs j k i e g c d=>by
  have c:r (φ (s|||2^j))=r (φ s):=c;have d:r (φ (s|||2^k))=r (φ s):=d;show r (φ (s|||2^j|||2^k))=r (φ s);rcases f k g with h|⟨b,o,h⟩
  .rw[h];exact c
  .rcases f j e with h'|⟨a,ha,h'⟩
   .rw[h,h',<-h];exact d
   .rw[h,h'];rw[h]at d;rw[h']at c;exact M.sub _ a b (l s i) ha o c d
theorem Mat.coloop{m p:Nat}{r:Nat->Nat}(M:Mat m r)(hl:∀s,r (s|||2^p)=r s):Mat m (λs=>r s+if s.testBit p=true then 1 else 0) where
 n8:=M.n8
 zero:=by show r 0+(if(0:Nat).testBit p=true then 1 else 0)=0;rw[M.zero,P4];rfl
 step:=λs k f g=>by
  show r s+_<=r (s|||2^k)+_/\r (s|||2^k)+_<=r s+_+1;have a:=M.step s k f g;by_cases e:k=p
  .subst e;rw[hl];have:(s|||2^k).testBit k=true:=by rw[PN,Py];simp
   rw[Pd this];split<;>lia
  .have:(s|||2^k).testBit p=s.testBit p:=by rw[PN,Py,Pc e,Ry]
   rw[this];split<;>lia
 sub:=λs j k f l g b d=>by
  have b:r (s|||2^j)+(if(s|||2^j).testBit p=true then 1 else 0)=r s+(if s.testBit p=true then 1 else 0):=b;have d:r (s|||2^k)+(if(s|||2^k).testBit p=true then 1 else 0)=r s+(if s.testBit p=true then 1 else 0):=d;show r (s|||2^j|||2^k)+(if(s|||2^j|||2^k).testBit p=true then 1 else 0)=r s+(if s.testBit p=true then 1 else 0);have t:=M.step s j f l;have u:=M.step s k f g;have n:(s|||2^j).testBit p=(s.testBit p||decide (j=p)):=by rw[PN,Py]
  have o:(s|||2^k).testBit p=(s.testBit p||decide (k=p)):=by rw[PN,Py]
  have q:(s|||2^j|||2^k).testBit p=(s.testBit p||decide (j=p)||decide (k=p)):=by rw[PN,PN,Py,Py]
  rw[n]at b;rw[o]at d;rw[q];have c:=M.sub s j k f l g;cases e:s.testBit p with
  |true=>
   rw[e]at b d;simp only[Bool.true_or,Pd]at b d⊢;rw[c () ()]
  |false=>
   rw[e]at b d;by_cases h:j=p
   .subst h;rw[hl]at b;simp at b
   .by_cases i:k=p
    .subst i;rw[hl]at d;simp at d
    .simp only[Pc h,Pc i,Ry]at b d⊢;rw[c () ()]
def cA(p s:Nat):Nat:=2^p*(s/2^(p+1))+s % 2^p
def fX(p s:Nat):Nat:=2^(p+1)*(s/2^p)+s % 2^p
theorem gJ(p s j:Nat):(cA p s).testBit j=if j<p then s.testBit j else s.testBit (j+1):=by
 unfold cA;rw[TR _ (SS _ (Nat.two_pow_pos p))];split
 .rename_i h;rw[Sg,Pe h,Qy]
 .rename_i h;rw[RT];congr 1;lia
theorem fT(p s j:Nat):(fX p s).testBit j=if j<p then s.testBit j else if j=p then false else s.testBit (j-1):=by
 unfold fX;rw[TR _ (Pg (SS _ (Nat.two_pow_pos p)) (PJ ∅ (Nat.le_succ p)))];by_cases h:j<p
 .rw[Pd h,Pd (),Sg,Pe h,Qy]
 .rw[Pb h];by_cases e:j=p
  .rw[Pd e,Pd (),Sg,Pc h,Qv]
  .rw[Pb e,Pb (),RT];congr 1;lia
theorem qB(p s:Nat):cA p (fX p s)=s:=PC λj=>by
 rw[gJ];split
 .rename_i h;rw[fT,Pd h]
 .rename_i h;rw[fT,Pb (),Pb ()];rfl
theorem ES(p:Nat):cA p 0=0:=by unfold cA;simp
theorem xN(c:p<=n)(a:s<2^(n+1)):cA p s<2^n:=RO _ λi b=>by rw[gJ,Pb ()];exact Qk (Pg a (PJ ∅ ()))
theorem kz(p s:Nat):cA p (s|||2^p)=cA p s:=PC λj=>by
 rw[gJ,gJ,PN,PN,Py,Py];split
 .rw[Pc (show¬p=j by lia),Ry]
 .rw[Pc (show¬p=j+1 by lia),Ry]
theorem Kw(h:k≠p)(s:Nat):cA p (s|||2^k)=cA p s|||2^(if k<p then k else k-1):=PC λj=>by
 rw[PN,gJ,gJ,PN,PN,Py,Py,Py];by_cases a:j<p
 .rw[Pd a,Pd a];congr 1;refine Q1.mpr ?_;split<;>lia
 .rw[Pb a,Pb a];congr 1;refine Q1.mpr ?_;split<;>lia
theorem Mat.loop(M:Mat n r)(a:p<=n)(d:n<8):Mat (n+1) (λs=>r (cA p s)):=
 M.pull () (cA p) (ES p) (λs b=>xN a b) λk c=>by
  by_cases e:k=p
  .subst e;exact .inl (kz k)
  .exact .inr #[_,by split<;>lia,Kw e]
theorem Mat.inAll(M:Mat n r)(a:p<=n)(b:n<8):Mat (n+1) (λs=>r (cA p s)+if s.testBit p=true then 1 else 0):=
 (M.loop a b).coloop λs=>by rw[kz]
theorem DD:∀s:Nat,s<128->∀p:Nat,p<8->sz (fX p s)=sz s/\fX p s<256/\(fX p s).testBit p=false:=#[9]
theorem xK(a:s<2^n)(c:p<=n):fX p s<2^(n+1):=RO _ λi b=>by rw[fT,Pb (),Pb ()];exact Qk (Pg a (PJ ∅ ()))
theorem Mp(b:n<8)(a:s<2^n):s<128:=Pg a (show 2^n<=2^7 from PJ ∅ ())
def sL:List Nat->(Nat->Int)->Int
 | [],_=>0
 |c::cs,f=>f c+sL cs f
theorem bH:∀ {cs:List Nat},(∀c∈cs,f c=g c)->sL cs f=sL cs g
 | [],_=>rfl
 |c::cs,h=>by unfold sL;rw[h c Pt,bH λd a=>h d (Po _ a)]
theorem fj(c:Nat)(cs:List Nat)(f:Nat->Int):sL (c::cs) f=f c+sL cs f:=rfl
theorem qK(f g:Nat->Int):∀cs,sL cs (λc=>f c+g c)=sL cs f+sL cs g
 | []=>rfl
 |c::cs=>by rw[fj,fj,fj,qK f g cs];lia
theorem fg(a:Int)(f:Nat->Int):∀cs,sL cs (λc=>a*f c)=a*sL cs f
 | []=>by unfold sL;lia
 |c::cs=>by unfold sL;rw[fg a f cs,RP]
theorem jJ:∀ {cs:List Nat},(∀c∈cs,m∣f c)->m∣sL cs f
 | [],_=>Qa m
 |c::cs,h=>Rr (h c Pt) (jJ λd a=>h d (Po _ a))
theorem t6(f g:Nat->Int)(cs:List Nat):sL cs (λc=>f c-g c)=sL cs f-sL cs g:=by have:=qK (λc=>f c-g c) g cs;rw[bH (g:=f) λc _=>()]at this;lia
theorem mq(h:∀c∈cs,m∣f c-g c):m∣sL cs f-sL cs g:=by rw[<-t6];exact jJ h
theorem j9:∀ {cs:List Nat},cs.Nodup->a∈cs->(∀c∈cs,c≠a->f c=0)->sL cs f=f a
 | [],_,h,_=>absurd h P7
 |c::cs,l,i,h=>by
  obtain⟨j,k⟩:=Qr.mp l;unfold sL;by_cases e:c=a
  .subst e;have:sL cs f=0:=by
    have:=bH (f:=f) (g:=λ_=>0*0) (cs:=cs) λd b=>by rw[h d (Po _ b) λz=>j (z▸b)];rfl
    rw[this,fg];lia
   lia
  .rw[h c Pt e,j9 k (by rcases Pk.mp i with z|z;exact absurd z.symm e;exact z) λd b=>h d (Po _ b)];lia
theorem yi(f:Nat->Nat->Int)(bs:List Nat):∀cs,sL cs (λc=>sL bs (f c))=sL bs λb=>sL cs λc=>f c b
 | []=>by have:=fg 0 (λ_=>0) bs;simp only[Ro]at this;exact this.symm
 |c::cs=>by show sL bs (f c)+sL cs (λc=>sL bs (f c))=_;rw[yi f bs cs,<-qK];rfl
def LI(m:Int)(L:List Row)(cs:List Nat):Prop:=∀g:Nat->Int,(∀x∈L,m∣sL cs λc=>g c*x c)->∀c∈cs,m∣g c
theorem j3(d:bg m)(c:¬m∣a)(h:m∣a*b):m∣b:=by
 rcases d.mul _ _ h with z|z
 .exact absurd z c
 .exact z
theorem L8(b:bg m)(g:c∉cs)(h:∀x∈L,m∣x c):¬LI m L (c::cs):=λf=>by
 refine b.one ?_;have:=f (λd=>if d=c then 1 else 0) (λx e=> ?_) c Pt
 .rwa[Pd rfl]at this
 .rw[fj];rw[Pd rfl,QJ];refine Rr (h x e) (jJ λd a=> ?_);rw[Pb (show¬d=c from λz=>g (z▸a)),Ro];exact Qa m
theorem tH(g:Nat->Int)(p x:Row)(c:Nat)(cs:List Nat):sL cs (λd=>g d*bV 1 p c x d)=p c*sL cs (λd=>g d*x d) -x c*sL cs (λd=>g d*p d):=by
 rw[<-fg,<-fg,<-t6];refine bH λd _=> ?_;unfold bV;rw[Int.fdiv_one,Rj];have a:g d*(x d*p c)=p c*(g d*x d):=by rw[<-Qf,Qn]
 have b:g d*(p d*x c)=x c*(g d*p d):=by rw[<-Qf,Qn]
 rw[a,b]
theorem Kg(k:bg m)(w:c∉cs)(e:L=A++p::B)(l:¬m∣p c):LI m L (c::cs)↔LI m ((A++B).map (bV 1 p c)) cs:=by
 have n:p∈L:=by rw[e];exact Qj _ Pt
 constructor
 .intro h g b d hd;have ne:∀d∈cs,¬d=c:=λd hd z=>w (z▸hd);have key:=h (λd=>if d=c then-sL cs (λd=>g d*p d)else p c*g d) (λx f=> ?_) d (Po _ hd)
  .rw[Pb (ne d hd)]at key;exact j3 k l key
  .have o:sL (c::cs) (λd=>(if d=c then-sL cs (λd=>g d*p d)else p c*g d)*x d)=sL cs (λd=>g d*bV 1 p c x d):=by
    rw[tH,fj];generalize sL cs (λd=>g d*p d)=Pp;have q:sL cs (λd=>(if d=c then-Pp else p c*g d)*x d)=p c*sL cs λd=>g d*x d:=by rw[<-fg];refine bH λd hd=> ?_;rw[Pb (ne d hd),Qf]
    rw[q,Pd rfl,Rq,Qn Pp];lia
   rw[o];rw[e]at f;by_cases ex:x∈A++B
   .exact b _ (Pl.mpr #[x,ex,2])
   .have:x=p:=by
     rcases Pz.mp f with z|z
     .exact absurd (Rf _ z) ex
     .rcases Pk.mp z with z|z
      .exact z
      .exact absurd (Qj _ z) ex
    rw[this,tH,QH];exact Qa m
 .intro h g b;have i:∀d∈cs,m∣g d:=h g λy v=>by
   obtain⟨x,f,rfl⟩:=Pl.mp v;have G:x∈L:=by
    rw[e];rcases Pz.mp f with z|z
    .exact Rf _ z
    .exact Qj _ (Po _ z)
   have j:=b x G;have a:=b p n;rw[fj]at j a;rw[tH];have r:p c*sL cs (λd=>g d*x d) -x c*sL cs (λd=>g d*p d)=p c*(g c*x c+sL cs λd=>g d*x d) -x c*(g c*p c+sL cs λd=>g d*p d):=by
    rw[RP,RP];have:p c*(g c*x c)=x c*(g c*p c):=by rw[<-Qf,<-Qf,Qn (p c),Qn (x c),Qf,Qf,Qn (p c)]
    lia
   rw[r];exact Rt (PL j) (PL a)
  intro d hd;rcases Pk.mp hd with rfl|hd
  .have a:=b p n;unfold sL at a;have s:m∣sL cs λe=>g e*p e:=jJ λe u=>Qc (i e u);have t:m∣p d*g d:=by have:=Rt a s;rw[TU]at this;rw[Qn];exact this
   exact j3 k l t
  .exact i d hd
theorem oF(c:bg m)(cs:List Nat)(R:List Row):rho m R cs<=cs.length:=by obtain⟨r,d,S,T,e,a,f,b,g⟩:=jv c cs R;rw[fh c #[d,Mnr.not_van #[S,T,e,a,f,b,g]],<-b];exact a.length_le
theorem iy(a:bg m):∀(cs:List Nat)(L:List Row),cs.Nodup->(rho m L cs=cs.length↔LI m L cs)
 | [],L,_=>by rw[iO a];exact#[λ_ g _ c i=>absurd i P7,λ_=>rfl]
 |c::cs,L,k=>by
  obtain⟨f,j⟩:=Qr.mp k;rcases nN m c L with h|⟨p,A,B,e,d⟩
  .have b:rho m L (c::cs)=rho m L cs:=fh a ((gq a L cs).zeroC h);have l:=oF a cs L;rw[b,PM];exact#[λz=>(),λz=>absurd z (L8 a f h)]
  .have b:rho m L (c::cs)=rho m ((A++B).map (bV 1 p c)) cs+1:=fh a ((gq a _ cs).pivot a e d);rw[b,PM,Kg a f e d,<-iy a cs _ j];lia
theorem aN:bg 3:=oI 3 ∅
def fL(f:Nat->Nat->Int)(R S:Nat):Prop:=∀φ:Nat->Int,(∀t,S.testBit t=true->(3:Int)∣sL (List.range R) λi=>φ i*f t i)->∀i,i<R->(3:Int)∣φ i
theorem qu(k:S<256)(p:sz S=R):bE 3 (bz f (List.range R)) S=R↔fL f R S:=by
 have g:(ao S).length=R:=(aP S).trans p;have c:=aN;show rho 3 _ (ao S)=R↔_;rw[cI c (by unfold bz;rw[My,Pw]) g];have e:=kQ f (List.range R) (ao S) (by rw[Pw,g]);have l:aK (bz f (List.range R)) (ao S)=aK ((ao S).map λt j=>f t j) (List.range R):=e.symm;rw[l,<-cI c (R:=R) (by rw[My,g]) (Pw ..)];have:=iy c (List.range R) ((ao S).map λt j=>f t j) PZ;rw[Pw]at this;rw[this];constructor
 .intro o φ h i d;refine o φ (λx m=> ?_) i (Pf.mpr d);obtain⟨t,a,rfl⟩:=Pl.mp m;exact h t (aJ.mp a).2
 .intro b φ h i d;refine b φ (λt a=> ?_) i (Pf.mp d);exact h _ (Pl.mpr #[t,aJ.mpr #[bw (n:=8) k a,a],2])
theorem Cp(h:Nat->Nat)(F:Nat->Int):∀cs:List Nat,sL (cs.map h) F=sL cs λc=>F (h c)
 | []=>rfl
 |c::cs=>by rw[Qb,fj,fj,Cp h F cs]
theorem Cf(h:¬(3:Int)∣a):(3:Int)∣1-a*a:=by
 have b:a % 3=1\/a % 3=2:=by have:¬a % 3=0:=λz=>h (Sh z);lia
 have e:=Th a 3;refine Sh ?_;rcases b with z|z<;>rw[Int.sub_emod,Int.mul_emod,z]<;>rfl
def bAt(B i:Nat):Nat:=(ao B).getD i 0
theorem lh(c:sz B=R):(List.range R).map (bAt B)=ao B:=by have b:(ao B).length=R:=(aP B).trans c;refine List.ext_getElem (by rw[My,Pw,b]) λi d a=> ?_;rw[T9,List.getElem_range];unfold bAt;simp[a]
theorem bU{B R i:Nat}(b:sz B=R)(a:i<R):B.testBit (bAt B i)=true/\bAt B i<8:=by
 have:bAt B i∈ao B:=by rw[<-lh b];exact Pl.mpr #[i,Pf.mpr a,2]
 have:=aJ.mp this;exact#[this.2,this.1]
theorem iS(g:sz B=R)(h:i<R)(k:j<R)(e:bAt B i=bAt B j):i=j:=by
 have l:(ao B).length=R:=(aP B).trans g;have c:i<(ao B).length:=()
 have d:j<(ao B).length:=()
 have f:(ao B).Nodup:=PZ.filter _;unfold bAt at e;have a:(ao B).getD i 0=(ao B)[i]:=by simp[c]
 have b:(ao B).getD j 0=(ao B)[j]:=by simp[d]
 rw[a,b]at e;exact(T4 f).mp e
theorem gn{B R t:Nat}(a:B<256)(c:sz B=R)(h:B.testBit t=true):∃i,i<R/\bAt B i=t:=by have:t∈ao B:=aJ.mpr #[bw (n:=8) a h,h];rw[<-lh c]at this;obtain⟨i,b,e⟩:=Pl.mp this;exact#[i,Pf.mp b,e]
def jf(f:Nat->Nat->Int)(B R:Nat):Prop:=∀i j,i<R->j<R->f (bAt B i) j=if j=i then 1 else 0
theorem tJ(L:List Row)(n8:n<=8)(H:B<2^n)(m:sz B=R)(rB:bE 3 L B=R)(top:∀s,s<2^n->bE 3 L s<=R):
  ∃κ:Nat->Nat->Int,jf κ B R/\∀S,S<2^n->sz S=R->(bE 3 L S=R↔fL κ R S):=by
 have r:=aN;have B8:B<256:=Pg H (PJ ∅ n8);have lB:(ao B).length=R:=(aP B).trans m;have nd:(ao B).Nodup:=PZ.filter _;have ax:LI 3 L (ao B):=(iy r _ L nd).mp (by rw[lB];exact rB);obtain⟨u,hinv⟩:∃u:Nat->Nat,∀i,i<R->u (bAt B i)=i:=by
  have:∀b,∃i,∀j,j<R->bAt B j=b->i=j:=λb=>by
   by_cases h:∃j,j<R/\bAt B j=b
   .obtain⟨j,p,e⟩:=h;exact#[j,λk J A=>iS m p J (e.trans A.symm)]
   .exact#[0,λj p e=>absurd #[j,p,e] h]
  obtain⟨u,h⟩:=RU this;exact#[u,λi d=>h _ i d rfl]
 have bX:∀h:Nat->Int,(∀x∈L,(3:Int)∣sL (List.range R) λi=>h i*x (bAt B i))->∀i,i<R->(3:Int)∣h i:=λh hh i d=>by
  have:=ax (λb=>h (u b)) (λx f=>by rw[<-lh m,Cp,bH (g:=λi=>h i*x (bAt B i)) λi d=>by rw[hinv i (Pf.mp d)]];exact hh x f) (bAt B i) (by rw[<-lh m];exact Pl.mpr #[i,Pf.mpr d,2])
  rwa[hinv i d]at this
 have key:∀t,t<n->∃k:Nat->Int,(∀x∈L,(3:Int)∣x t-sL (List.range R) λi=>k i*x (bAt B i))/\∀i,i<R->bAt B i=t->∀j,k j=if j=i then 1 else 0:=λt w=>by
  by_cases M:B.testBit t=true
  .obtain⟨i,d,e⟩:=gn B8 m M;refine#[λj=>if j=i then 1 else 0,λx _=> ?_,λj p ej k=> ?_]
   .rw[j9 (a:=i) PZ (Pf.mpr d) λj _ ne=>by show(if j=i then 1 else 0)*x (bAt B j)=0;rw[Pb ne,Ro]];show(3:Int)∣x t- (if i=i then 1 else 0)*x (bAt B i);rw[Pd rfl,QJ,e,QH];exact Qa _
   .rw[iS m p d (ej.trans e.symm)]
  .have tn:t∉ao B:=λz=>M (aJ.mp z).2;have K:¬LI 3 L (t::ao B):=λv=>by have q:=(iy r (t::ao B) L (Qr.mpr #[tn,nd])).mpr v;have G:=top (B|||2^t) (aM H w);rw[pN r (),q,PM,lB]at G;lia
   unfold LI at K;simp only[Sz]at K;obtain⟨g,o,c,l,Q⟩:=K;have gt:¬(3:Int)∣g t:=λz=>by
    have:=ax g λx f=>by have:=o x f;rw[fj]at this;have h4:(3:Int)∣g t*x t:=Qc z;have:=Rt this h4;rwa[Int.add_comm,TU]at this
    rcases Pk.mp l with e|e
    .exact Q (e▸z)
    .exact Q (this c e)
   refine#[λi=> - (g t*g (bAt B i)),λx f=> ?_,λi d e=>absurd (e▸ (bU m d).1) M];have N:=o x f;rw[fj,<-lh m,Cp]at N;have e6:sL (List.range R) (λi=> - (g t*g (bAt B i))*x (bAt B i))= -g t*sL (List.range R) λi=>g (bAt B i)*x (bAt B i):=by rw[<-fg];refine bH λi _=> ?_;rw[<-Qf,Rq,Rq,Rq]
   rw[e6];generalize sL (List.range R) (λi=>g (bAt B i)*x (bAt B i))=s at*;have h7:=Cf gt;have e8:x t- -g t*s=x t*(1-g t*g t)+g t*(g t*x t+s):=by
    rw[Rj,RP,Ri,Rq];have:x t*(g t*g t)=g t*(g t*x t):=by rw[Qn (x t),Qf]
    lia
   rw[e8];exact Rr (PL h7) (PL N)
 have bN:∀t,∃k:Nat->Int,t<n->(∀x∈L,(3:Int)∣x t-sL (List.range R) λi=>k i*x (bAt B i))/\∀i,i<R->bAt B i=t->∀j,k j=if j=i then 1 else 0:=λt=>by
  by_cases w:t<n
  .obtain⟨k,J⟩:=key t w;exact#[k,λ_=>J]
  .exact#[λ_=>0,λz=>absurd z w]
 obtain⟨κ,U⟩:=RU bN;refine#[κ,λi j d p=> ?_,λS O zS=> ?_]
 .exact(U (bAt B i) (bw H (bU m d).1)).2 i d rfl j
 .have S8:S<256:=Pg O (PJ ∅ n8);rw[<-qu S8 zS];have aD:(ao S).Nodup:=PZ.filter _;have lS:(ao S).length=R:=(aP S).trans zS;have i1:=iy r (ao S) L aD;have i2:=iy r (ao S) (bz κ (List.range R)) aD;rw[lS]at i1 i2;show rho 3 L (ao S)=R↔rho 3 _ (ao S)=R;rw[i1,i2];have lt:∀c∈ao S,c<n:=λc l=>bw O (aJ.mp l).2;have sw:∀(g:Nat->Int),∀x∈L,(3:Int)∣sL (ao S) (λc=>g c*x c) -sL (List.range R) λi=>(sL (ao S) λc=>g c*κ c i)*x (bAt B i):=λg x f=>by
   have e1:sL (List.range R) (λi=>(sL (ao S) λc=>g c*κ c i)*x (bAt B i))=sL (ao S) λc=>g c*sL (List.range R) λi=>κ c i*x (bAt B i):=by have A:=yi (λc i=>g c*(κ c i*x (bAt B i))) (List.range R) (ao S);rw[bH (g:=λc=>sL (List.range R) λi=>g c*(κ c i*x (bAt B i))) λc _=>(fg _ _ _).symm,A];refine bH λi _=> ?_;rw[Qn,<-fg];refine bH λc _=> ?_;rw[Qn,Qf]
   rw[e1];refine mq λc l=> ?_;rw[<-Rj];exact PL ((U c (lt c l)).1 x f)
  constructor
  .intro v g o c l;refine v g (λx f=> ?_) c l;have q:=sw g x f;have G:(3:Int)∣sL (List.range R) λi=>(sL (ao S) λc=>g c*κ c i)*x (bAt B i):=jJ λi d=>Qc (o _ (Pl.mpr #[i,d,2]));have:=Rr q G;rwa[Rx]at this
  .intro v g o c l;refine v g (λy hy=> ?_) c l;obtain⟨i,d,rfl⟩:=Pl.mp hy;exact bX (λi=>sL (ao S) λc=>g c*κ c i) (λx f=>by have q:=sw g x f;have:=Rt (o x f) q;rwa[RW]at this) i (Pf.mp d)
theorem JR:(3:Int)∣ -a↔(3:Int)∣a:=Int.dvd_neg
theorem r8{R S:Nat}(h:∀t,S.testBit t=true->∀i,i<R->(3:Int)∣f t i-g t i):fL f R S->fL g R S:=λb φ e=>b φ λt a=>by
 have c:=mq (m:=3) (f:=λi=>φ i*f t i) (g:=λi=>φ i*g t i) (cs:=List.range R) λi d=>by rw[<-Rj];exact PL (h t a i (Pf.mp d))
 have:=Rr c (e t a);rwa[Rx]at this
def Pm(a:Int):Prop:=a=1\/a= -1
theorem Pm.sq(h:Pm a):a*a=1:=by rcases h with rfl|rfl<;>rfl
theorem Pm.mul(h:Pm a)(g:Pm b):Pm (a*b):=by rcases h with rfl|rfl<;>rcases g with rfl|rfl<;>first|exact .inl rfl|exact .inr rfl
theorem Pm.dv(h:Pm a):(3:Int)∣a*b↔(3:Int)∣b:=by
 rcases h with rfl|rfl
 .rw[QJ]
 .rw[Rq,QJ,JR]
theorem r6{d e:Nat->Int}(a:∀i,Pm (d i))(k:∀t,Pm (e t)):fL (λt i=>d i*e t*f t i) R S↔fL f R S:=by
 have key:∀(φ:Nat->Int) t,sL (List.range R) (λi=>φ i*(d i*e t*f t i))=e t*sL (List.range R) λi=>φ i*d i*f t i:=λφ t=>by rw[<-fg];refine bH λi _=> ?_;simp only[Qf,Q3]
 constructor
 .intro b φ h i c;have:=b (λi=>φ i*d i) (λt j=>by rw[key,(k t).dv,bH (g:=λi=>φ i*f t i) λi _=>by rw[Qf (φ i),(a i).sq,Ri]];exact h t j) i c
  rw[Qn]at this;exact(a i).dv.mp this
 .intro b φ h i c;have:=b (λi=>φ i*d i) (λt j=>by have:=h t j;rwa[key,(k t).dv]at this) i c
  rw[Qn]at this;exact(a i).dv.mp this
theorem jq{φ:Nat->Int}{h:Nat->Int}(b:i<R)(c:∀j,j<R->h j=if j=i then 1 else 0):sL (List.range R) (λj=>φ j*h j)=φ i:=by rw[j9 (a:=i) PZ (Pf.mpr b) λj d ne=>by rw[c j (Pf.mp d),Pb ne,Rp],c i b,Pd rfl,Ri]
theorem HG{cs:List Nat}(g:cs.Nodup)(k:a∈cs)(l:b∈cs)(ne:a≠b)(h:∀c∈cs,c≠a->c≠b->(3:Int)∣F c):(3:Int)∣sL cs F- (F a+F b):=by
 have i:sL cs (λc=>if c=a then F a else 0)=F a:=by rw[j9 (a:=a) g k λc _ z=>Pb z,Pd rfl]
 have j:sL cs (λc=>if c=b then F b else 0)=F b:=by rw[j9 (a:=b) g l λc _ z=>Pb z,Pd rfl]
 have f:=qK (λc=>if c=a then F a else 0) (λc=>if c=b then F b else 0) cs;rw[i,j]at f;rw[<-f];refine mq λc m=> ?_;by_cases d:c=a
 .have e:¬c=b:=λz=>ne (d.symm.trans z);rw[Pd d,Pb e,d,RS,QH];exact Qa _
 .by_cases e:c=b
  .rw[Pb d,Pd e,e,QO,QH];exact Qa _
  .rw[Pb d,Pb e,RS,RZ];exact h c m d e
theorem vf{B R i z:Nat}(v:B<256)(m:sz B=R)(u:jf f B R)(g:i<R)(y:B.testBit z=false):fL f R (exB B (bAt B i) z)↔¬(3:Int)∣f z i:=by
 have n:∀t,(exB B (bAt B i) z).testBit t=true↔(B.testBit t=true/\t≠bAt B i)\/t=z:=λt=>by
  rw[bP];by_cases e:bAt B i=t
  .subst e;rw[(bU m g).1];simp;exact TK
  .have w:¬t=bAt B i:=λq=>e q.symm;simp[e,w];exact Sx TK
 constructor
 .intro b h;have:=b (λj=>if j=i then 1 else 0) (λt x=> ?_) i g
  .rw[Pd rfl]at this;exact aN.one this
  .rcases(n t).mp x with ⟨d,l⟩|d
   .obtain⟨j,c,rfl⟩:=gn v m d;rw[jq c λk o=>u j k c o,Pb (λq=>l (by rw[q]))];exact Qa _
   .rw[d,j9 (a:=i) PZ (Pf.mpr g) λj _ ne=>by rw[Pb ne,Ro],Pd rfl,QJ];exact h
 .intro h φ s;have p:∀j,j<R->j≠i->(3:Int)∣φ j:=λj c ne=>by have:=s (bAt B j) ((n _).mpr (.inl #[(bU m c).1,λq=>ne (iS m c g q)]));rwa[jq c λk o=>u j k c o]at this
  have d:=s z ((n z).mpr (.inr rfl));have l:(3:Int)∣sL (List.range R) (λj=>φ j*f z j) -sL (List.range R) (λj=>if j=i then φ i*f z i else 0):=mq λj c=>by
   by_cases e:j=i
   .rw[Pd e,e,QH];exact Qa _
   .rw[Pb e,RZ];exact Qc (p j (Pf.mp c) e)
  rw[j9 (a:=i) PZ (Pf.mpr g) λj _ ne=>Pb ne,Pd rfl]at l;have r:=Rt d l;rw[RW,Qn]at r;intro j c;by_cases e:j=i
  .rw[e];exact j3 aN h r
  .exact p j c e
def mN(l:List Nat):Nat:=l.foldr (λt s=>s|||2^t) 0
theorem fE:∀(l:List Nat)(t:Nat),(mN l).testBit t=true↔t∈l
 | [],t=>by show(0:Nat).testBit t=true↔_;rw[P4];simp
 |a::l,t=>by show(mN l|||2^a).testBit t=true↔_;rw[a9,P0,fE l t,PD,Pk,or_comm];exact or_congr_left TK
theorem Ej{l:List Nat}(b:l.Nodup)(h:∀t∈l,t<8):sz (mN l)=l.length:=by rw[<-aP];have c:(ao (mN l)).Nodup:=PZ.filter _;refine QR (dM c λt a=>(fE l t).mp (aJ.mp a).2) (dM b λt a=>aJ.mpr #[h t a,(fE l t).mpr a])
theorem uR{b:Type}(p:b->Bool):∀l:List b,(l.filter p).length+(l.filter λa=> !p a).length=l.length
 | []=>rfl
 |a::l=>by have:=uR p l;cases h:p a<;>simp[h]<;>lia
structure vq(f:Nat->Nat->Int)(R G k:Nat)(x t:Nat->Nat):Prop where
 lt:∀l,l<=k->x l<R
 inj:∀l m,l<=k->m<=k->x l=x m->l=m
 col:∀l,l<k->G.testBit (t l)=true
 one:∀l,l<k->¬(3:Int)∣f (t l) (x l)
 two:∀l,l<k->¬(3:Int)∣f (t l) (x (l+1))
 no:∀l m,l<k->m<=k->m≠l->m≠l+1->(3:Int)∣f (t l) (x m)
def psi(f:Nat->Nat->Int)(x t:Nat->Nat):Nat->Int
 |0=>1
 |l+1=> - (psi f x t l*(f (t l) (x l)*f (t l) (x (l+1))))
theorem ua(C:vq f R G k x t):∀l,l<=k->¬(3:Int)∣psi f x t l
 |0,_=>aN.one
 |l+1,h=>λz=>by unfold psi at z;rw[JR]at z;have a:=j3 aN (ua C l ()) z;exact C.two l () (j3 aN (C.one l ()) a)
open Classical in
noncomputable def pT(f:Nat->Nat->Int)(x t:Nat->Nat)(k i:Nat):Int:=if h:∃l,l<=k/\x l=i then psi f x t (Classical.choose h)else 0
theorem nC(C:vq f R G k x t)(hl:l<=k):pT f x t k (x l)=psi f x t l:=by unfold pT;have h:∃m,m<=k/\x m=x l:=#[l,hl,2];rw[dif_pos h];have:=Sw h;rw[C.inj _ _ this.1 hl this.2]
theorem pS(h:∀l,l<=k->x l≠i):pT f x t k i=0:=by unfold pT;rw[dif_neg];rintro⟨l,hl,e⟩;exact h l hl e
theorem Dh(C:vq f R G k x t)(hl:l<k)(g:m<k)(e:t l=t m):l=m:=by
 have c:=C.one m g;rw[<-e]at c;have d:=C.two m g;rw[<-e]at d;by_cases a:m=l
 .exact a.symm
 .by_cases b:m=l+1
  .exfalso;exact d (C.no l (m+1) hl () () ())
  .exact absurd (C.no l m hl () a b) c
open Classical in
theorem Gz{B R G k z:Nat}(H:B<256)(p:sz B=R)(u:jf f B R)(C:vq f R G k x t)(L:G<256)(N:G.testBit z=false)(z8:z<8)(y:Sub B G):
  ∃S,Sub S (G|||2^z)/\sz S=R/\∀s,S.testBit s=true↔s=z\/(∃l,l<k/\s=t l)\/∃i,i<R/\(∀l,l<=k->x l≠i)/\s=bAt B i:=by
 have tB:∀l,l<k->B.testBit (t l)=false:=λl hl=>by
  cases e:B.testBit (t l)with
  |false=>rfl
  |true=>
   obtain⟨i,c,w⟩:=gn H p e;have m:=C.one l hl;have r:=C.two l hl;rw[<-w,u i _ c (C.lt l ())]at m;rw[<-w,u i _ c (C.lt (l+1) ())]at r;have J:x l=i:=PU λq=>m (by rw[Pb q];exact Qa _);have K:x (l+1)=i:=PU λq=>r (by rw[Pb q];exact Qa _);have:=C.inj l (l+1) () () (J.trans K.symm);lia
 let out:List Nat:=(List.range R).filter λi=>decide (∀l,l<=k->x l≠i)
 have j:∀i,i∈out↔i<R/\∀l,l<=k->x l≠i:=λi=>by show i∈(List.range R).filter _↔_;rw[PV,Pf,PD]
 have lo:out.length+(k+1)=R:=by
  have m:=uR (λi=>decide (∀l,l<=k->x l≠i)) (List.range R);rw[Pw]at m;have r:((List.range R).filter λi=> !decide (∀l,l<=k->x l≠i)).length=k+1:=by
   have Q:((List.range (k+1)).map x).Nodup:=by
    rw[Rz,SW];refine SO (λ{a b} d g ne e=>ne (C.inj a b ?_ ?_ e)) (Rz.mp (PZ (n:=k+1)))
    .have:=Pf.mp d;lia
    .have:=Pf.mp g;lia
   have e:((List.range (k+1)).map x).length=k+1:=by rw[My,Pw]
   rw[<-e];refine QR (dM (PZ.filter _) λi c=> ?_) (dM Q λi c=> ?_)
   .have c:=(PV.mp c).2;have c:¬∀l,l<=k->x l≠i:=#[5,c]
    simp only[Sz]at c;obtain⟨l,hl,e⟩:=c;exact Pl.mpr #[l,Pf.mpr (),PU e]
   .obtain⟨l,hl,rfl⟩:=Pl.mp c;have hl:=Pf.mp hl;refine PV.mpr #[Pf.mpr (C.lt l ()),6];rw[QY,Ui];exact λq=>q l () rfl
  show((List.range R).filter _).length+_=R;lia
 have ag:out.Nodup:=PZ.filter _
 let lst:List Nat:=z::((List.range k).map t++out.map (bAt B))
 have v:∀s,s∈lst↔s=z\/(∃l,l<k/\s=t l)\/∃i,i<R/\(∀l,l<=k->x l≠i)/\s=bAt B i:=λs=>by
  show s∈z::((List.range k).map t++out.map (bAt B))↔_;rw[Pk,Pz,Pl,Pl];refine Sx (or_congr #[66] #[66])
  .rintro⟨l,hl,rfl⟩;exact#[l,Pf.mp hl,2]
  .rintro⟨l,hl,rfl⟩;exact#[l,Pf.mpr hl,2]
  .rintro⟨i,c,rfl⟩;exact#[i,((j i).mp c).1,((j i).mp c).2,2]
  .rintro⟨i,m,r,rfl⟩;exact#[i,(j i).mpr #[m,r],2]
 have A:∀s,G.testBit s=true->s≠z:=λs o e=>by rw[e,N]at o;cases o
 have U:lst.Nodup:=by
  refine Qr.mpr #[λM=> ?_,RB.mpr #[666]]
  .rcases Pz.mp M with h|h
   .obtain⟨l,hl,e⟩:=Pl.mp h;exact A _ (C.col l (Pf.mp hl)) e
   .obtain⟨i,c,e⟩:=Pl.mp h;exact A _ (y _ (bU p ((j i).mp c).1).1) e
  .rw[Rz,SW];exact SO (λ{a b} d g ne e=>ne (Dh C (Pf.mp d) (Pf.mp g) e)) (Rz.mp (PZ (n:=k)))
  .rw[Rz,SW];exact SO (λ{a b} d g ne e=>ne (iS p ((j a).mp d).1 ((j b).mp g).1 e)) (Rz.mp ag)
  .intro a d b g e;obtain⟨l,hl,rfl⟩:=Pl.mp d;obtain⟨i,c,rfl⟩:=Pl.mp g;have:=tB l (Pf.mp hl);rw[e,(bU p ((j i).mp c).1).1]at this;cases this
 have O:∀s∈lst,s<8:=λs o=>by
  rcases(v s).mp o with rfl|⟨l,hl,rfl⟩|⟨i,c,_,rfl⟩
  .exact z8
  .exact bw (n:=8) L (C.col l hl)
  .exact(bU p c).2
 refine#[mN lst,λs o=> ?_,6,λs=>(fE lst s).trans (v s)]
 .rw[a9,P0,PD];rcases(v s).mp ((fE lst s).mp o)with rfl|⟨l,hl,rfl⟩|⟨i,c,_,rfl⟩
  .exact .inr rfl
  .exact .inl (C.col l hl)
  .exact .inl (y _ (bU p c).1)
 .rw[Ej U O];show(z::((List.range k).map t++out.map (bAt B))).length=R;rw[PM,PK,My,My,Pw];lia
theorem wQ{f h:Nat->Nat->Int}{R G k:Nat}(C:vq f R G k x t)(o:∀s,G.testBit s=true->∀i,i<R->(3:Int)∣f s i-h s i)(hl:l<k)(φ:Nat->Int)(u:∀i,i<R->(∀l,l<=k->x l≠i)->(3:Int)∣φ i):
  (3:Int)∣sL (List.range R) (λi=>φ i*h (t l) i) - (φ (x l)*f (t l) (x l)+φ (x (l+1))*f (t l) (x (l+1))):=by
 have j:(3:Int)∣sL (List.range R) (λi=>φ i*f (t l) i) -sL (List.range R) (λi=>φ i*h (t l) i):=mq λi d=>by rw[<-Rj];exact PL (o _ (C.col l hl) i (Pf.mp d))
 have ne:x l≠x (l+1):=λe=>by have:=C.inj l (l+1) () () e;lia
 have n:=HG (F:=λi=>φ i*f (t l) i) (a:=x l) (b:=x (l+1)) (cs:=List.range R) PZ (Pf.mpr (C.lt l ())) (Pf.mpr (C.lt (l+1) ())) ne λi d p r=>by
  by_cases e:∃m,m<=k/\x m=i
  .obtain⟨m,g,rfl⟩:=e;exact PL (C.no l m hl g (λq=>p (by rw[q])) λq=>r (by rw[q]))
  .exact Qc (u i (Pf.mp d) λm g q=>e #[m,g,q])
 have:=Rt n j;rwa[show∀a b c:Int,a-b- (a-c)=c-b from λa b c=>()]at this
theorem uZ{B R G k z S:Nat}(B8:B<256)(zB:sz B=R)(M:jf h B R)(C:vq f R G k x t)(K:∀s,G.testBit s=true->∀i,i<R->(3:Int)∣f s i-h s i)(o:∀s,S.testBit s=true↔s=z\/(∃l,l<k/\s=t l)\/∃i,i<R/\(∀l,l<=k->x l≠i)/\s=bAt B i):fL h R S↔¬(3:Int)∣sL (List.range R) λi=>pT f x t k i*h z i:=by
 constructor
 .intro b hd;have:=b (pT f x t k) (λs hs=> ?_) (x 0) (C.lt 0 ())
  .rw[nC C ()]at this;exact aN.one this
  .rcases(o s).mp hs with rfl|⟨l,hl,rfl⟩|⟨i,d,g,rfl⟩
   .exact hd
   .have n:=wQ C K hl (pT f x t k) λi _ g=>by rw[pS g];exact Qa _
    rw[nC C (),nC C ()]at n;have u:(3:Int)∣psi f x t l*f (t l) (x l)+psi f x t (l+1)*f (t l) (x (l+1)):=by
     have e:psi f x t l*f (t l) (x l)+psi f x t (l+1)*f (t l) (x (l+1))=psi f x t l*f (t l) (x l)*(1-f (t l) (x (l+1))*f (t l) (x (l+1))):=by show _+ - (psi f x t l*(f (t l) (x l)*f (t l) (x (l+1))))*f (t l) (x (l+1))=_;rw[Rj,Ri,Rq,<-TV];simp only[Qf]
     rw[e];exact PL (Cf (C.two l hl))
    have:=Rr n u;rwa[Rx]at this
   .rw[jq d λj v=>M i j d v,pS g];exact Qa _
 .intro hn φ w;have L:∀i,i<R->(∀l,l<=k->x l≠i)->(3:Int)∣φ i:=λi d g=>by have:=w (bAt B i) ((o _).mpr (.inr (.inr #[i,d,g,2])));rwa[jq d λj v=>M i j d v]at this
  have on:∀l,l<=k->(3:Int)∣φ (x l) -φ (x 0)*psi f x t l:=λl=>by
   induction l with
   |zero=>
    intro _;show(3:Int)∣φ (x 0) -φ (x 0)*1;rw[Ri,QH];exact Qa _
   |succ l ih=>
    intro hl;have i1:=ih ();have n:=wQ C K (show l<k by lia) φ L;have u:=w (t l) ((o _).mpr (.inr (.inl #[l,92])));have A:=Rt u n;rw[RW]at A;have sq:=Cf (C.two l ());show(3:Int)∣φ (x (l+1)) -φ (x 0)* - (psi f x t l*(f (t l) (x l)*f (t l) (x (l+1))));generalize f (t l) (x l)=a at*;generalize f (t l) (x (l+1))=b at*;generalize φ (x l)=p at*;generalize φ (x (l+1))=q at*;generalize φ (x 0)=c at*;generalize psi f x t l=y at*;have e:q-c* -(y*(a*b))=q*(1-b*b)+b*(p*a+q*b) -a*b*(p-c*y):=by
     rw[SD,Rj,RP,Rj,Ri];have N:q*(b*b)=b*(q*b):=by simp only[Qn,Q3]
     have O:b*(p*a)=a*b*p:=by simp only[Qn,Q3]
     have Q:c*(y*(a*b))=a*b*(c*y):=by simp only[Qn,Q3]
     rw[N,O,Q];lia
    rw[e];exact Rt (Rr (PL sq) (PL A)) (PL i1)
  have all:∀i,i<R->(3:Int)∣φ i-φ (x 0)*pT f x t k i:=λi d=>by
   by_cases e:∃m,m<=k/\x m=i
   .obtain⟨m,r,rfl⟩:=e;rw[nC C r];exact on m r
   .have g:∀l,l<=k->x l≠i:=λm r q=>e #[m,r,q];rw[pS g,Rp,RZ];exact L i d g
  have hz:=w z ((o z).mpr (.inl rfl));have H:(3:Int)∣sL (List.range R) (λi=>φ i*h z i) -sL (List.range R) (λi=>φ (x 0)*(pT f x t k i*h z i)):=mq λi d=>by rw[<-Qf,<-SE];exact Qc (all i (Pf.mp d))
  rw[fg]at H;have J:=Rt hz H;rw[RW,Qn]at J;have U:=j3 aN hn J;intro i d;have h7:(3:Int)∣φ (x 0)*pT f x t k i:=Qc U;have:=Rr (all i d) h7;rwa[Rx]at this
def Lay(f:Nat->Nat->Int)(R G:Nat)(P:Nat->Prop):Nat->Nat->Prop
 |0,i=>i<R/\P i
 |k+1,j=>Lay f R G P k j\/(j<R/\∃i,Lay f R G P k i/\∃t,G.testBit t=true/\¬(3:Int)∣f t i/\¬(3:Int)∣f t j)
theorem uD:∀ {k i:Nat},Lay f R G P k i->i<R
 |0,_,h=>h.1
 |_+1,_, .inl h=>uD h
 |_+1,_, .inr h=>h.1
theorem Be{R G:Nat}:∀(k j:Nat),Lay f R G P k j->(∀m,m<k->¬Lay f R G P m j)->∃x t:Nat->Nat,x k=j/\(∀l,l<=k->Lay f R G P l (x l)/\∀m,m<l->¬Lay f R G P m (x l))/\∀l,l<k->G.testBit (t l)=true/\¬(3:Int)∣f (t l) (x l)/\¬(3:Int)∣f (t l) (x (l+1))
 |0,j,h,a=>#[λ_=>j,λ_=>0,2,λl hl=>by
   have:l=0:=()
   subst this;exact#[h,a],λl hl=>absurd hl (Sl _)]
 |k+1,j,h,a=>by
  rcases h with h|⟨p,i,o,n,b,c,d⟩
  .exact absurd h (a k ())
  .obtain⟨x,t,e,s,r⟩:=Be k i o λm v q=>a (m+1) () (.inr #[p,i,q,n,b,c,d]);refine#[λl=>if l=k+1 then j else x l,λl=>if l=k then n else t l,#[5],λl hl=> ?_,λl hl=> ?_]
   .by_cases q:l=k+1
    .subst q;simp only[Pd];exact#[.inr #[p,i,o,n,b,c,d],a]
    .simp only[Pb q];exact s l ()
   .by_cases q:l=k
    .subst q;have g:¬l=l+1:=()
     simp only[Pd,Pb g,e];exact#[b,c,d]
    .have g:¬l=k+1:=()
     have u:¬l+1=k+1:=()
     simp only[Pb q,Pb g,Pb u];exact r l ()
theorem F5(h:Lay f R G P k j)(o:∀m,m<k->¬Lay f R G P m j):∃x t:Nat->Nat,x k=j/\(∀l,l<=k->Lay f R G P l (x l)/\∀m,m<l->¬Lay f R G P m (x l))/\vq f R G k x t:=by
 obtain⟨x,t,e,a,b⟩:=Be k j h o;refine#[x,t,e,a,λl hl=>uD (a l hl).1,λl m hl d q=> ?_,λl hl=>(b l hl).1,λl hl=>(b l hl).2.1,λl hl=>(b l hl).2.2,λl m hl d s u=> ?_]
 .refine PU λne=> ?_;rcases Nat.lt_or_gt_of_ne ne with c|c
  .exact(a m d).2 l c (q▸ (a l hl).1)
  .exact(a l hl).2 m c (q▸ (a m d).1)
 .refine PU λg=> ?_;have i:Lay f R G P (l+1) (x m):= .inr #[uD (a m d).1,x l,(a l ()).1,t l,(b l hl).1,(b l hl).2.1,g];have n:Lay f R G P (m+1) (x (l+1)):= .inr #[uD (a (l+1) ()).1,x m,(a m d).1,t l,(b l hl).1,g,(b l hl).2.2];have p:¬l+1<m:=λq=>(a m d).2 (l+1) q i;have r:¬m+1<l+1:=λq=>(a (l+1) ()).2 (m+1) q n;lia
theorem three(a:Int):(3:Int)∣a\/(3:Int)∣a-1\/(3:Int)∣a+1:=()
theorem Oq(d:¬(3:Int)∣p)(e:¬(3:Int)∣q):¬((3:Int)∣p+q↔(3:Int)∣p-q):=λh=>by
 by_cases c:(3:Int)∣p+q
 .have:=h.mp c;omega
 .have:¬(3:Int)∣p-q:=λz=>c (h.mpr z);rcases three p with a|a|a<;>rcases three q with b|b|b<;>lia
open Classical in
theorem EM{B R G z:Nat}(v:B<256)(o:sz B=R)(uf:jf f B R)(uk:jf κ B R)(hG:G<256)(M:Sub B G)(O:G.testBit z=false)(z8:z<8)(ag:∀t,G.testBit t=true->∀i,i<R->(3:Int)∣f t i-κ t i)(same:∀S,Sub S (G|||2^z)->sz S=R->(fL f R S↔fL κ R S)):
  ∃d e:Nat->Int,(∀i,Pm (d i))/\(∀t,Pm (e t))/\∀t,(G|||2^z).testBit t=true->∀i,i<R->(3:Int)∣f t i-d i*e t*κ t i:=by
 have K:B.testBit z=false:=by
  cases e:B.testBit z with
  |false=>rfl
  |true=>rw[M z e]at O;cases O
 have ar:∀i,i<R->((3:Int)∣f z i↔(3:Int)∣κ z i):=λi g=>by
  have hs:Sub (exB B (bAt B i) z) (G|||2^z):=λt A=>by
   rw[a9,P0,PD];by_cases e:z=t
   .exact .inr e
   .rw[bP]at A;by_cases L:bAt B i=t
    .subst L;exact .inl (M _ (bU o g).1)
    .simp[e,L]at A;exact .inl (M t A)
  have ne:bAt B i≠z:=λq=>by rw[<-q,(bU o g).1]at K;cases K
  have b3:sz (exB B (bAt B i) z)=R:=by have y:=gh B v (bAt B i) (bU o g).2 (bU o g).1;have H:=gp (s:=B^^^2^bAt B i) ((cZ (bU o g).1).lt (n:=8) v) z8 (by rw[c6 (bU o g).1,K];rfl);unfold exB;lia
  have:=same _ hs b3;rw[vf v o uf g K,vf v o uk g K]at this;exact#[λq=>PU λw=>this.mpr w q,λq=>PU λw=>this.mp w q]
 let P:Nat->Prop:=λi=>¬(3:Int)∣f z i/\(3:Int)∣f z i-κ z i
 have a4:∀i,i<R->¬(3:Int)∣f z i->¬(3:Int)∣f z i-κ z i->(3:Int)∣f z i+κ z i:=λi g y H=>by have h3:¬(3:Int)∣κ z i:=λq=>y ((ar i g).mpr q);rcases three (f z i)with a|a|a<;>rcases three (κ z i)with b|b|b<;>lia
 by_cases aD:∃k j,Lay f R G P k j/\¬(3:Int)∣f z j/\¬(3:Int)∣f z j-κ z j
 .exfalso;obtain⟨k,⟨j,N,Q,U⟩,least⟩:∃k,(∃j,Lay f R G P k j/\¬(3:Int)∣f z j/\¬(3:Int)∣f z j-κ z j)/\∀m,m<k->¬∃j,Lay f R G P m j/\¬(3:Int)∣f z j/\¬(3:Int)∣f z j-κ z j:=by
   obtain⟨k,J⟩:=aD;have:∀k,(∃j,Lay f R G P k j/\¬(3:Int)∣f z j/\¬(3:Int)∣f z j-κ z j)->∃k,(∃j,Lay f R G P k j/\¬(3:Int)∣f z j/\¬(3:Int)∣f z j-κ z j)/\∀m,m<k->¬∃j,Lay f R G P m j/\¬(3:Int)∣f z j/\¬(3:Int)∣f z j-κ z j:=λk=>by
    induction k using Nat.strongRecOn with
    |ind k ih=>
     intro h;by_cases c:∃m,m<k/\∃j,Lay f R G P m j/\¬(3:Int)∣f z j/\¬(3:Int)∣f z j-κ z j
     .obtain⟨m,u,q⟩:=c;exact ih m u q
     .exact#[k,h,λm u q=>c #[m,u,q]]
   exact this k J
  obtain⟨x,t,ex,hx,C⟩:=F5 N λm u q=>least m u #[j,q,Q,U];have k0:0<k:=SJ λq=>by subst q;exact U N.2.2
  obtain⟨S,hS,zS,mS⟩:=Gz v o uf C hG O z8 M;have ai:=same S hS zS;rw[uZ v o uf C (λs _ i _=>by rw[QH];exact Qa _) mS,uZ v o uk C ag mS]at ai;have x0:=(hx 0 ()).1.2;have bS:∀l,0<l->l<k->(3:Int)∣f z (x l):=λl y H=>PU λq=>by
   have hl:=hx l ();by_cases c:(3:Int)∣f z (x l) -κ z (x l)
   .exact hl.2 0 y #[C.lt l (),q,c]
   .exact least l H #[x l,hl.1,q,c]
  have two:∀h:Nat->Int,(∀i,i<R->(3:Int)∣f z i->(3:Int)∣h i)->(3:Int)∣sL (List.range R) (λi=>pT f x t k i*h i) - (psi f x t 0*h (x 0)+psi f x t k*h (x k)):=λh hh=>by
   have:=HG (F:=λi=>pT f x t k i*h i) (a:=x 0) (b:=x k) (cs:=List.range R) PZ (Pf.mpr (C.lt 0 ())) (Pf.mpr (C.lt k ())) (λq=>by have:=C.inj 0 k () () q;lia) λi g n1 n2=>by
    by_cases e:∃m,m<=k/\x m=i
    .obtain⟨m,u,rfl⟩:=e;have m0:m≠0:=λq=>n1 (by rw[q]);have mk:m≠k:=λq=>n2 (by rw[q]);exact PL (hh _ (C.lt m u) (bS m () ()))
    .rw[pS λm u q=>e #[m,u,q],Ro];exact Qa _
   rwa[nC C (),nC C ()]at this
  have t1:=two (f z) λi _ q=>q;have t2:=two (κ z) λi g q=>(ar i g).mp q;have xk:(3:Int)∣f z (x k)+κ z (x k):=by rw[ex];exact a4 j (uD N) Q U
  have fk:¬(3:Int)∣f z (x k):=by rw[ex];exact Q
  have u0:=ua C 0 ();have b4:=ua C k ();have np:¬(3:Int)∣psi f x t 0*f z (x 0):=λq=>x0.1 (j3 aN u0 q);have nq:¬(3:Int)∣psi f x t k*f z (x k):=λq=>fk (j3 aN b4 q);refine Oq np nq ?_;have e1:(3:Int)∣sL (List.range R) (λi=>pT f x t k i*f z i)↔(3:Int)∣psi f x t 0*f z (x 0)+psi f x t k*f z (x k):=()
  have L:(3:Int)∣sL (List.range R) (λi=>pT f x t k i*κ z i)↔(3:Int)∣psi f x t 0*f z (x 0) -psi f x t k*f z (x k):=by
   have a1:(3:Int)∣psi f x t 0*f z (x 0) -psi f x t 0*κ z (x 0):=by rw[<-Rj];exact PL x0.2
   have a2:(3:Int)∣psi f x t k*f z (x k)+psi f x t k*κ z (x k):=by rw[<-RP];exact PL xk
   omega
  rw[<-e1,<-L];exact#[λq=>PU λw=>ai.mpr w q,λq=>PU λw=>ai.mp w q]
 .have good:∀k j,Lay f R G P k j->¬(3:Int)∣f z j->(3:Int)∣f z j-κ z j:=λk j y H=>PU λq=>aD #[k,j,y,H,q];refine#[λi=>if∃k,Lay f R G P k i then 1 else-1,λt=>if t=z then 1 else if∃i,(∃k,Lay f R G P k i)/\¬(3:Int)∣f t i then 1 else-1,λi=> ?_,λt=> ?_,λt A i g=> ?_]
  .dsimp only;split
   .exact .inl rfl
   .exact .inr rfl
  .dsimp only;split
   .exact .inl rfl
   .split
    .exact .inl rfl
    .exact .inr rfl
  .dsimp only;by_cases tz:t=z
   .subst tz;rw[Pd rfl,Ri];by_cases p:(3:Int)∣f t i
    .exact Rt p (PL ((ar i g).mp p))
    .by_cases r:∃k,Lay f R G P k i
     .rw[Pd r,QJ];obtain⟨k,J⟩:=r;exact good k i J p
     .rw[Pb r,Rq,QJ,Int.sub_neg];exact a4 i g p λq=>r #[0,g,p,q]
   .have tG:G.testBit t=true:=by
     rw[a9,P0]at A;rcases A with q|q
     .exact q
     .exact absurd (PH q).symm tz
    rw[Pb tz];have a:=ag t tG i g;by_cases p:(3:Int)∣f t i
    .have:(3:Int)∣κ t i:=()
     exact Rt p (PL this)
    .by_cases r:∃k,Lay f R G P k i
     .rw[Pd r,Pd #[i,r,p],QJ,QJ];exact a
     .have c3:¬∃i,(∃k,Lay f R G P k i)/\¬(3:Int)∣f t i:=by rintro⟨i',⟨k,J⟩,h'⟩;exact r #[k+1, .inr #[g,i',J,t,tG,h',p]]
      rw[Pb r,Pb c3,show((-1:Int)* -1)=1 from rfl,QJ];exact a
theorem uniq(v:B<256)(u:sz B=R)(r:jf f B R)(s:jf κ B R):∀(m G:Nat),sz (aw G B)=m->G<256->Sub B G->(∀S,Sub S G->sz S=R->(fL f R S↔fL κ R S))->
  ∃d e:Nat->Int,(∀i,Pm (d i))/\(∀t,Pm (e t))/\∀t,G.testBit t=true->∀i,i<R->(3:Int)∣f t i-d i*e t*κ t i
 |0,G,hm,k,J,same=>by
  refine#[λ_=>1,λ_=>1,λ_=> .inl rfl,λ_=> .inl rfl,λt c i b=> ?_];have tB:B.testBit t=true:=by
   cases e:B.testBit t with
   |true=>rfl
   |false=>
    have U:(aw G B).testBit t=true:=by rw[aI,c,e];rfl
    have o:=gh (aw G B) (Px (iQ _ _) k) t (bw (n:=8) k c) U;lia
  obtain⟨j,a,rfl⟩:=gn v u tB;rw[r j i a b,s j i a b,QJ,QJ,QH];exact Qa _
 |m+1,G,hm,k,J,same=>by
  obtain⟨z,A⟩:=jA (S:=aw G B) ();have L:=A;rw[aI,PX,QY]at L;obtain⟨g,N⟩:=L;have M:=bw (n:=8) k g;have H:=fR g;have K:G^^^2^z<256:=(cZ g).lt (n:=8) k;have ay:(G^^^2^z).testBit z=false:=by rw[c6 g];simp
  have w:Sub B (G^^^2^z):=λt c=>by
   rw[c6 g,J t c];have:¬z=t:=λq=>by rw[q,c]at N;cases N
   simp[this]
  have ax:sz (aw (G^^^2^z) B)=m:=by
   have o:=gh (aw G B) (Px (iQ _ _) k) z M A;have h:aw (G^^^2^z) B=aw G B^^^2^z:=PC λt=>by rw[c6 A,aI,aI,c6 g];cases G.testBit t<;>cases B.testBit t<;>simp
   rw[h];lia
  obtain⟨d,e,x,y,o⟩:=uniq v u r s m (G^^^2^z) ax K w λS p=>same S (p.trans (cZ g));have ub:∀j,j<R->d j*e (bAt B j)=1:=λj a=>by
   have:=o (bAt B j) (w _ (bU u a).1) j a;rw[r j j a a,s j j a a,Pd rfl,Ri]at this;rcases(x j).mul (y (bAt B j))with q|q
   .exact q
   .rw[q]at this;exact absurd this ∅
  have az:jf (λt i=>d i*e t*κ t i) B R:=λi j b a=>by
   show d j*e (bAt B i)*κ (bAt B i) j=_;rw[s i j b a];by_cases q:j=i
   .rw[Pd q,Ri,q];exact ub i b
   .rw[Pb q,Rp]
  obtain⟨l,h,ag,ai,Q⟩:=EM (κ:=λt i=>d i*e t*κ t i) v u r az K w ay M o (by
   intro S p zS;rw[r6 x y];rw[H]at p;exact same S p zS)
  refine#[λi=>l i*d i,λt=>h t*e t,λi=>(ag i).mul (x i),λt=>(ai t).mul (y t),λt c i b=> ?_];have:=Q t (by rw[H];exact c) i b;have O:l i*d i*(h t*e t)*κ t i=l i*h t*(d i*e t*κ t i):=by simp only[Qf,Q3]
  show(3:Int)∣f t i-l i*d i*(h t*e t)*κ t i;rw[O];exact this
def Tern(n:Nat)(r:Nat->Nat):Prop:=∃L:List Row,∀s,s<2^n->r s=bE 3 L s
def D0(f:Nat->Nat->Int)(y:Nat)(c:Nat->Int):Nat->Nat->Int:=λt=>if t=y then c else f t
theorem xI{R S:Nat}(h:∀t,S.testBit t=true->∀i,i<R->(3:Int)∣f t i-g t i):fL f R S↔fL g R S:=
 #[r8 h,r8 λt b i a=>by have:=h t b i a;lia]
theorem GW{n B R G y:Nat}(M:Mat n r)(T:Tern n r)(N:r (2^n-1)=R)(h:B<2^n)(b:sz B=R)(rB:r B=R)(k:G<2^n)(u:Sub B G)(uf:jf f B R)(good:∀S,Sub S G->sz S=R->(fL f R S↔r S=R))(o:y<n)(l:G.testBit y=false):
  ∃c:Nat->Int,(∀i,i<R->0<=c i/\c i<3)/\(∀i,i<R->(¬c i=0↔r (exB B (bAt B i) y)=R))/\∀S,Sub S G->sz S+1=R->(fL (D0 f y c) R (S|||2^y)↔r (S|||2^y)=R):=by
 obtain⟨L,m⟩:=T;have n8:=M.n8;have p:B<256:=M.aV h;have J:G<256:=M.aV k;have top:∀s,s<2^n->bE 3 L s<=R:=λs w=>by rw[<-m s w,<-N];exact M.mono (bD w) (aH n)
 obtain⟨κ,A,O⟩:=tJ L n8 h b (by rw[<-m B h];exact rB) top;have bk:∀S,S<2^n->sz S=R->(fL κ R S↔r S=R):=λS a g=>by rw[<-O S a g,<-m S a]
 obtain⟨d,e,v,K,Q⟩:=uniq p b uf A _ G rfl J u λS a g=>(good S a g).trans (bk S (a.lt k) g).symm;have H:B.testBit y=false:=by
  cases q:B.testBit y with
  |false=>rfl
  |true=>rw[u y q]at l;cases l
 refine#[λi=>d i*κ y i % 3,λi _=>#[QS _ ∅,QI _ ∅],λi j=> ?_,λS a g=> ?_]
 .have U:exB B (bAt B i) y<2^n:=aM (M.jr h (bU b j).1) o;have zx:sz (exB B (bAt B i) y)=R:=(zU M h (bU b j).1 H o).2.trans b;rw[<-bk _ U zx,vf p b A j H,<-(v i).dv];exact#[λq z=>q (Uk z),λq z=>q (Sh z)]
 .have ag:S.testBit y=false:=by
   cases q:S.testBit y with
   |false=>rfl
   |true=>rw[a y q]at l;cases l
  have az:sz (S|||2^y)=R:=by rw[gp (M.aV (a.lt k)) () ag];exact g
  have sc:fL (λt i=>d i*(if t=y then 1 else e t)*κ t i) R (S|||2^y)↔fL κ R (S|||2^y):=r6 (e:=λt=>if t=y then 1 else e t) v λt=>by
   by_cases q:t=y
   .rw[Pd q];exact .inl rfl
   .rw[Pb q];exact K t
  rw[<-bk _ (aM (a.lt k) o) az,<-sc];refine xI λt x i j=> ?_;unfold D0;by_cases q:t=y
  .rw[Pd q,Pd q,q,Ri];have:=Th (d i*κ y i) 3;lia
  .rw[Pb q,Pb q];rw[a9,P0]at x;exact Q t (a t (by rcases x with z|z;exact z;exact absurd (PH z).symm q)) i j
def rj(E R:Nat)(a:Nat->Prop):Prop:=∃L:List Row,(∀s,bE 3 L s<=R)/\∀S,Sub S E->sz S=R->(bE 3 L S=R↔a S)
theorem Ie(h:rj E R β)(b:E<256)(a:Sub B E)(e:sz B=R)(g:β B):∃κ:Nat->Nat->Int,jf κ B R/\∀S,Sub S E->sz S=R->(fL κ R S↔β S):=by obtain⟨L,top,c⟩:=h;obtain⟨κ,j,i⟩:=tJ (n:=8) L (Pu _) (a.lt (n:=8) b) e ((c B a e).mpr g) λs _=>top s;exact#[κ,j,λS d f=>by rw[<-i S (d.lt (n:=8) b) f,c S d f]]
theorem pP(c:E<256)(h:∀S,Sub S E->sz S=R->(fL κ R S↔β S)):rj E R β:=by
 refine#[bz κ (List.range R),λs=> ?_,λS a b=>by rw[qu (a.lt (n:=8) c) b,h S a b]];have:=mr aN (bz κ (List.range R)) (ao s);have e:(bz κ (List.range R)).length=R:=by unfold bz;rw[My,Pw]
 rwa[e]at this
theorem oG(h:rj E R β)(e:∀S,Sub S E->sz S=R->(β S↔γ S)):rj E R γ:=by obtain⟨L,top,c⟩:=h;exact#[L,top,λS a b=>(c S a b).trans (e S a b)]
theorem DV{I:List Nat}(g:I.Nodup)(d:∀i∈I,i<R)(h:∀i,i<R->i∉I->(3:Int)∣F i):(3:Int)∣sL (List.range R) F-sL I F:=by
 have l:∀(I:List Nat),I.Nodup->(∀i∈I,i<R)->sL (List.range R) (λi=>if i∈I then F i else 0)=sL I F:=λI=>by
  induction I with
  |nil=>
   intro _ _;have:=fg 0 (λ_=>0) (List.range R);simp only[Ro]at this;simp only[P7,if_false];exact this
  |cons a I f=>
   intro g d;obtain⟨m,n⟩:=Qr.mp g;have f:=f n λi e=>d i (Po _ e);have k:sL (List.range R) (λi=>if i=a then F i else 0)=F a:=by rw[j9 (a:=a) PZ (Pf.mpr (d a Pt)) λc _ z=>Pb z,Pd rfl]
   have j:=qK (λi=>if i=a then F i else 0) (λi=>if i∈I then F i else 0) (List.range R);rw[k,f]at j;rw[fj,<-j];refine bH λi _=> ?_;by_cases c:i=a
   .subst c;rw[Pd Pt,Pd rfl,Pb m,RS]
   .by_cases b:i∈I
    .rw[Pd (Po _ b),Pb c,Pd b,QO]
    .rw[Pb (by rw[Pk];exact λz=>z.elim c b),Pb c,Pb b,RS]
 rw[<-l I g d];refine mq λi e=> ?_;by_cases c:i∈I
 .rw[Pd c,QH];exact Qa _
 .rw[Pb c,RZ];exact h i (Pf.mp e) c
theorem L9{M:Nat->Nat->Int}{I J:List Nat}(b:I.Nodup)(c:J.Nodup)(e:I.length=J.length):LI 3 (J.map λj i=>M i j) I↔LI 3 (I.map λi j=>M i j) J:=by have a:=aN;rw[<-iy a I _ b,<-iy a J _ c,cI a (R:=I.length) (by rw[My,e]) rfl,cI a (R:=J.length) (by rw[My,e]) rfl,kQ M J I e]
theorem cR(s t:Nat):Sub (aw s t) s:=λk a=>by rw[aI,PX]at a;exact a.1
theorem dN(d:E<256)(c:Sub S E):sz S+sz (aw E S)=sz E:=by
 have:=lO (s:=E) (a:=S) (b:=aw E S) (λk=>S.testBit k) (λk _=>by
  cases e:S.testBit k with
  |false=>rw[Qw]
  |true=>rw[c k e];rfl) (λk _=>by rw[aI])
 lia
theorem oM(a:Sub S E):aw E (aw E S)=S:=PC λk=>by rw[aI,aI];have:=a k;cases b:E.testBit k<;>cases c:S.testBit k<;>simp_all
theorem Ex{B R T:Nat}(s:B<256)(H:sz B=R)(u:jf h B R){I J:List Nat}{y:Nat->Nat}(m:∀i,i∈I↔i<R/\T.testBit (bAt B i)=false)(o:I.Nodup)(v:∀t,T.testBit t=true->B.testBit t=false->∃j∈J,y j=t)(w:∀j∈J,T.testBit (y j)=true):fL h R T↔LI 3 (J.map λj i=>h (y j) i) I:=by
 have lt:∀i∈I,i<R:=λi a=>((m i).mp a).1;constructor
 .intro b g z i a;have:=b (λi=>if i∈I then g i else 0) (λt l=> ?_) i (lt i a)
  .rwa[Pd a]at this
  .cases r:B.testBit t with
   |true=>
    obtain⟨j,c,rfl⟩:=gn s H r;rw[jq c λk f=>u j k c f,Pb (λq=>by rw[((m j).mp q).2]at l;cases l)];exact Qa _
   |false=>
    obtain⟨j,c,rfl⟩:=v t l r;have e:=DV (F:=λi=>(if i∈I then g i else 0)*h (y j) i) o lt λi _ d=>by rw[Pb d,Ro];exact Qa _
    rw[bH (cs:=I) (g:=λi=>g i*h (y j) i) λi a=>by rw[Pd a]]at e;have:=Rr e (z _ (Pl.mpr #[j,c,2]));rwa[Rx]at this
 .intro G φ n;have p:∀i,i<R->i∉I->(3:Int)∣φ i:=λi a d=>by
   have:T.testBit (bAt B i)=true:=by
    cases q:T.testBit (bAt B i)with
    |true=>rfl
    |false=>exact absurd ((m i).mpr #[a,q]) d
   have:=n _ this;rwa[jq a λk f=>u i k a f]at this
  have on:=G φ λx A=>by obtain⟨j,c,rfl⟩:=Pl.mp A;have e:=DV (F:=λi=>φ i*h (y j) i) o lt λi a d=>Qc (p i a d);have:=Rt (n _ (w j c)) e;rwa[RW]at this
  intro i a;by_cases q:i∈I
  .exact on i q
  .exact p i a q
theorem Ay(a:sz B=R)(p:Nat->Bool):((List.range R).filter λi=>p (bAt B i)).length=((ao B).filter p).length:=by rw[<-lh a,R3,My];rfl
theorem Dg(B T:Nat):((ao B).filter λt=> !T.testBit t).length=sz (aw B T):=by rw[<-aP];unfold ao;rw[RF];congr 1;refine QC λt _=> ?_;rw[aI,S7]
theorem wq(l:E<256)(h:rj E R β)(hb:∃B,Sub B E/\sz B=R/\β B):rj E (sz E-R) λS=>β (aw E S):=by
 obtain⟨B,w,p,bB⟩:=hb;obtain⟨κ,uk,A⟩:=Ie h l w p bB;have K:B<256:=w.lt (n:=8) l;have L:aw E B<256:=(cR E B).lt (n:=8) l;have u:sz (aw E B)=sz E-R:=by have:=dN l w;lia
 obtain⟨o,hinv⟩:∃o:Nat->Nat,∀i,i<R->o (bAt B i)=i:=by
  have:∀b,∃i,∀j,j<R->bAt B j=b->i=j:=λb=>by
   by_cases h:∃j,j<R/\bAt B j=b
   .obtain⟨j,g,e⟩:=h;exact#[j,λk A O=>iS p g A (e.trans O.symm)]
   .exact#[0,λj g e=>absurd #[j,g,e] h]
  obtain⟨o,h⟩:=RU this;exact#[o,λi c=>h _ i c rfl]
 generalize hD:aw E B=D at*;generalize hQ:sz E-R=Q at*;have v:∀t,D.testBit t=true↔E.testBit t=true/\B.testBit t=false:=λt=>by rw[<-hD,aI,PX,QY]
 let f:Nat->Nat->Int:=λt j=>if B.testBit t=true then κ (bAt D j) (o t)else if t=bAt D j then 1 else 0
 have uf:jf f D Q:=λi j c g=>by
  show(if B.testBit (bAt D i)=true then κ (bAt D j) (o (bAt D i))else if bAt D i=bAt D j then 1 else 0)=_;rw[((v _).mp (bU u c).1).2,Pb PQ];by_cases q:j=i
  .rw[q,Pd rfl,Pd rfl]
  .rw[Pb q,Pb λe=>q (iS u c g e).symm]
 refine pP (κ:=f) l λS hS zS=> ?_;have z:Sub (aw E S) E:=cR E S;have zT:sz (aw E S)=R:=by have U:=dN l hS;have h2:=dN l w;lia
 have H:∀t,E.testBit t=true->(S.testBit t=true↔(aw E S).testBit t=false):=λt m=>by rw[aI,m];cases S.testBit t<;>simp
 rw[<-A _ z zT];generalize aw E S=T at*
 let I:=(List.range R).filter λi=> !T.testBit (bAt B i)
 let J:=(List.range Q).filter λj=>T.testBit (bAt D j)
 have r:∀i,i∈I↔i<R/\T.testBit (bAt B i)=false:=λi=>by show i∈(List.range R).filter _↔_;rw[PV,Pf,QY]
 have G:∀j,j∈J↔j<Q/\T.testBit (bAt D j)=true:=λj=>by show j∈(List.range Q).filter _↔_;rw[PV,Pf]
 have nI:I.Nodup:=PZ.filter _;have nJ:J.Nodup:=PZ.filter _;have len:I.length=J.length:=by
  have N:I.length=sz (aw B T):=(Ay p λt=> !T.testBit t).trans (Dg B T);have O:J.length=sz (aw T B):=by refine(Ay u T.testBit).trans ?_;rw[<-aP];unfold ao;rw[RF];congr 1;refine QC λt _=> ?_;rw[aI];have:=z t;have d:=v t;cases U:T.testBit t<;>cases h2:B.testBit t<;>cases h3:D.testBit t<;>simp_all
  have a1:sz (aw B T)+sz (B&&&T)=sz B:=by have:=lO (s:=B) (a:=B&&&T) (b:=aw B T) T.testBit (λk _=>by rw[QE]) (λk _=>by rw[aI]);lia
  have a2:sz (aw T B)+sz (B&&&T)=sz T:=by have:=lO (s:=T) (a:=B&&&T) (b:=aw T B) B.testBit (λk _=>by rw[QE,S7]) (λk _=>by rw[aI]);lia
  lia
 rw[Ex K p uk (y:=bAt D) (J:=J) r nI (λt m x=>by
   obtain⟨j,g,e⟩:=gn L u ((v t).mpr #[z t m,x]);exact#[j,(G j).mpr #[g,by rw[e];exact m],e]) λj g=>((G j).mp g).2,
  Ex L u uf (y:=bAt B) (I:=J) (J:=I) (λj=>by
   rw[G];refine and_congr_right λg=> ?_;have:=H (bAt D j) ((v _).mp (bU u g).1).1;cases U:T.testBit (bAt D j)<;>cases h2:S.testBit (bAt D j)<;>simp_all) nJ (λt m x=>by
   have tE:=hS t m;have b:B.testBit t=true:=by
    cases q:B.testBit t with
    |true=>rfl
    |false=>rw[(v t).mpr #[tE,q]]at x;cases x
   obtain⟨i,c,e⟩:=gn K p b;exact#[i,(r i).mpr #[c,by rw[e];exact(H t tE).mp m],e]) λi c=>(H _ (w _ (bU p ((r i).mp c).1).1)).mpr ((r i).mp c).2]
 have N:(I.map λi j=>f (bAt B i) j)=I.map λi j=>κ (bAt D j) i:=Qt λi c=>by funext j;show(if B.testBit (bAt B i)=true then κ (bAt D j) (o (bAt B i))else _)=_;rw[Pd (bU p ((r i).mp c).1).1,hinv i ((r i).mp c).1]
 rw[N];exact(L9 (M:=λi j=>κ (bAt D j) i) nI nJ len).symm
def j7(E R:Nat)(a:Nat->Prop)(m d:Nat):Prop:=∃W K,Sub W E/\Sub K E/\(∀t,K.testBit t=true->W.testBit t=false)/\sz K=m/\sz W+d=R/\∀s,Sub s K->sz s=d->a (W|||s)
def qo(E:Nat)(a:Nat->Prop):Nat->Prop:=λS=>a (aw E S)
theorem wF(c:E<256)(G:R<=sz E)(H:d<=m)(h:j7 E (sz E-R) (qo E β) m d):j7 E R β m (m-d):=by
 obtain⟨W,K,k,b,f,o,J,l⟩:=h;have i:=b.lt (n:=8) c;have j:Sub W (aw E K):=λt a=>by
  rw[aI,k t a];cases q:K.testBit t with
  |false=>rfl
  |true=>rw[f t q]at a;cases a
 have z:=dN c b;have A:=dN ((cR E K).lt (n:=8) c) j;refine#[aw (aw E K) W,K,(cR _ _).trans (cR _ _),b,λt a=>by rw[aI,aI,a];simp,o,9,λs g L=> ?_];have B:=dN i g;have:=l (aw K s) (cR _ _) ();have e:aw E (W|||aw K s)=aw (aw E K) W|||s:=PC λt=>by rw[aI,PN,aI,PN,aI,aI];have p:=g t;have r:=b t;have u:=f t;cases v:E.testBit t<;>cases w:W.testBit t<;>cases x:K.testBit t<;>cases y:s.testBit t<;>simp_all
 unfold qo at this;rwa[e]at this
theorem K5{K u:Nat}(h:K.testBit u=true):Sub (2^u) K:=λt a=>by rw[Py,PD]at a;exact a▸h
theorem Ed(h:Sub a c)(g:Sub b c):Sub (a|||b) c:=λt d=>by
 rw[PN,P0]at d;rcases d with z|z
 .exact h t z
 .exact g t z
theorem Ic(b:E<256)(g:R<=sz E)(e:∃B,Sub B E/\sz B=R/\β B)(h:rj E (sz E-R) (qo E β)):rj E R β:=by obtain⟨B,a,i,c⟩:=e;have f:=dN b a;have:=wq b h #[aw E B,cR _ _,9,by unfold qo;rw[oM a];exact c];rw[show sz E- (sz E-R)=R by lia]at this;refine oG this λS d _=> ?_;show β (aw E (aw E S))↔β S;rw[oM d]
theorem HV(a:E<256)(f:∃B,Sub B E/\sz B=0/\β B):rj E 0 β:=by
 obtain⟨B,e,h,d⟩:=f;refine pP (κ:=λ_ _=>0) a λS b j=>#[λ_=> ?_,λ_ φ _ i g=>absurd g (Sl _)];have:S=B:=wb (b.lt (n:=8) a) (e.lt (n:=8) a) (λk _ c=>by have:=gh S (b.lt (n:=8) a) k (bw (n:=8) (b.lt (n:=8) a) c) c;lia) (j.trans h.symm)
 rw[this];exact d
theorem Lj(c:S<256)(h:sz S=1):∃t,S=2^t:=by obtain⟨t,b⟩:=jA (S:=S) ();have f:=gh S c t (bw (n:=8) c b) b;have e:S^^^2^t=0:=(wb (a:=0) ∅ ((cZ b).lt (n:=8) c) (λk _ d=>by rw[P4]at d;cases d) (by rw[c7];lia)).symm;have:=fR b;rw[e,So]at this;exact#[t,this.symm]
open Classical in
theorem KS(d:E<256):rj E 1 c:=by
 refine pP (κ:=λt _=>if c (2^t)then 1 else 0) d λS f k=> ?_;obtain⟨t,rfl⟩:=Lj (f.lt (n:=8) d) k;have e:∀φ:Nat->Int,∀s,(2^t:Nat).testBit s=true->sL (List.range 1) (λi=>φ i*if c (2^s)then 1 else 0)=φ 0*if c (2^t)then 1 else 0:=λφ s a=>by rw[Py,PD]at a;rw[<-a];show φ 0*_+0=_;lia
 constructor
 .intro b;refine PU λj=> ?_;have:=b (λ_=>1) (λs a=>by rw[e _ s a,Pb j,Rp];exact Qa _) 0 ∅
  exact aN.one this
 .intro g φ h i l;have:=h t (by rw[Py];exact Pe rfl);rw[e φ t (by rw[Py];exact Pe rfl),Pd g,Ri]at this;have:i=0:=()
  subst this;assumption
theorem j6{s t:Nat}(h:∀k,s.testBit k=true↔t.testBit k=true):s=t:=PC λk=>Q8.mpr (h k)
def ov(W:Nat)(l:List Nat):Nat:=W|||mN l
theorem mC{W:Nat}:(ov W l).testBit t=true↔W.testBit t=true\/t∈l:=by unfold ov;rw[PN,P0,fE]
theorem Cz{E W:Nat}(h:Sub W E)(g:∀t∈l,E.testBit t=true):Sub (ov W l) E:=λt a=>(mC.mp a).elim (h t) (g t)
theorem Mo{E W:Nat}{l:List Nat}(b:E<256)(h:Sub W E)(d:l.Nodup)(g:∀t∈l,E.testBit t=true/\W.testBit t=false):sz (ov W l)=sz W+l.length:=by
 have c:=dN (S:=W) ((Cz h λt a=>(g t a).1).lt (n:=8) b) λt a=>mC.mpr (.inl a);have e:aw (ov W l) W=mN l:=j6 λt=>by rw[aI,PX,mC,fE,QY];exact#[λz=>z.1.resolve_left (by rw[z.2];decide),λz=>#[.inr z,(g t z).2]]
 rw[e,Ej d λt a=>bw (n:=8) b (g t a).1]at c;lia
theorem Oj{X:Nat}(h:1<=sz X):∃u,X.testBit u=true:=jA ()
theorem z9:∀(d:Nat) {E:Nat},E<256->sz E=m+d->∃X,Sub X E/\sz X=m
 |0,E,_,h=>#[E,Sub.refl _,h]
 |d+1,E,b,h=>by obtain⟨u,a⟩:=Oj (X:=E) ();have:=gh E b u (bw (n:=8) b a) a;obtain⟨X,c,e⟩:=z9 d ((cZ a).lt (n:=8) b) (by lia:sz (E^^^2^u)=m+d);exact#[X,c.trans (cZ a),e]
theorem Mat.some_base(M:Mat n r):∃B,Sub B (2^n-1)/\sz B=r (2^n-1)/\r B=r (2^n-1):=by obtain⟨g,_,c,d,a⟩:=M.extend (s:=0) (t:=2^n-1) (λk b=>by rw[P4]at b;cases b) (aH n) (by rw[M.zero,c7]);exact#[g,c,d.symm.trans a,a]
theorem uy(M:Mat n r)(N:Mat n q)(i:r (2^n-1)=R)(g:q (2^n-1)=R)(h:∀S,S<2^n->sz S=R->(r S=R↔q S=R))(f:s<2^n):r s=q s:=by
 rw[<-M.vd (ms:=((List.range (2^n)).filter λb=>decide (r b=sz b/\r b=r (2^n-1))).map λb:Nat=>(b:Int)) (λz=> ?_) f]
 .refine N.vd (λz=> ?_) f;rw[Pl];constructor
  .rintro⟨b,a,rfl⟩;have a:=PV.mp a;have c:=Pf.mp a.1;have d:=PH a.2;have:=(h b c ()).mp ();exact#[b,c,299]
  .rintro⟨b,c,rfl,d,e⟩;have:=(h b c ()).mpr ();exact#[b,PV.mpr #[Pf.mpr c,Pe #[99]],2]
 .rw[Pl];constructor
  .rintro⟨b,a,rfl⟩;have a:=PV.mp a;have d:=PH a.2;exact#[b,Pf.mp a.1,2,d.1,d.2]
  .rintro⟨b,c,rfl,d,e⟩;exact#[b,PV.mpr #[Pf.mpr c,Pe #[d,e]],2]
theorem xO(M:Mat n r)(c:r (2^n-1)=R)(h:rj (2^n-1) R λS=>r S=R):Tern n r:=by obtain⟨L,top,same⟩:=h;have N:=jc aN L M.n8;obtain⟨B,a,f,g⟩:=M.some_base;have i:=(same B a ()).mpr ();have:=N.mono a (aH n);have:=top (2^n-1);exact#[L,λs d=>uy M N c () (λS b e=>(same S (bD b) e).symm) d]
theorem Lp(M:Mat n r)(g:r (2^n-1)=R)(h:Tern n r):rj (2^n-1) R λS=>r S=R:=by
 obtain⟨L,a⟩:=h;obtain⟨B,e,k,l⟩:=M.some_base;have b:=e.lt (aH n);obtain⟨κ,_,i⟩:=tJ (R:=R) L M.n8 b () (by rw[<-a B b];lia) λs d=>by rw[<-a s d,<-g];exact M.mono (bD d) (aH n)
 refine pP (κ:=κ) (M.aV (aH n)) λS f j=> ?_;have c:=f.lt (aH n);rw[<-i S c j,a S c]
theorem EU(M:Mat n r)(h:Tern n r):Tern n (ir n r):=by
 have a:=M.aV (aH n);have g:sz (2^n-1)=n:=by have:=oZ (n:=n) (s:=0) M.n8 (Nat.two_pow_pos n);rw[c7,nK]at this;lia
 have le:=M.lu (2^n-1) (aH n);have c:ir n r (2^n-1)=sz (2^n-1) -r (2^n-1):=by
  unfold ir;have:aw (2^n-1) (2^n-1)=0:=PC λt=>by rw[aI,P4];simp
  rw[this,M.zero];rfl
 refine xO M.dual c (oG (wq a (Lp M rfl h) M.some_base) λS b i=> ?_);have d:=dN a b;have e:=M.mono (cR (2^n-1) S) (aH n);have f:=M.dD (b.lt (aH n));show r (aw (2^n-1) S)=r (2^n-1)↔ir n r S=_;lia
theorem Cr(e:bg m)(L:List Row)(u:Nat->Nat)(cs:List Nat):rho m (L.map λx t=>x (u t)) cs=rho m L (cs.map u):=by
 have h:=gq e L (cs.map u);have a:∀k,Van m k L (cs.map u)->Van m k (L.map λx t=>x (u t)) cs:=λk v=>gH (f:=u) (λj b=>Pl.mpr #[j,b,2]) (λy l=>by obtain⟨x,d,rfl⟩:=Pl.mp l;exact#[x,d,λj _=>rfl]) v
 refine fh e #[a _ h.1,λv=>h.2 ?_];have ex:∀j,∃c,j∈cs.map u->c∈cs/\u c=j:=λj=>by
  by_cases q:j∈cs.map u
  .obtain⟨c,g,i⟩:=Pl.mp q;exact#[c,λ_=>#[g,i]]
  .exact#[0,λz=>absurd z q]
 exact gH (f:=λj=>Classical.choose (ex j)) (λj b=>(Sw (ex j) b).1) (λx d=>#[_,Pl.mpr #[x,d,2],λj b=>by rw[(Sw (ex j) b).2]]) v
theorem HS(a:bg m)(h:∀x∈L,m∣x c)(cs:List Nat):rho m L (c::cs)=rho m L cs:=by have k:=gq a L cs;exact fh a #[lH h k.1,λv=>k.2 (oW (λj b=>Po _ b) v)]
def jR(p:Nat)(x:Row):Row:=λt=>if t=p then 0 else x (if t<p then t else t-1)
theorem sE(c:bg m){n p s:Nat}(L:List Row)(u:n<8)(r:s<2^(n+1))(l:s.testBit p=false):bE m (L.map (jR p)) s=bE m L (cA p s):=by
 have e:=Cr c L (λt=>if t<p then t else t-1) (ao s);have o:rho m (L.map (jR p)) (ao s)=rho m (L.map λx t=>x (if t<p then t else t-1)) (ao s):=by
  have ne:∀j∈ao s,j≠p:=λj a e=>by have:=(aJ.mp a).2;rw[e,l]at this;cases this
  have k:=gq c (L.map λx t=>x (if t<p then t else t-1)) (ao s);refine fh c #[gH (f:=id) (λj a=>a) (λy i=> ?_) k.1,λv=>k.2 (gH (f:=id) (λj a=>a) (λy i=> ?_) v)]
  .obtain⟨x,g,rfl⟩:=Pl.mp i;exact#[_,Pl.mpr #[x,g,2],λj a=>by unfold jR;rw[Pb (ne j a)];rfl]
  .obtain⟨x,g,rfl⟩:=Pl.mp i;exact#[_,Pl.mpr #[x,g,2],λj a=>by unfold jR;show _=if j=p then 0 else _;rw[Pb (ne j a)];rfl]
 unfold bE;rw[o,e];refine fO c λj=> ?_;rw[Pl,aJ];constructor
 .rintro⟨t,b,rfl⟩;obtain⟨d,b⟩:=aJ.mp b;have w:t≠p:=λe=>by rw[e,l]at b;cases b
  rw[gJ];by_cases q:t<p
  .rw[Pd q,Pd q];exact#[d,b]
  .rw[Pb q,Pb (),Nat.sub_add_cancel ()];exact#[9,b]
 .rintro⟨d,h⟩;rw[gJ]at h;by_cases q:j<p
  .rw[Pd q]at h;exact#[j,aJ.mpr #[d,h],by rw[Pd q]]
  .rw[Pb q]at h;exact#[j+1,aJ.mpr #[by have:=bw r h;lia,h],by rw[Pb (),SQ]]
theorem wN(b:bg m){s p:Nat}(c:p<8)(a:s.testBit p=true)(L:List Row):bE m L s=rho m L (p::ao (s^^^2^p)):=by have:=pN b (R:=L) (s:=s^^^2^p) c;rwa[fR a]at this
def Rep(m:Int)(n:Nat)(r:Nat->Nat):Prop:=∃L:List Row,∀s,s<2^n->r s=bE m L s
theorem AB(b:bg m)(j:p<=n)(f:n<8)(h:Rep m n r):Rep m (n+1) λs=>r (cA p s):=by
 obtain⟨L,g⟩:=h;refine#[L.map (jR p),λs d=> ?_];show r (cA p s)=_;rw[g _ (xN j d)];cases a:s.testBit p with
 |false=>exact(sE b L f d a).symm
 |true=>
  have z:=HS b (L:=L.map (jR p)) (c:=p) (λy k=>by obtain⟨x,_,rfl⟩:=Pl.mp k;unfold jR;rw[Pd rfl];exact Qa _) (ao (s^^^2^p))
  have i:(s^^^2^p).testBit p=false:=by rw[c6 a];simp
  have o:=sE b (s:=s^^^2^p) L f ((cZ a).lt d) i;rw[wN b () a,z];have e:cA p (s^^^2^p)=cA p s:=by have:=kz p (s^^^2^p);rw[fR a]at this;exact this.symm
  rw[e]at o;exact o.symm
def lp(p:Nat):Row:=λt=>if t=p then 1 else 0
theorem HW(z:bg m)(hp:p<=n)(U:n<8)(h:Rep m n r):Rep m (n+1) λs=>r (cA p s)+if s.testBit p=true then 1 else 0:=by
 obtain⟨L,hL⟩:=h;have i:=z;refine#[lp p::L.map (jR p),λs d=> ?_];show r (cA p s)+_=_;rw[hL _ (xN hp d)];have N:=jc i (lp p::L.map (jR p)) (n:=n+1) ();have G:=jc i (L.map (jR p)) (n:=n+1) ();have az:∀s,s<2^(n+1)->s.testBit p=false->bE m (lp p::L.map (jR p)) s=bE m (L.map (jR p)) s:=λs d l=>by
  have Q:∀x,Sub x s->(bE m (lp p::L.map (jR p)) x=sz x↔bE m (L.map (jR p)) x=sz x):=λx u=>by
   have nd:(ao x).Nodup:=PZ.filter _;have J:=iy i (ao x) (lp p::L.map (jR p)) nd;have K:=iy i (ao x) (L.map (jR p)) nd;rw[aP]at J K;unfold bE;rw[J,K];refine#[λq g H=>q g λy a=> ?_,λq g H=>q g λy a=>H y (Po _ a)];rcases Pk.mp a with rfl|a
   .refine jJ λc hc=> ?_;have:c≠p:=λe=>by have:=u c (aJ.mp hc).2;rw[e,l]at this;cases this
    show m∣g c*lp p c;unfold lp;rw[Pb this,Rp];exact Qa _
   .exact H y a
  obtain⟨g,_,g1,g2,g3⟩:=N.extend (s:=0) (t:=s) (λk w=>by rw[P4]at w;cases w) d (by rw[N.zero,c7]);obtain⟨k,_,O,k2,k3⟩:=G.extend (s:=0) (t:=s) (λk w=>by rw[P4]at w;cases w) d (by rw[G.zero,c7]);have a1:=(Q g g1).mp g2;have a2:=(Q k O).mpr k2;have a3:=G.mono g1 d;have a4:=N.mono O d;lia
 cases l:s.testBit p with
 |false=>
  rw[Pb ∅,az s d l,sE z L U d l];rfl
 |true=>
  have M:(s^^^2^p).testBit p=false:=by rw[c6 l];simp
  have hl:=(cZ l).lt d;have o:=sE z (s:=s^^^2^p) L U hl M;have e:cA p (s^^^2^p)=cA p s:=by have:=kz p (s^^^2^p);rw[fR l]at this;exact this.symm
  rw[e]at o;rw[Pd rfl,<-o];have pv:=RkV.pivot i (R:=lp p::L.map (jR p)) (c:=p) (p:=lp p) (A:=[]) (B:=L.map (jR p)) rfl (by unfold lp;rw[Pd rfl];exact i.one) (cs:=ao (s^^^2^p)) (r:=bE m (L.map (jR p)) (s^^^2^p)) (by
   have k:=gq i (L.map (jR p)) (ao (s^^^2^p));have same:∀x∈L.map (jR p),∀j∈ao (s^^^2^p),bV 1 (lp p) p x j=x j:=λx u j b=>by
    obtain⟨y,_,rfl⟩:=Pl.mp u;have:j≠p:=λe=>by have:=(aJ.mp b).2;rw[e,M]at this;cases this
    unfold bV lp jR;simp[this]
   refine#[gH (f:=id) (λj b=>b) (λy a=> ?_) k.1,λv=>k.2 (gH (f:=id) (λj b=>b) (λy a=> ?_) v)]
   .obtain⟨x,u,rfl⟩:=Pl.mp a;exact#[x,u,λj b=>same x u j b]
   .exact#[_,Pl.mpr #[y,a,2],λj b=>(same y a j b).symm])
  rw[wN z () l];exact(fh i pv).symm
theorem ET(a:p<=n)(b:n<8)(h:Tern n r):Tern (n+1) λs=>r (cA p s):=AB aN a b h
theorem Kx(_:Mat n r)(a:p<=n)(b:n<8)(h:Tern n r):Tern (n+1) λs=>r (cA p s)+if s.testBit p=true then 1 else 0:=HW aN a b h
def zJ(n R:Nat)(r:Nat->Nat):Prop:=∃s w,s<2^n/\Sub w (aw (2^n-1) s)/\((sz s=5/\sz w+2=R/\dg 5 (cJ r s w) 5 2=true)\/(sz s=5/\sz w+3=R/\dg 5 (cJ r s w) 5 3=true)\/(sz s=7/\sz w+3=R/\cc 7 (cJ r s w)=true)\/sz s=7/\sz w+4=R/\cc 7 (ir 7 (cJ r s w))=true)
theorem Hj{E W K:Nat}(c:Sub W E)(b:∀t,K.testBit t=true->W.testBit t=false):Sub W (aw E K):=λt a=>by
 rw[aI,c t a];cases q:K.testBit t with
 |false=>rfl
 |true=>rw[b t q]at a;cases a
section
variable{n R:Nat}{r:Nat->Nat}(M:Mat n r)(hf:r (2^n-1)=R)
include M hf
theorem wD(Q:d<=m)(h:j7 (2^n-1) R (λS=>r S=R) m d):∃k w,k<2^n/\Sub w (aw (2^n-1) k)/\sz k=m/\sz w+d=R/\dg m (cJ r k w) m d=true:=by
 obtain⟨W,K,p,y,l,i,G,q⟩:=h;have a:=y.lt (aH n);have g:=p.lt (aH n);have j:=M.aV a;have apart:∀ {s},Sub s K->sz (W|||s)=sz W+sz s:=λ{s} h=>tx λt o x=>by rw[l t (h t x)]at o;cases o
 obtain⟨X,b,H⟩:=z9 (m:=d) (m-d) j ();have u:=q X b H;have B:W|||X<2^n:=QB g (b.lt a);have O:r W=sz W:=M.jN (λt f=>by rw[PN,f];rfl) B (by rw[apart b];lia);have top:∀ {s},s<2^n->r s<=R:=λ{s} h=>hf▸M.mono (bD h) (aH n);refine#[K,W,a,Hj p l,i,G,6];unfold dg;have e:cJ r K W (2^m-1)=d:=by
  unfold cJ;have e:=oz j;rw[i]at e;rw[e];have J:=top (QB a g);have L:r (W|||X)<=r (K|||W):=M.mono (λt f=>by rw[PN,P0]at f⊢;exact f.elim .inr λz=> .inl (b t z)) (QB a g)
  have N:r (W|||X)=R:=u;lia
 rw[e];simp only[decide_true,Qy,P9,PD];intro s c;have c:=PV.mp c;have A:=Pf.mp c.1;have v:=PH c.2;have:r (W|||aT s K)=R:=q (aT s K) (fq s K) (by rw[v9 (by rw[i];exact A)];exact v);unfold cJ;rw[R7];lia
end
theorem GG:∀s:Nat,s<128->∀p:Nat,p<8->bits (fX p s)=(bits s).map λz=>if z<(p:Int)then z else z+1:=#[9]
theorem Ad(f:s<128)(d:p<8)(x:Nat):aT x (fX p s)=fX p (aT x s):=j6 λt=>by
 rw[cx,GG s f p d,fT];constructor
 .rintro⟨j,a,c⟩;rw[PB]at a;cases e:(bits s)[j]? with
  |none=>rw[e]at a;cases a
  |some z=>
   rw[e]at a;have a:(if z<(p:Int)then z else z+1)=(t:Int):=Qq a;obtain⟨k,_,_,rfl⟩:=cQ.mp (Pq e);have b:=cx.mpr #[j,e,c];by_cases q:k<p
   .rw[Pd ()]at a;have:k=t:=()
    subst this;rw[Pd q];exact b
   .rw[Pb ()]at a;have:t=k+1:=()
    subst this;rw[Pb (),Pb ()];exact b
 .intro h;by_cases q:t<p
  .rw[Pd q]at h;obtain⟨j,a,c⟩:=cx.mp h;exact#[j,by rw[PB,a];show some (if(t:Int)<p then _ else _)=_;rw[Pd ()],c]
  .rw[Pb q]at h;by_cases e:t=p
   .rw[Pd e]at h;cases h
   .rw[Pb e]at h;obtain⟨j,a,c⟩:=cx.mp h;exact#[j,by rw[PB,a];show some (if((t-1:Nat):Int)<p then _ else _)=_;rw[Pb ()];congr 1;lia,c]
theorem wZ(M:Mat n r)(v:n<8)(m:p<=n)(x:Nat)(N:x=0\/x=2^p)(J:R'=R+sz x)(o:∀s,s<2^n->q (fX p s|||x)=r s+sz x)(h:zJ n R r):zJ (n+1) R' q:=by
 obtain⟨s,w,i,u,h⟩:=h;have z:=Mp v i;have g:=u.lt ((cR _ _).lt (aH n));have B:=DD s z p ();have G:=DD w (Mp v g) p ();have A:∀t,x.testBit t=true->t=p:=λt d=>by
  rcases N with e|e
  .rw[e,P4]at d;cases d
  .rw[e,Py,PD]at d;exact d.symm
 have O:sz (fX p w|||x)=sz w+sz x:=by rw[tx (λt l K=>by rw[A t K,G.2.2]at l;cases l),G.1]
 have e:cJ q (fX p s) (fX p w|||x)=cJ r s w:=funext λy=>by
  unfold cJ;rw[Ad z ()];have H:fX p (aT y s)||| (fX p w|||x)=fX p (aT y s|||w)|||x:=by
   rw[<-Rn];congr 1;exact j6 λt=>by
    rw[PN,fT,fT,fT];by_cases q:t<p
    .rw[Pd q,Pd q,Pd q,PN]
    .by_cases f:t=p
     .rw[Pb q,Pb q,Pb q,Pd f,Pd f,Pd f];rfl
     .rw[Pb q,Pb q,Pb q,Pb f,Pb f,Pb f,PN]
  rw[H,o _ (QB ((fq y s).lt i) g),o _ g];lia
 refine#[fX p s,fX p w|||x,xK i m,λt d=> ?_,6]
 .rw[aI,PY,PX,PD,QY];rw[PN,P0]at d;rcases d with d|d
  .refine#[bw (xK g m) d,6];rw[fT]at d⊢;have k:∀j,w.testBit j=true->s.testBit j=false:=λj L=>by have:=u j L;rw[aI,PX,QY]at this;exact this.2
   by_cases q:t<p
   .rw[Pd q]at d⊢;exact k _ d
   .rw[Pb q]at d⊢;by_cases f:t=p
    .rw[Pd f]at d;cases d
    .rw[Pb f]at d⊢;exact k _ d
  .rw[A t d];exact#[9,B.2.2]
 .rw[e,O,B.1,J];rcases h with ⟨a,b,c⟩|⟨a,b,c⟩|⟨a,b,c⟩|⟨a,b,c⟩
  .exact .inl #[a,9,c]
  .exact .inr (.inl #[a,9,c])
  .exact .inr (.inr (.inl #[a,9,c]))
  .exact .inr (.inr (.inr #[a,9,c]))
def Cl3(n:Nat)(r:Nat->Nat):Prop:=Tern n r\/zJ n (r (2^n-1)) r
theorem tu(a:p<=n):cA p (2^(n+1) -1)=2^n-1:=PC λj=>by
 rw[gJ,PY,PY,PY];by_cases h:j<p
 .rw[Pd h,Pe (),Pe ()]
 .rw[Pb h];exact Q1.mpr ()
theorem J3(M:Mat n r)(a:p<=n)(b:n<8)(h:Cl3 n r):Cl3 (n+1) λs=>r (cA p s):=by
 rcases h with h|h
 .exact .inl (ET a b h)
 .exact .inr (wZ M b a 0 (.inl rfl) (by show r (cA p _)=_;rw[tu a,c7];rfl) (λs c=>by show r (cA p _)=_;rw[Nat.or_zero,qB,c7];rfl) h)
theorem NQ(M:Mat n r)(a:p<=n)(b:n<8)(h:Cl3 n r):Cl3 (n+1) λs=>r (cA p s)+if s.testBit p=true then 1 else 0:=by
 rcases h with h|h
 .exact .inl (Kx M a b h)
 .have c:sz (2^p)=1:=by have:=gp (s:=0) ∅ (show p<8 by lia) (P4 p);rwa[So,c7]at this
  refine .inr (wZ M b a (2^p) (.inr rfl) ?_ (λs d=> ?_) h)
  .show r (cA p _)+_=_;rw[tu a,PY,Pe (),Pd rfl,c]
  .show r (cA p _)+_=_;rw[kz,qB,c,a9];simp
def No4(E R:Nat)(e:Nat->Prop):Prop:=∀W a b c d,Sub W E->sz W+2=R->[a,b,c,d].Nodup->(∀t∈[a,b,c,d],E.testBit t=true/\W.testBit t=false)->e (ov W [a,b])->e (ov W [a,c])->e (ov W [a,d])->e (ov W [b,c])->e (ov W [b,d])->e (ov W [c,d])->False
def ev(R:Nat)(φ v:Nat->Int):Int:=sL (List.range R) λi=>φ i*v i
def oq(m:Int)(f:Nat->Nat->Int)(R S:Nat):Prop:=∀φ:Nat->Int,(∀t,S.testBit t=true->m∣ev R φ (f t))->∀i,i<R->m∣φ i
theorem wY(h:bg m){R S:Nat}{T:List Nat}(d:∀t,S.testBit t=true↔t∈T)(j:T.length=R):oq m f R S↔¬m∣aK (T.map λt i=>f t i) (List.range R):=by
 have e:oq m f R S↔LI m (T.map λt i=>f t i) (List.range R):=by
  constructor
  .intro b g l c k;exact b g (λt a=>l _ (Pl.mpr #[t,(d t).mp a,2])) c (Pf.mp k)
  .intro b φ p i n;exact b φ (λx o=>by obtain⟨t,a,rfl⟩:=Pl.mp o;exact p t ((d t).mpr a)) i (Pf.mpr n)
 rw[e,<-iy h _ _ PZ,cI h (R:=(List.range R).length) (by rw[My,Pw,j]) rfl]
theorem Kc{R S:Nat}{T:List Nat}(a:∀t,S.testBit t=true↔t∈T)(b:T.length=R):fL κ R S↔¬(3:Int)∣aK (T.map λt i=>κ t i) (List.range R):=wY aN a b
theorem Jf{S t:Nat}(a:S<256):t∈ao S↔S.testBit t=true:=#[λh=>(aJ.mp h).2,λh=>aJ.mpr #[bw (n:=8) a h,h]]
theorem IS(A:E<256)(hR:R<=sz E)(h:No4 E R o):No4 E (sz E-R) (qo E o):=λW a b c d B zW s hl h1 h2 h3 h4 h5 h6=>by
 have o4:=Mo A B s hl;have s4:Sub (ov W [a,b,c,d]) E:=Cz B λt r=>(hl t r).1;have sp:=dN A s4;have l4:[a,b,c,d].length=4:=rfl;have J:∀t,(aw E (ov W [a,b,c,d])).testBit t=true↔E.testBit t=true/\¬(W.testBit t=true\/t∈[a,b,c,d]):=λt=>by rw[aI,PX,QY,<-Uc,mC]
 have key:∀p q u v:Nat,(∀t,t∈[a,b,c,d]↔t=p\/t=q\/t=u\/t=v)->[p,q,u,v].Nodup->qo E o (ov W [p,q])->o (ov (aw E (ov W [a,b,c,d])) [u,v]):=λp q u v n K w=>by
  have e:aw E (ov W [p,q])=ov (aw E (ov W [a,b,c,d])) [u,v]:=j6 λt=>by
   rw[aI,PX,QY,<-Uc,mC,mC,J t,n t];simp only[Qr,Pk,P7,RH,not_or]at K⊢;obtain⟨⟨k,f,g⟩,⟨i,j⟩,l,_⟩:=K;have G:=hl u ((n u).mpr #[5]);have H:=hl v ((n v).mpr #[5]);constructor
   .rintro⟨g1,g2,g3,g4⟩;by_cases x:t=u
    .exact .inr (.inl x)
    .by_cases y:t=v
     .exact .inr (.inr y)
     .exact .inl #[g1,g2,g3,g4,x,y]
   .rintro(⟨g1,g2,g3,g4,_⟩|rfl|rfl)
    .exact#[g1,g2,g3,g4]
    .exact#[G.1,by rw[G.2];decide,λz=>f z.symm,λz=>i z.symm]
    .exact#[H.1,by rw[H.2];decide,λz=>g z.symm,λz=>j z.symm]
  unfold qo at w;rwa[e]at w
 have aD:=s;simp only[Qr,Pk,P7,RH,not_or]at s;obtain⟨⟨k,f,g⟩,⟨i,j⟩,l,_⟩:=s;have m:∀p q u v:Nat,(∀t,t∈[a,b,c,d]↔t=p\/t=q\/t=u\/t=v)->p≠q->p≠u->p≠v->q≠u->q≠v->u≠v->qo E o (ov W [p,q])->o (ov (aw E (ov W [a,b,c,d])) [u,v]):=λp q u v n L M N O Q U=>key p q u v n (by simp[L,M,N,O,Q,U]);refine h (aw E (ov W [a,b,c,d])) a b c d (cR _ _) () aD (λt r=>#[(hl t r).1,6]) ?_ ?_ ?_ ?_ ?_ ?_
 .rw[<-Uc,J t];exact λz=>z.2 (.inr r)
 .exact m c d a b (λt=>by simp;lia) l (Q7 f) (Q7 i) (Q7 g) (Q7 j) k h6
 .exact m b d a c (λt=>by simp;lia) j (Q7 k) i (Q7 g) (Q7 l) f h5
 .exact m b c a d (λt=>by simp;lia) i (Q7 k) j (Q7 f) l g h4
 .exact m a d b c (λt=>by simp;lia) g k f (Q7 j) (Q7 l) i h3
 .exact m a c b d (λt=>by simp;lia) f k g (Q7 i) l j h2
 .exact m a b c d (λt=>#[5]) k f g i j l h1
theorem HU{E W:Nat}:∀t,(aw E W).testBit t=true->E.testBit t=true/\W.testBit t=false:=λt a=>by rwa[aI,PX,QY]at a
theorem wX(a:bg m)(b:S<256)(c:sz S=R):oq m f R S↔bE m (bz f (List.range R)) S=R:=by have l:=(aP S).trans c;rw[wY a (T:=ao S) (λt=>(Jf b).symm) l];unfold bE;rw[cI a (R:=R) (by unfold bz;rw[My,Pw]) l,kQ f (List.range R) (ao S) (by rw[l,Pw])];rfl
theorem qZ(R:Nat)(φ b v:Nat->Int)(a:Int):ev R (λi=>φ i-a*b i) v=ev R φ v-a*ev R b v:=by unfold ev;rw[<-fg,<-t6];exact bH λi _=>by rw[SE,Qf]
theorem JL(R:Nat)(φ v:Nat->Int)(a:Int):ev R (λi=>a*φ i) v=a*ev R φ v:=by unfold ev;rw[<-fg];exact bH λi _=>Qf ..
def Sm(a:Int):Prop:=a=0\/a=1\/a= -1
structure Uni(f:Nat->Nat->Int)(R T:Nat)(φ:Nat->Nat->Int):Prop where
 dual:∀t u,T.testBit t=true->T.testBit u=true->ev R (φ t) (f u)=if u=t then 1 else 0
 comp:∀m,oq m f R T
section
variable{f:Nat->Nat->Int}{R T:Nat}{φ:Nat->Nat->Int}(U:Uni f R T φ)
include U
theorem Uni.ex(o:bg m)(g:T.testBit u=true)(s:T.testBit v=false):oq m f R (exB T u v)↔¬m∣ev R (φ u) (f v):=by
 have l:∀t,(exB T u v).testBit t=true↔(T.testBit t=true/\t≠u)\/t=v:=λt=>by
  rw[bP];by_cases e:u=t
  .subst e;simp[g,TK]
  .simp[e,TK (a:=v),Q7 e]
 constructor
 .intro b q;have z:=b (φ u) λt j=>by
   rcases(l t).mp j with ⟨k,h⟩|rfl
   .rw[U.dual u t g k,Pb h];exact Qa _
   .exact q
  have:=U.dual u u g g;rw[Pd rfl]at this;refine o.one (this▸jJ λi d=>Qc (z i (Pf.mp d)))
 .intro r c p;have z:=U.comp m (λi=>c i-ev R c (f u)*φ u i) λt j=>by
   rw[qZ,U.dual u t g j];by_cases e:t=u
   .rw[e,Pd rfl,Ri,QH];exact Qa _
   .rw[Pb e,Rp,RZ];exact p t ((l t).mpr (.inl #[j,e]))
  have k:m∣ev R c (f u):=by have h:m∣ev R (λi=>c i-ev R c (f u)*φ u i) (f v):=jJ λi d=>Qc (z i (Pf.mp d));rw[qZ]at h;have n:=Rt (p v ((l v).mpr (.inr rfl))) h;rw[RW]at n;exact(o.mul _ _ n).resolve_right r
  intro i d;have:=Rr (z i d) (Qc k:m∣ev R c (f u)*φ u i);rwa[Rx]at this
theorem Uni.next(k:T.testBit t=true)(H:T.testBit s=false)(p1:ev R (φ t) (f s)=1\/ev R (φ t) (f s)= -1):
  Uni f R (exB T t s) λu i=>if u=s then ev R (φ t) (f s)*φ t i else φ u i-ev R (φ t) (f s)*ev R (φ u) (f s)*φ t i:=by
 have j:∀u,(exB T t s).testBit u=true↔(T.testBit u=true/\u≠t)\/u=s:=λu=>by
  rw[bP];by_cases e:t=u
  .subst e;simp[k,TK]
  .simp[e,TK (a:=s),Q7 e]
 have ns:∀ {u},T.testBit u=true->u≠s:=λh e=>by rw[e,H]at h;cases h
 generalize o:ev R (φ t) (f s)=p at*;have q:p*p=1:=by rcases p1 with h|h<;>rw[h]<;>rfl
 refine#[λu v l A=> ?_,λm d B=> ?_]
 .rcases(j u).mp l with ⟨u1,u2⟩|rfl
  .have e:(λi=>if u=s then p*φ t i else φ u i-p*ev R (φ u) (f s)*φ t i)=λi=>φ u i-p*ev R (φ u) (f s)*φ t i:=funext λi=>Pb (ns u1);rw[e,qZ];rcases(j v).mp A with ⟨g,r⟩|rfl
   .rw[U.dual t v k g,Pb r,Rp,RZ,U.dual u v u1 g]
   .rw[o,Pb (Q7 (ns u1)),Int.mul_right_comm,q,QJ,QH]
  .have e:(λi=>if u=u then p*φ t i else φ u i-p*ev R (φ u) (f u)*φ t i)=λi=>p*φ t i:=funext λi=>Pd rfl;rw[e,JL];rcases(j v).mp A with ⟨g,r⟩|rfl
   .rw[U.dual t v k g,Pb r,Pb (ns g),Rp]
   .rw[o,q,Pd rfl]
 .have z:=U.comp m (λi=>d i-ev R d (f t)*φ t i) λu l=>by
   rw[qZ,U.dual t u k l];by_cases e:u=t
   .rw[e,Pd rfl,Ri,QH];exact Qa _
   .rw[Pb e,Rp,RZ];exact B u ((j u).mpr (.inl #[l,e]))
  have G:m∣ev R d (f t):=by have w:m∣ev R (λi=>d i-ev R d (f t)*φ t i) (f s):=jJ λi n=>Qc (z i (Pf.mp n));rw[qZ,o]at w;have x:=Rt (B s ((j s).mpr (.inr rfl))) w;rw[RW]at x;have y:=Qc (b:=ev R d (f t)*p) (c:=p) x;rwa[Qf,q,Ri]at y
  intro i n;have:=Rr (z i n) (Qc G:m∣ev R d (f t)*φ t i);rwa[Rx]at this
end
theorem LO(R:Nat)(φ v w:Nat->Int)(a:Int):ev R φ (λi=>v i-a*w i)=ev R φ v-a*ev R φ w:=by unfold ev;rw[<-fg,<-t6];exact bH λi _=>by rw[Rj,Q3]
theorem Br{L:List Row}(hl:L.length=R)(h:∀x∈L,ev R φ x=0)(e:ev R φ v=1):aK L (List.range R)=0:=by
 refine PU λd=> ?_;have c:LI 0 L (List.range R):=by rw[<-iy oH _ _ PZ,cI oH (R:=(List.range R).length) (by rw[Pw,hl]) rfl];exact λz=>d (SN.mp z)
 have z:=c φ λx b=>by have:=h x b;unfold ev at this;rw[this];exact Qa _
 have:ev R φ v=0:=SN.mp (jJ λi a=>Qc (z i a));lia
theorem JV(cols:List Nat){L e:List Row}(h:L.Perm e):∀c:List Row,c.length+L.length=cols.length->aK (c++L) cols=aK (c++e) cols\/aK (c++L) cols= -aK (c++e) cols:=by
 induction h with
 |nil=>exact λ_ _=> .inl rfl
 |cons x _ g=>
  intro c d;have:=g (c++[x]) (by rw[PK,Te];rw[PM]at d;lia)
  rwa [Q2,Q2]at this
 |swap x y l=>
  intro c d;exact .inr (mR y x cols c l (by simp only[PM]at d;lia))
 |trans f _ i j=>
  intro c d;rcases i c d with a|a<;>rcases j c (by rw[<-f.length_eq];exact d)with b|b
  .exact .inl (a.trans b)
  .exact .inr (a.trans b)
  .exact .inr (by rw[a,b])
  .exact .inl (by rw[a,b,Int.neg_neg])
theorem Bp:∀l:List Nat,l.Nodup->aK (l.map λi j=>if j=i then(1:Int)else 0) l=1
 | [],_=>rfl
 |a::l,c=>by
  rw[Qr]at c;rw[Qb,wJ _ _ _ _ λx f=>by obtain⟨b,d,rfl⟩:=Pl.mp f;exact Pb (λe:a=b=>c.1 (e▸d)),Bp l c.2,Pd rfl]
  rfl
structure BG(n R:Nat)(r:Nat->Nat)(B:Nat)(f:Nat->Nat->Int):Prop where
 M:Mat n r
 top:r (2^n-1)=R
 hB:B<2^n
 zB:sz B=R
 rB:r B=R
 u:jf f B R
 sm:∀t,t<n->∀i,i<R->Sm (f t i)
 tell:∀m,m=2\/m=3->∀S,S<2^n->sz S=R->(oq m f R S↔r S=R)
section
variable{n R B:Nat}{r:Nat->Nat}{f:Nat->Nat->Int}(A:BG n R r B f)
include A
theorem BG.start:∃φ,Uni f R B φ/\∀t,B.testBit t=true->∀v,v<n->Sm (ev R (φ t) (f v)):=by
 have l:=A.M.aV A.hB;obtain⟨g,q⟩:∃g:Nat->Nat,∀i,i<R->g (bAt B i)=i:=by
  have:∀b,∃i,∀j,j<R->bAt B j=b->i=j:=λb=>by
   by_cases h:∃j,j<R/\bAt B j=b
   .obtain⟨j,c,e⟩:=h;exact#[j,λk x w=>iS A.zB c x (e.trans w.symm)]
   .exact#[0,λj c e=>absurd #[j,c,e] h]
  obtain⟨g,h⟩:=RU this;exact#[g,λi a=>h _ i a rfl]
 have p:∀(d:Nat->Int) i,i<R->ev R d (f (bAt B i))=d i:=λd i a=>jq a λj c=>A.u i j a c;have s:∀i,i<R->∀v:Nat->Int,ev R (λj=>if j=i then 1 else 0) v=v i:=λi a v=>by have:ev R (λj=>if j=i then 1 else 0) v=sL (List.range R) λj=>v j*if j=i then 1 else 0:=bH λj _=>Qn ..;rw[this];exact jq a λj _=>rfl
 refine#[λt j=>if j=g t then 1 else 0,#[λt u o y=> ?_,λm d H i a=> ?_],λt o v G=> ?_]
 .obtain⟨i,a,rfl⟩:=gn l A.zB o;obtain⟨j,c,rfl⟩:=gn l A.zB y;rw[p _ j c,q i a];by_cases e:j=i
  .rw[Pd e,Pd (by rw[e])]
  .rw[Pb e,Pb λz=>e (iS A.zB c a z)]
 .have:=H _ (bU A.zB a).1;rwa[p d i a]at this
 .obtain⟨i,a,rfl⟩:=gn l A.zB o;show Sm (ev R (λj=>if j=g (bAt B i)then 1 else 0) (f v));rw[q i a,s i a];exact A.sm v G i a
theorem BG.path:∀(k S:Nat),S<2^n->sz S=R->r S=R->sz (aw S B)=k->(∃φ,Uni f R S φ/\∀t,S.testBit t=true->∀v,v<n->Sm (ev R (φ t) (f v)))/\
  ∀L:List Nat,L.Nodup->(∀t,t∈L↔S.testBit t=true)->Pm (aK (L.map λt i=>f t i) (List.range R))
 |0,S,q,o,rS,hk=>by
  have B8:=A.M.aV A.hB;have H:=A.M.aV q;have e:S=B:=wb H B8 (λt t8 ht=>by
   cases e:B.testBit t with
   |true=>rfl
   |false=>
    have Q:(aw S B).testBit t=true:=by rw[aI,ht,e];rfl
    have:=gh (aw S B) ((cR S B).lt (n:=8) H) t t8 Q;lia) (o.trans A.zB.symm)
  subst e;refine#[A.start,λL nd J=> ?_];have pm:L.Perm (ao S):=(T1 nd (PZ.filter _)).mpr λt=>(J t).trans (Jf H).symm;have e1:aK ((ao S).map λt i=>f t i) (List.range R)=1:=by
   rw[<-lh A.zB,P8,<-Bp (List.range R) PZ];refine gE _ _ _ (by rw[My,My]) λi j hj=> ?_;rw[Ph,Ph,PB,PB];by_cases hi:i<R
   .rw[QD hi];exact A.u i j hi (Pf.mp hj)
   .rw[RN (by rw[Pw];lia)];rfl
  have:=JV (List.range R) (pm.map λt i=>f t i) [] (by rw[My,Pw,pm.length_eq,aP,o];exact RE _);rwa[Rh,Rh,e1]at this
 |k+1,S,q,o,rS,hk=>by
  have H:=A.M.aV q;obtain⟨x,hx⟩:=jA (S:=aw S B) ();obtain⟨l,xB⟩:=HU x hx;have bS:B9 n r S:=#[q,rS.trans o.symm,rS.trans A.top.symm];obtain⟨y,yB,N,b'⟩:=A.M.exch bS #[A.hB,A.rB.trans A.zB.symm,A.rB.trans A.top.symm] l xB;have yx:y≠x:=λe=>by rw[e,l]at N;cases N
  have yn:=bF A.hB yB;have xn:=bF q l;have z':=zU A.M q l N yn;have kk:sz (aw (exB S x y) B)=k:=by
   have h1:=gh (aw S B) ((cR S B).lt (n:=8) H) x (bw (n:=8) H l) hx;have:aw (exB S x y) B=aw S B^^^2^x:=j6 λt=>by
    rw[c6 hx,aI,aI,bP];by_cases g:y=t
    .subst g;simp[yB]
    .by_cases m:x=t
     .subst m;simp[l,g]
     .simp[g,m]
   rw[this];lia
  obtain⟨⟨φ,U,sm⟩,dt⟩:=BG.path k (exB S x y) z'.1 (z'.2.trans o) (b'.2.2.trans A.top) kk;have back:exB (exB S x y) y x=S:=j6 λt=>by
   rw[bP,bP];by_cases g:x=t
   .subst g;simp[l]
   .by_cases m:y=t
    .subst m;simp[N,g]
    .simp[g,m]
  have G:(exB S x y).testBit y=true:=by rw[bP];simp
  have xT:(exB S x y).testBit x=false:=by rw[bP,l];simp[yx]
  have p1:ev R (φ y) (f x)=1\/ev R (φ y) (f x)= -1:=by have:=(U.ex aN G xT).mp (by rw[back];exact(A.tell 3 (.inr rfl) S q o).mpr rS);exact(sm y G x xn).resolve_left λe=>this (e▸Qa _)
  have O:=U.next G xT p1;rw[back]at O;refine#[#[_,O,λu hu v hv=> ?_],λL nd J=> ?_]
  .by_cases ux:u=x
   .subst ux;have e:(λi=>if u=u then ev R (φ y) (f u)*φ y i else φ u i-ev R (φ y) (f u)*ev R (φ u) (f u)*φ y i)=λi=>ev R (φ y) (f u)*φ y i:=funext λi=>Pd rfl;rw[e,JL];rcases p1 with p|p<;>rcases sm y G v hv with h|h|h<;>rw[p,h]<;>simp[Sm]
   .have uT:(exB S x y).testBit u=true:=by rw[bP,hu];simp[Q7 ux]
    cases az:S.testBit v with
    |true=>
     have:=O.dual u v hu az;rw[this];split
     .exact .inr (.inl rfl)
     .exact .inl rfl
    |false=>
     have z2:=zU A.M q hu az hv;have h2:=(O.ex bR hu az).symm.trans (A.tell 2 (.inl rfl) _ z2.1 (z2.2.trans o));have h3:=(O.ex aN hu az).symm.trans (A.tell 3 (.inr rfl) _ z2.1 (z2.2.trans o));have a5:=h2.trans h3.symm;have e:(λi=>if u=x then ev R (φ y) (f x)*φ y i else φ u i-ev R (φ y) (f x)*ev R (φ u) (f x)*φ y i)=λi=>φ u i-ev R (φ y) (f x)*ev R (φ u) (f x)*φ y i:=funext λi=>Pb ux;rw[e,qZ]at a5⊢;rcases sm u uT v hv with a|a|a<;>rcases p1 with p|p<;>rcases sm u uT x xn with b|b|b<;>rcases sm y G v hv with c|c|c<;>rw[a,p,b,c]at a5⊢ <;>first|(exfalso;revert a5;decide)|simp[Sm]
  .obtain⟨C,D,rfl⟩:=SM ((J x).mpr l);rw[RB,Qr]at nd;obtain⟨n1,⟨n2,n3⟩,n4⟩:=nd;have xC:x∉C:=λh=>n4 x h x Pt rfl;have yL:y∉C++x::D:=λh=>by rw[(J y).mp h]at N;cases N
   rw[Pz,Pk,not_or,not_or]at yL;have mm:∀t,t∈C++y::D↔(exB S x y).testBit t=true:=λt=>by
    have h1:=J t;rw[Pz,Pk]at h1⊢;rw[bP];by_cases g:t=y
    .subst g;simp
    .by_cases m:t=x
     .subst m;simp[l,g,xC,n2,Q7 g]
     .simp only[g,m,false_or]at h1⊢;rw[h1];simp[Q7 g,Q7 m]
   have bB:∀c,c∈C\/c∈D->ev R (φ y) (f c)=0:=λc K=>by
    have cy:c≠y:=λe=>by subst e;exact K.elim yL.1 yL.2.2
    rw[U.dual y c G ((mm c).mp (by rw[Pz,Pk];exact K.imp id .inr)),Pb cy]
   have dy:ev R (φ y) (f y)=1:=by rw[U.dual y y G G,Pd rfl]
   have hd:=dt (C++y::D) (by
    rw[RB,Qr];refine#[n1,#[yL.2.2,n3],λa ha b Q=> ?_];rcases Pk.mp Q with rfl|Q
    .exact λe=>yL.1 (e▸ha)
    .exact n4 a ha b (Po _ Q)) mm
   have ln:C.length+1+D.length=R:=by have pm:(C++x::D).Perm (ao S):=(T1 (RB.mpr #[n1,Qr.mpr #[n2,n3],n4]) (PZ.filter _)).mpr λt=>(J t).trans (Jf H).symm;have:=pm.length_eq;rw[aP,o,PK,PM]at this;lia
   rw[Qs,Qb]at hd⊢;have z:=Br (R:=R) (L:=(C.map λt i=>f t i)++(λi=>f x i-ev R (φ y) (f x)*f y i)::D.map λt i=>f t i) (φ:=φ y) (by rw[PK,PM,My,My];lia) (λw hw=>by
    rw[Pz,Pk]at hw;rcases hw with hw|rfl|hw
    .obtain⟨c,K,rfl⟩:=Pl.mp hw;exact bB c (.inl K)
    .rw[LO,dy,Ri,QH]
    .obtain⟨c,K,rfl⟩:=Pl.mp hw;exact bB c (.inr K)) dy
   have rl:=ym (a:=1) (d:=ev R (φ y) (f x)) (b:=1) (r:=λi=>f x i) (s:=λi=>f y i) (p:=λi=>f x i-ev R (φ y) (f x)*f y i) (T:=List.range R) (A:=C.map λt i=>f t i) (B:=D.map λt i=>f t i) (by rw[My,My,Pw];exact ln) λj _=>()
   rw[z,Rp,RS,QJ]at rl;rw[rl];exact Pm.mul p1 hd
end
section
variable{n R B:Nat}{r:Nat->Nat}{f:Nat->Nat->Int}(A:BG n R r B f)
include A
theorem BG.det(b:S<2^n)(N:sz S=R):(r S=R->Pm (aK (bz f (List.range R)) (ao S)))/\(r S≠R->aK (bz f (List.range R)) (ao S)=0):=by
 have Q:=A.M.aV b;have J:(ao S).length=R:=(aP S).trans N;have turn:aK (bz f (List.range R)) (ao S)=aK ((ao S).map λt i=>f t i) (List.range R):=(kQ f (List.range R) (ao S) (by rw[J,Pw])).symm;have mem:∀t,t∈ao S↔S.testBit t=true:=λt=>Jf Q;rw[turn];refine#[λrS=>(A.path _ S b N rS rfl).2 _ (PZ.filter _) mem,λnS=> ?_];have le:=A.M.mono (bD b) (aH n);rw[A.top]at le;obtain⟨I,_,G,i3,i4⟩:=A.M.extend (s:=0) (t:=S) (λt y=>by rw[P4]at y;cases y) b (by rw[A.M.zero,c7]);have l:=G.lt b;obtain⟨T,K,t2,m,t4⟩:=A.M.extend (bD l) (aH n) i3;have c:=t2.lt (aH n);have p:r T=R:=t4.trans A.top;obtain⟨⟨φ,U,sm⟩,_⟩:=A.path _ T c (m.symm.trans p) p rfl;obtain⟨t,a,L⟩:=Ls (s:=T) (t:=I) λh=>by have:=A.M.mono h l;lia
 have tn:=bF c a;refine Br (φ:=φ t) (v:=f t) (by rw[My,J]) (λx hx=> ?_) (by rw[U.dual t t a a,Pd rfl]);obtain⟨s,hs,rfl⟩:=Pl.mp hx;have q:=(mem s).mp hs;have g:=bF b q;show ev R (φ t) (f s)=0;have H:∀k,S.testBit k=true->Sub (I|||2^k) S:=λk hk j d=>by
  rw[IC,P0]at d;rcases d with h|h
  .exact G j h
  .exact PH h▸hk
 cases u:T.testBit s with
 |true=>
  have:s≠t:=λe=>by
   subst e;have o:Sub (I|||2^s) T:=λj d=>by
    rw[IC,P0]at d;rcases d with h|h
    .exact K j h
    .exact PH h▸a
   have h2:=A.M.jN o c m;have h3:=eU I (A.M.aV l) s (Pg g A.M.n8) L;have w:=A.M.mono (H s q) b;lia
  rw[U.dual t s a u,Pb this]
 |false=>
  have o:r (I|||2^s)=r I:=by have w:=A.M.mono (H s q) b;have h5:=A.M.step I s l g;lia
  have hd:=A.M.jr c a;have h2:=A.M.keep (Hk K L a) hd g o;have h3:=A.M.jN (cZ a) c m;have w:=A.M.iV c a;have O:=zU A.M c a u g;have nb:¬r (exB T t s)=R:=by unfold exB;lia
  refine(sm t a s g).elim id λh=>absurd ((A.tell 3 (.inr rfl) _ O.1 (O.2.trans (m.symm.trans p))).mp ((U.ex aN a u).mpr λz=> ?_)) nb;rcases h with h|h<;>rw[h]at z<;>revert z<;>decide
end
def Bi2(n:Nat)(r:Nat->Nat):Prop:=∃L:List Row,∀s,s<2^n->r s=bE 2 L s
section
variable{n R:Nat}{r:Nat->Nat}(M:Mat n r)(hf:r (2^n-1)=R)(b:Bi2 n r)
include M b
theorem Bi2.four(c:C<2^n)(lt:∀t∈[x,z,y,v],t<n)(p1:bq r C (r C) x z)(p2:bq r C (r C) x y)(i:bq r C (r C) x v)(j:bq r C (r C) z y)(k:bq r C (r C) z v)(l:bq r C (r C) y v)(top:∀s∈[x,z,y,v],∀t∈[x,z,y,v],∀u∈[x,z,y,v],r (C|||2^s|||2^t|||2^u)<=r C+2):False:=by
 obtain⟨L,d⟩:=b;have a:∀s∈[x,z,y,v],∀t∈[x,z,y,v],bq r C (r C) s t->bq (bE 2 L) C (bE 2 L C) s t:=λs e t f h=>by unfold bq at h⊢;rw[<-d C c,<-d _ (aM (aM c (lt s e)) (lt t f))];exact h
 have m:=M.n8;refine Bk L (C:=C) (x:=x) (z:=z) (y:=y) (v:=v) (λt h=>by have:=lt t h;lia) (a _ #[5] _ #[5] p1) (a _ #[5] _ #[5] p2) (a _ #[5] _ #[5] i) (a _ #[5] _ #[5] j) (a _ #[5] _ #[5] k) (a _ #[5] _ #[5] l) λs e t f u g=> ?_;rw[<-d C c,<-d _ (aM (aM (aM c (lt s e)) (lt t f)) (lt u g))];exact top s e t f u g
include hf
theorem Bi2.noFour:ix r (2^n-1) R:=λC x z y v c m a k l p1 p2 f g i j=>by have hl:=c.lt (aH n);have lt:∀t∈[x,z,y,v],t<n:=λt h=>bw (aH n) (a t h).1;refine b.four M hl lt p1 p2 f g i j λs d t a u e=> ?_;have:=M.mono (bD (aM (aM (aM hl (lt s d)) (lt t a)) (lt u e))) (aH n);lia
theorem Bi2.no4:No4 (2^n-1) R λS=>r S=R:=λW a c d e g u q hl j k l m o p=>by
 have f:=g.lt (aH n);have lt:∀t∈[a,c,d,e],t<n:=λt h=>bw (aH n) (hl t h).1;have i:∀x y,ov W [x,y]=W|||2^x|||2^y:=λx y=>j6 λt=>by rw[mC,PN,PN,Py,Py,P0,P0,PD,PD];rw[Pk,PR];exact#[λh=>by rcases h with h|h|h;exact .inl (.inl h);exact .inl (.inr h.symm);exact .inr h.symm,λh=>by rcases h with (h|h)|h;exact .inl h;exact .inr (.inl h.symm);exact .inr (.inr h.symm)]
 rw[i]at j k l m o p;have s:r W+2=R:=by have v:=M.step W a f (lt a #[5]);have w:=M.step (W|||2^a) c (aM f (lt a #[5])) (lt c #[5]);have z:=M.lu W f;lia
 refine b.noFour M hf W a c d e g u hl q s ?_ ?_ ?_ ?_ ?_ ?_<;>(unfold bq;lia)
theorem Bi2.five(K:k<2^n)(B:w<2^n)(hd:d=2\/d=3):¬dg (sz k) (cJ r k w) 5 d=true:=λh=>by
 unfold dg at h;rw[PX,PX,PD,PD,P9]at h;obtain⟨⟨z5,top⟩,J⟩:=h;rw[z5]at top J;have kw:k|||w<2^n:=QB K B;have K8:=M.aV K;have a0:r (k|||w)=r w+d:=by have e:=oz K8;rw[z5]at e;unfold cJ at top;rw[e]at top;lia
 obtain⟨t,f⟩:∃t:Nat->Nat,∀i,i<5->k.testBit (t i)=true/\∀s,aT (s|||2^i) k=aT s k|||2^t i:=by
  have:∀i,∃t,i<5->k.testBit t=true/\∀s,aT (s|||2^i) k=aT s k|||2^t:=λi=>by
   by_cases a:i<5
   .obtain⟨t,h⟩:=nr (k:=k) (by lia:i<sz k);exact#[t,λ_=>h]
   .exact#[0,λz=>absurd z a]
  obtain⟨t,h⟩:=RU this;exact#[t,h]
 have A:∀i,i<5->t i<n:=λi a=>bF K (f i a).1;have up:∀ {X},Sub X (k|||w)->r X<=r w+d:=λh=>a0▸M.mono h kw;have L:∀X i j,(X|||2^t i|||2^t j|||w)=(w|||X|||2^t i|||2^t j):=λX i j=>by rw[R7 _ w,<-Rn,<-Rn]
 have G:∀ {X i},i<5->Sub X (k|||w)->Sub (X|||2^t i) (k|||w):=λ{X i} a h=>Ed h (K5 (by rw[PN,(f i a).1];rfl));have Q:Sub w (k|||w):=λj c=>by rw[PN,c,Ua]
 have N:∀C,C<2^n->Sub C (k|||w)->r C+2=r w+d->(∀i,i<4->∀j,j<4->i≠j->r (C|||2^t i|||2^t j)=r w+d)->False:=λC p sC O H=>by
  have o:∀i,i<4->∀j,j<4->i≠j->bq r C (r C) (t i) (t j):=λi a j c u=>(H i a j c u).trans O.symm;have q:∀x∈[t 0,t 1,t 2,t 3],∃i,i<5/\x=t i:=λx g=>by
   simp only[Pk,P7,RH]at g;rcases g with rfl|rfl|rfl|rfl
   .exact#[0,42]
   .exact#[(1),42]
   .exact#[(2),42]
   .exact#[(3),42]
  refine b.four M (C:=C) (x:=t 0) (z:=t 1) (y:=t 2) (v:=t 3) p (λx g=> ?_) (o 0 ∅ 1 ∅ ∅) (o 0 ∅ 2 ∅ ∅) (o 0 ∅ 3 ∅ ∅) (o 1 ∅ 2 ∅ ∅) (o 1 ∅ 3 ∅ ∅) (o 2 ∅ 3 ∅ ∅) λx g y hy z hz=> ?_
  .obtain⟨i,a,rfl⟩:=q x g;exact A i a
  .obtain⟨i,a,rfl⟩:=q x g;obtain⟨j,c,rfl⟩:=q y hy;obtain⟨l,hl,rfl⟩:=q z hz;rw[O];exact up (G hl (G c (G a sC)))
 rcases hd with rfl|rfl
 .refine N w B Q rfl λi a j c u=> ?_;have m:∀i,i<4->∀j,j<4->i≠j->(0|||2^i|||2^j)∈dW 5 2:=∅
  have:=PH (J _ (m i a j c u));unfold cJ at this;rw[(f j ()).2,(f i ()).2,iX,L,Nat.or_zero]at this;lia
 .have H:∀i,i<4->∀j,j<4->i≠j->r (w|||2^t 4|||2^t i|||2^t j)=r w+3:=λi a j c u=>by
   have m:∀i,i<4->∀j,j<4->i≠j->(0|||2^4|||2^i|||2^j)∈dW 5 3:=∅
   have:=PH (J _ (m i a j c u));unfold cJ at this;rw[(f j ()).2,(f i ()).2,(f 4 ∅).2,iX,L,So]at this;lia
  have U:=A 4 ∅;have p:=aM B U;refine N _ p (G ∅ Q) ?_ H;have s0:=M.step w (t 4) B U;have s1:=M.step _ (t 0) p (A 0 ∅);have s2:=M.step _ (t 1) (aM p (A 0 ∅)) (A 1 ∅);have:=H 0 ∅ 1 ∅ ∅;lia
end
section
variable{p:Nat}{ts:List (Nat×Nat)}(hb:∀t∈ts,t.1<p/\t.2<p)(h8:ts.length<=8)
def lD(ts:List (Nat×Nat))(j i:Nat):Int:=(if(ts.getD j (0,0)).1=i then 1 else 0) -if(ts.getD j (0,0)).2=i then 1 else 0
theorem GV(j:Nat)(c:(ts.getD j (0,0)).1<p/\(ts.getD j (0,0)).2<p)(b:Nat->Int):ev p b (lD ts j)=b (ts.getD j (0,0)).1-b (ts.getD j (0,0)).2:=by
 have one:∀a,a<p->sL (List.range p) (λi=>b i*if a=i then 1 else 0)=b a:=λa d=>jq d λi _=>by
  by_cases e:a=i
  .rw[Pd e,Pd e.symm]
  .rw[Pb e,Pb (Q7 e)]
 rw[<-one _ c.1,<-one _ c.2,<-t6];exact bH λi _=>Rj ..
include hb h8
theorem A1:∀(z s:Nat),sz s=z->s<2^ts.length->(rkC (ts.map eT) s=sz s↔rho 3 (bz (lD ts) (List.range p)) (ao s)=sz s)
 |0,s,hz,w=>by have K:=KP (av (ts.map eT) s);have B:=oF aN (ao s) (bz (lD ts) (List.range p));rw[aP]at B;have G:=(mH (ts.map eT) h8).lu s w;lia
 |z+1,s,hz,w=>by
  have G:=aN;have M:=mH (ts.map eT) h8;have A:∀j,j<ts.length->ts.getD j (0,0)∈ts:=λj r=>by rw[Ph,PF r];exact QP r
  obtain⟨k,u⟩:=jA (S:=s) ();have O:=bF w u;have k8:k<8:=()
  have H:=M.jr w u;have zs:=M.iV w u;have back:=fR u;have ay:(s^^^2^k).testBit k=false:=by rw[c6 u];simp
  generalize s^^^2^k=b at*;have ih:=A1 z b () H;have J:∀c∈ao b,c<ts.length:=λc m=>bF H (aJ.mp m).2;have knd:k∉ao b:=λh=>by rw[(aJ.mp h).2]at ay;cases ay
  have nd:(k::ao b).Nodup:=Qr.mpr #[knd,PZ.filter _];have er:rho 3 (bz (lD ts) (List.range p)) (ao s)=rho 3 (bz (lD ts) (List.range p)) (k::ao b):=by rw[<-back];exact fO G (iu k8)
  have li:rho 3 (bz (lD ts) (List.range p)) (ao s)=sz s↔LI 3 (bz (lD ts) (List.range p)) (k::ao b):=by rw[er,<-iy G _ _ nd,PM,aP,zs]
  have aD:rho 3 (bz (lD ts) (List.range p)) (ao b)=sz b↔LI 3 (bz (lD ts) (List.range p)) (ao b):=by rw[<-iy G (ao b) _ (PZ.filter _),aP]
  have Mk:=Jb (p:=p) ((ao b).map λc=>ts.getD c (0,0)) λt N=>by obtain⟨c,m,rfl⟩:=Pl.mp N;exact hb _ (A c (J c m))
  have v:=hb _ (A k O);have sp:=rM Mk (λt N=>by obtain⟨c,m,rfl⟩:=Pl.mp N;exact hb _ (A c (J c m))) v.1 v.2
  have ec:av (ts.map eT) b=((ao b).map λc=>ts.getD c (0,0)).map eT:=by unfold av;rw[show bits b=(ao b).map λt:Nat=>(t:Int)from rfl,P8,P8];refine Qt λc m=> ?_;show(ts.map eT).getD ((c:Nat):Int).toNat 0=eT (ts.getD c (0,0));rw[Pj,Ph,Ph,PB,PF (J c m)];rfl
  have key:rkC (ts.map eT) s=rkC (ts.map eT) b↔(mkA p ((ao b).map λc=>ts.getD c (0,0))).getD (ts.getD k (0,0)).1 0=(mkA p ((ao b).map λc=>ts.getD c (0,0))).getD (ts.getD k (0,0)).2 0:=by
   rw[<-sp,<-ec,<-back,Cq k8];have:(ts.map eT).getD k 0=2^(ts.getD k (0,0)).1^^^2^(ts.getD k (0,0)).2:=by rw[Ph,Ph,PB,PF O];rfl
   rw[this]
  have a4:∀c∈ao b,∃j,((ao b).map λc=>ts.getD c (0,0))[j]?=some (ts.getD c (0,0)):=λc m=>Qm (Pl.mpr #[c,m,2]);generalize mkA p ((ao b).map λc=>ts.getD c (0,0))=ms at*;have st:=M.step b k H O;rw[back]at st;have bB:=M.lu b H;constructor
  .intro hr;have nk:¬ms.getD (ts.getD k (0,0)).1 0=ms.getD (ts.getD k (0,0)).2 0:=λe=>by have:=key.mpr e;lia
   have Q:=aD.mp (ih.mp ());refine li.mpr λg q=> ?_;have a3:(3:Int)∣sL (k::ao b) λc=>g c*ev p (λi=>if ms.getD i 0=ms.getD (ts.getD k (0,0)).1 0 then 1 else 0) (lD ts c):=by
    have e:(sL (k::ao b) λc=>g c*ev p (λi=>if ms.getD i 0=ms.getD (ts.getD k (0,0)).1 0 then 1 else 0) (lD ts c))=sL (List.range p) λi=>(if ms.getD i 0=ms.getD (ts.getD k (0,0)).1 0 then 1 else 0)*sL (k::ao b) λc=>g c*lD ts c i:=by have e1:(λi=>(if ms.getD i 0=ms.getD (ts.getD k (0,0)).1 0 then(1:Int)else 0)*sL (k::ao b) λc=>g c*lD ts c i)=λi=>sL (k::ao b) λc=>(if ms.getD i 0=ms.getD (ts.getD k (0,0)).1 0 then(1:Int)else 0)*(g c*lD ts c i):=funext λi=>(fg ..).symm;rw[e1,yi];refine bH λc _=> ?_;unfold ev;rw[<-fg];exact bH λi _=>Q3 ..
    rw[e];exact jJ λi hi=>PL (q (λc=>lD ts c i) (Pl.mpr #[i,hi,2]))
   have U:(3:Int)∣g k:=by
    rw[j9 (a:=k) nd Pt λc m ck=>by have m:=(Pk.mp m).resolve_left ck;obtain⟨j,r⟩:=a4 c m;rw[GV c (hb _ (A c (J c m))),Mk.eq j _ r trivial,QH,Rp],GV k v,Pd rfl,Pb (Q7 nk),RZ,Ri]at a3
    exact a3
   have rest:=Q g λx y=>by have K:=q x y;rw[fj]at K;have B:=Rt K (Qc U:(3:Int)∣g k*x k);rwa[Int.add_comm,TU]at B
   intro c m;rcases Pk.mp m with rfl|m
   .exact U
   .exact rest c m
  .intro hr;have l:=li.mp hr;have Q:LI 3 (bz (lD ts) (List.range p)) (ao b):=λg q c m=>by
    have:=l (λd=>if d=k then 0 else g d) (λx y=>by rw[fj,Pd rfl,Ro,QO,bH (g:=λd=>g d*x d) λd L=>by rw[Pb (λe:d=k=>knd (e▸L))]];exact q x y) c (Po _ m)
    rwa[Pb (λe:c=k=>knd (e▸m))]at this
   have r':=ih.mpr (aD.mpr Q);by_cases e:rkC (ts.map eT) s=rkC (ts.map eT) b
   .exfalso;have cl:=Mk.cl (λz=>∃g:Nat->Int,∀n:Nat->Int,(sL (ao b) λc=>g c*(n (ts.getD c (0,0)).1-n (ts.getD c (0,0)).2))=n (ts.getD k (0,0)).1-n z) (λj t r _=>by
     obtain⟨c,m,rfl⟩:=Pl.mp (Pq r);have more:∀(a:Int)(g n:Nat->Int),(sL (ao b) λd=>(g d+if d=c then a else 0)*(n (ts.getD d (0,0)).1-n (ts.getD d (0,0)).2))=(sL (ao b) λd=>g d*(n (ts.getD d (0,0)).1-n (ts.getD d (0,0)).2))+a*(n (ts.getD c (0,0)).1-n (ts.getD c (0,0)).2):=λa g n=>by
      have o:=j9 (cs:=ao b) (f:=λd=>(if d=c then a else 0)*(n (ts.getD d (0,0)).1-n (ts.getD d (0,0)).2)) (a:=c) (PZ.filter _:(ao b).Nodup) m λd _ dc=>by rw[Pb dc,Ro]
      rw[Pd rfl]at o;rw[<-o,<-qK];exact bH λd _=>Int.add_mul ..
     constructor
     .rintro⟨g,q⟩;exact#[λd=>g d+if d=c then 1 else 0,λn=>by rw[more 1 g n,q];lia]
     .rintro⟨g,q⟩;exact#[λd=>g d+if d=c then-1 else 0,λn=>by rw[more (-1) g n,q];lia]) _ _ v.1 v.2 (key.mp e)
    obtain⟨g,q⟩:=cl.mp #[λ_=>0,λn=>by rw[QH];have:=fg 0 (λc=>n (ts.getD c (0,0)).1-n (ts.getD c (0,0)).2) (ao b);rwa[Ro]at this]
    have:=l (λc=>if c=k then-1 else g c) (λx y=>by obtain⟨i,hi,rfl⟩:=Pl.mp y;rw[fj,Pd rfl,bH (g:=λc=>g c*(((if(ts.getD c (0,0)).1=i then 1 else 0):Int) -if(ts.getD c (0,0)).2=i then 1 else 0)) λd L=>by rw[Pb (λe:d=k=>knd (e▸L))];rfl,q λa=>if a=i then 1 else 0];show(3:Int)∣ -1*((if(ts.getD k (0,0)).1=i then 1 else 0) -if(ts.getD k (0,0)).2=i then 1 else 0)+_;rw[Rq,QJ,Int.add_left_neg];exact Qa _) k Pt
    rw[Pd rfl]at this
    revert this
    decide
   .lia
theorem IT:Tern ts.length (rkC (ts.map eT)):=by have M:=mH (ts.map eT) h8;have N:=jc aN (bz (lD ts) (List.range p)) h8;have fr:∀s,s<2^ts.length->(rkC (ts.map eT) s=sz s↔bE 3 (bz (lD ts) (List.range p)) s=sz s):=λs a=>A1 hb h8 _ s rfl a;obtain⟨B,b,d,e⟩:=M.some_base;obtain⟨C,c,f,g⟩:=N.some_base;have i:=b.lt (aH _);have j:=c.lt (aH _);have l:=(fr B i).mp (e.trans d.symm);have m:=(fr C j).mpr (g.trans f.symm);have m1:=N.mono b (aH _);have m2:=M.mono c (aH _);refine#[_,λs a=>uy M N rfl () (λS h k=> ?_) a];have:=fr S h;rwa[k]at this
end
theorem rZ{R S:Nat}(h:∀t,S.testBit t=true->∀i,i<R->m∣f t i-g t i):oq m f R S↔oq m g R S:=by
 have d:∀ {f g:Nat->Nat->Int},(∀t,S.testBit t=true->∀i,i<R->m∣f t i-g t i)->oq m f R S->oq m g R S:=λ{f g} h b φ e=>b φ λt a=>by
  have:m∣ev R φ (f t) -ev R φ (g t):=mq λi c=>by rw[<-Rj];exact PL (h t a i (Pf.mp c))
  have:=Rr this (e t a);rwa[Rx]at this
 exact#[d h,d λt a i c=>by have:=Int.dvd_neg.mpr (h t a i c);rwa[Int.neg_sub]at this]
theorem AE(d:bg m)(l:n<8)(g:p<=n)(i:∀s,s<2^n->q (fX p s)=r s)(h:Rep m (n+1) q):Rep m n r:=by
 obtain⟨L,f⟩:=h;refine#[L.map λx t=>x (if t<p then t else t+1),λs b=> ?_];unfold bE;rw[Cr d,<-i s b,f _ (xK b g)];refine fO d λj=> ?_;rw[aJ,fT,Pl];constructor
 .rintro⟨k,h⟩;by_cases c:j<p
  .rw[Pd c]at h;exact#[j,aJ.mpr #[k,h],Pd c]
  .rw[Pb c]at h;by_cases e:j=p
   .rw[Pd e]at h;cases h
   .rw[Pb e]at h;exact#[j-1,aJ.mpr #[9,h],by rw[Pb ()];lia]
 .rintro⟨t,a,rfl⟩;have a:=aJ.mp a;have:=bF b a.2;by_cases c:t<p
  .rw[Pd c,Pd c];exact a
  .rw[Pb c,Pb (),Pb (),SQ];exact#[9,a.2]
theorem J9{L:List Row}(M:Mat n r)(a:r (2^n-1)=R)(hl:L.length=R)(h:∀S,S<2^n->sz S=R->(bE 2 L S=R↔r S=R)):Bi2 n r:=by have N:=jc bR L M.n8;obtain⟨B,b,c,d⟩:=M.some_base;have g:=b.lt (aH n);have:=(h B g (c.trans a)).mpr (d.trans a);have m1:=N.mono b (aH n);have m2:=mr bR L (ao (2^n-1));have m3:bE 2 L (2^n-1)<=L.length:=m2;exact#[L,λs f=>uy M N a () (λS e i=>(h S e i).symm) f]
def sg3(z:Int):Int:=if z=2 then-1 else z
theorem Ko{n R B:Nat}(M:Mat n r)(q:r (2^n-1)=R)(b:Bi2 n r)(p:B<2^n)(l:sz B=R)(v:r B=R)(u:jf f B R)(en:∀t,t<n->∀i,i<R->f t i=0\/f t i=1\/f t i=2)(fill:∀y,y<n->B.testBit y=false->∀i,i<R->(f y i≠0↔r (exB B (bAt B i) y)=R))(good:∀S,S<2^n->sz S=R->(bE 3 (bz f (List.range R)) S=R↔r S=R)):BG n R r B λt i=>sg3 (f t i):=by
 have w:=M.aV p;have H:∀i j,i<R->j<R->f (bAt B i) j=if j=i then 1 else 0:=u;refine#[M,q,p,l,v,λi j a k=> ?_,λt c i a=> ?_,λm x S d o=> ?_]
 .show sg3 (f (bAt B i) j)=_;rw[u i j a k];by_cases e:j=i
  .rw[Pd e];rfl
  .rw[Pb e];rfl
 .rcases en t c i a with h|h|h<;>rw[h]<;>simp[Sm,sg3]
 .have s:=M.aV d;rcases x with rfl|rfl
  .rw[rZ (g:=λt i=>if f t i=0 then 0 else 1) λt c i a=>by rcases en t (bF d c) i a with h|h|h<;>rw[h]<;>decide,wX bR s o]
   refine(qC M q (aH n) (bD p) l v (g:=bAt B) #[λi a=>(bU l a).1,λi j a k e=>iS l a k e,λt c=>gn w l c] #[λi j a k=> ?_,λy i A G a=> ?_] (b.noFour M q) (bD d) o).symm
   .rw[H i j a k];by_cases e:j=i
    .rw[Pd e,Pb ∅]
    .rw[Pb e,Pd rfl]
   .have:=fill y (bF (aH n) A) G i a;by_cases e:f y i=0
    .rw[Pd e,Pb λz=>this.mpr z e]
    .rw[Pb e,Pd (this.mp e)]
  .rw[rZ (g:=f) λt c i a=>by rcases en t (bF d c) i a with h|h|h<;>rw[h]<;>decide,wX aN s o]
   exact good S d o
end Bh
namespace L2
open PySem PySem.Spec PySem.W PyProof.Rows PySem.SeqAt
def Kq:List V:=[.bl true, .bl true, .bl true]
def Og(K:Frag):R2:=λx y H Q=>∃a b:Addr,x= .ref a/\y= .ref b/\SqL K H a Kq/\SqL K H b Kq/\Q (.bl false) H
theorem vX(h:Vals Kq us):us=[.bool true, .bool true, .bool true]:=by
 cases h with
 |cons r h=>
  cases h with
  |cons a h=>
   cases h with
   |cons b h=>
    cases h;cases (show _=Value.bool true from r);cases (show _=Value.bool true from a);cases (show _=Value.bool true from b);rfl
theorem t9{h:Heap}(hl:h.IsList a ([.bool true, .bool true, .bool true]:List Value).toArray):Reads h (.ref a) (.list [.bool true, .bool true, .bool true]) [a]:=by obtain⟨o,d,b,n,c⟩:=hl;exact Reads.list d b c (.cons (.bool true) (.cons (.bool true) (.cons (.bool true) .nil)))
theorem Li{X:Cx}{K:Frag}(h:X.K=K)(e:X.A.units+64<cLine):OpR X (compareOp .NotEq) (Og K):=by subst h;intro l s m H x y v u Q I i j h;obtain⟨a,b,rfl,rfl,c,d,q⟩:=h;cases i;cases j;obtain⟨is,f,p1,_⟩:=I.list c;obtain⟨k,g,p2,_⟩:=I.list d;cases vX f;cases vX g;exact ne_dataH_same (t9 p1.isList) (t9 p2.isList) ∅ ∅ e ∅ #[.bl false,H,I,2,q]
end L2
namespace Bh
def pf(n R:Nat):List Nat:=(List.range (2^n)).filter λs=>Nat.beq (sz s) R
def exs(A B x:Nat):List Nat:=((List.range 6).filter λy=>B.testBit y&& !A.testBit y).map λy=>exB A x y
def Bv(n R:Nat):List (Nat×Nat×Nat):=(pf n R).flatMap λA=>(pf n R).flatMap λB=>((List.range 6).filter λx=>A.testBit x&& !B.testBit x).map λx=>(mN [A,B],mN (exs A B x),(A::B::exs A B x).foldl Nat.max 0)
abbrev Cn:=List (Nat×Nat×Nat)
def D5(n R:Nat):List (Nat×Cn×Cn):=(pf n R).map λS=>(S,(Bv n R).filter λc=>Nat.beq c.2.2 S&&c.1.testBit S,(Bv n R).filter λc=>Nat.beq c.2.2 S&& !c.1.testBit S)
noncomputable def vio(Y N:Nat)(l:Cn):Bool:=List.rec false (λp _ a=>Bool.rec a (Bool.rec a true (Nat.beq (Nat.land N p.2.1) p.2.1)) (Nat.beq (Nat.land Y p.1) p.1)) l
def JK(n R d:Nat):List Nat:=(pf n 5).flatMap λK=>((List.range (2^n)).filter λW=>Nat.beq (W&&&K) 0&&Nat.beq (sz W+d) R).map λW=>mN (((pf n d).filter λs=>Nat.beq (s&&&K) s).map λs=>W|||s)
def en(T k i:Nat):Nat:=(T>>> (5*k)) % 32/3^i % 3
def dd(T:Nat):List Nat->Nat
 | [a,b]=>(en T a 0*en T b 1+2*(en T b 0*en T a 1)) % 3
 | [a,b,c]=>(en T a 0*(en T b 1*en T c 2+2*(en T c 1*en T b 2))+2*(en T b 0*(en T a 1*en T c 2+2*(en T c 1*en T a 2)))+en T c 0*(en T a 1*en T b 2+2*(en T b 1*en T a 2))) % 3
 |_=>0
def crs(T a b:Nat):Nat:=(en T a 1*en T b 2+2*(en T a 2*en T b 1)) % 3+3*((en T a 2*en T b 0+2*(en T a 0*en T b 2)) % 3)+9*((en T a 0*en T b 1+2*(en T a 1*en T b 0)) % 3)
def zer:Nat:=(List.range 27).foldr (λc t=>t<<<27||| (mN ((List.range 27).filter λw=>Nat.beq ((en c 0 0*en w 0 0+en c 0 1*en w 0 1+en c 0 2*en w 0 2) % 3) 0))) 0
def OE(Y T m S a b:Nat):Nat:=let z:=Nat.land m (zer>>> (27*crs T a b));if Y.testBit S then Nat.xor m z else z
def O0(R Y T z:Nat)(c:List Nat):Nat:=if R=3 then c.foldl (λm a=>c.foldl (λm b=>if Nat.blt a b then OE Y T m (2^a|||2^b|||2^z) a b else m) m) (2^27-1)else c.foldl (λm a=>OE Y (T|||9<<<40) m (2^a|||2^z) a 8) 511
def bld(R Y:Nat)(c:List Nat):List Nat->Nat->Nat:=c.foldr (λz b a T=>b (z::a) (T||| (Nat.log2 (O0 R Y T z a))<<< (5*z))) λ_ T=>T
def NW(n R Y:Nat):Nat:=let B:=((pf n R).find? Y.testBit).getD 0;bld R Y ((List.range n).filter λk=> !B.testBit k) (ao B) ((ao B).foldr (λk t=>3*t+2^(5*k)) 0)
def O1(n R T Y:Nat):Bool:=(pf n R).all λS=>Nat.blt 0 (dd T (ao S))==Y.testBit S
def Jq(n R Y:Nat):Bool:=Nat.beq Y 0||(JK n R 2).any (λm=>Nat.beq (Nat.land Y m) m)||(JK n R 3).any (λm=>Nat.beq (Nat.land Y m) m)||O1 n R (NW n R Y) Y
noncomputable def go6(n R:Nat)(l:List (Nat×Cn×Cn)):Nat->Nat->Bool:=List.rec (λY _=>Jq n R Y) (λp _ a Y N=>Bool.rec false (Bool.rec (a Y (Nat.lor N (2^p.1))) true (vio Y (Nat.lor N (2^p.1)) p.2.2)) (Bool.rec (a (Nat.lor Y (2^p.1)) N) true (vio (Nat.lor Y (2^p.1)) N p.2.1))) l
theorem yV{n R S Y N:Nat}{l:List (Nat×Cn×Cn)}(a:(l.map (·.1)).head?=some S)(b:go6 n R (l.drop 1) (Nat.lor Y (2^S)) N=true)(c:go6 n R (l.drop 1) Y (Nat.lor N (2^S))=true):go6 n R l Y N=true:=by
 cases l with
 |nil=>cases a
 |cons p l=>
  cases a;show(Bool.rec false (Bool.rec (go6 n R l Y (Nat.lor N (2^p.1))) true (vio Y (Nat.lor N (2^p.1)) p.2.2)) (Bool.rec (go6 n R l (Nat.lor Y (2^p.1)) N) true (vio (Nat.lor Y (2^p.1)) N p.2.1)):Bool)=true;rw[show go6 n R l (Nat.lor Y (2^p.1)) N=true from b,show go6 n R l Y (Nat.lor N (2^p.1))=true from c];cases vio (Nat.lor Y (2^p.1)) N p.2.1<;>cases vio Y (Nat.lor N (2^p.1)) p.2.2<;>rfl
abbrev pl6:=((D5 6 3).drop 1).drop 1
theorem Kr:go6 6 3 pl6 (Nat.lor (Nat.lor 0 (2^7)) (2^11)) 0=true:=#[9]
theorem Ks:go6 6 3 pl6 (Nat.lor 0 (2^7)) (Nat.lor 0 (2^11))=true:=#[9]
theorem Kt:go6 6 3 pl6 (Nat.lor 0 (2^11)) (Nat.lor 0 (2^7))=true:=#[9]
theorem Ku:go6 6 3 pl6 0 (Nat.lor (Nat.lor 0 (2^7)) (2^11))=true:=#[9]
theorem MD:go6 6 3 (D5 6 3) 0 0=true:=
 yV (S:=7) #[9] (yV (S:=11) #[9] Kr Ks) (yV (S:=11) #[9] Kt Ku)
theorem NV:∀n∈[4,5,6],go6 n 2 (D5 n 2) 0 0=true:=#[9]
theorem kM:S∈pf n R↔S<2^n/\sz S=R:=by unfold pf;rw[PV,Pf,Ut]
theorem sO{Y m S:Nat}(h:Nat.beq (Nat.land Y m) m=true)(a:m.testBit S=true):Y.testBit S=true:=by have e:Y&&&m=m:=Nat.eq_of_beq_eq_true h;rw[<-e,QE,PX]at a;exact a.1
structure Fam(n R:Nat)(β:Nat->Prop):Prop where
 some:∃B,B<2^n/\sz B=R/\β B
 exch:∀A B x,A<2^n->B<2^n->sz A=R->sz B=R->β A->β B->A.testBit x=true->B.testBit x=false->∃y,B.testBit y=true/\A.testBit y=false/\β (exB A x y)
def rQ(n R:Nat)(a:Nat->Prop):Prop:=rj (2^n-1) R a\/j7 (2^n-1) R a 5 2\/j7 (2^n-1) R a 5 3
section
variable{n R:Nat}{β:Nat->Prop}(n6:n<=6)(F:Fam n R β){Y N:Nat}(hY:∀S,Y.testBit S=true->β S)(hN:∀S,N.testBit S=true->¬β S)
include n6 F hY hN
theorem Ca:∀l:Cn,(∀c∈l,c∈Bv n R)->vio Y N l=false
 | [],_=>rfl
 |p::l,h=>by
  have m:=Ca l λc k=>h c (Po _ k);show(Bool.rec (vio Y N l) (Bool.rec (vio Y N l) true (Nat.beq (Nat.land N p.2.1) p.2.1)) (Nat.beq (Nat.land Y p.1) p.1):Bool)=false;rw[m];cases e:Nat.beq (Nat.land Y p.1) p.1 with
  |false=>rfl
  |true=>
   cases g:Nat.beq (Nat.land N p.2.1) p.2.1 with
   |false=>rfl
   |true=>
    obtain⟨A,d,i⟩:=Tc.mp (h p Pt);obtain⟨B,b,j⟩:=Tc.mp i;obtain⟨x,a,rfl⟩:=Pl.mp j;have a:=(PV.mp a).2;rw[PX,QY]at a;rw[kM]at d b;obtain⟨y,f,o,q⟩:=F.exch A B x d.1 b.1 d.2 b.2 (hY A (sO e ((fE _ _).mpr #[5]))) (hY B (sO e ((fE _ _).mpr #[5]))) a.1 a.2;refine absurd q (hN _ (sO g ((fE _ _).mpr (Pl.mpr #[y,PV.mpr #[Pf.mpr ?_,by rw[f,o];rfl],2]))));exact Pg (bw b.1 f) n6
theorem wG(h:(JK n R d).any (λm=>Nat.beq (Nat.land Y m) m)=true):j7 (2^n-1) R β 5 d:=by
 obtain⟨m,i,e⟩:=RV.mp h;obtain⟨K,a,g⟩:=Tc.mp i;obtain⟨W,b,rfl⟩:=Pl.mp g;rw[kM]at a;rw[PV,Pf,PX,Ut,Ut]at b;refine#[W,K,bD b.1,bD a.1,λt j=> ?_,a.2,b.2.2,λs f k=>hY _ (sO e ((fE _ _).mpr (Pl.mpr #[s,PV.mpr #[kM.mpr #[f.lt a.1,k],6],2])))]
 .have:=Qd (λz=>Nat.testBit z t) b.2.1;simpa [QE,j]using this
 .rw[Ut];exact PC λt=>by
   rw[QE];cases c:s.testBit t with
   |false=>rfl
   |true=>rw[f t c];rfl
end
theorem Jp{l:List Nat}(h:l.length=2):∃a b,l=[a,b]:=by
 match l,h with
 | [a,b],_=>exact#[a,b,2]
theorem Jo{l:List Nat}(h:l.length=3):∃a b c,l=[a,b,c]:=by
 match l,h with
 | [a,b,c],_=>exact#[a,b,c,2]
theorem NN{l:List Nat}(d:R=2\/R=3)(h:l.length=R):(3:Int)∣aK (l.map λt i=>(en T t i:Int)) (List.range R)↔dd T l=0:=by
 rcases d with rfl|rfl
 .obtain⟨a,b,rfl⟩:=Jp h;have e:aK ([a,b].map λt i=>(en T t i:Int)) (List.range 2)=(en T a 0:Int)*en T b 1-en T b 0*en T a 1:=by simp[aK,bh,sgn,List.range,List.range.loop,TV]
  rw[e];show _↔(_:Nat) % 3=0;simp only[<-Int.natCast_mul];lia
 .obtain⟨a,b,c,rfl⟩:=Jo h;have e:aK ([a,b,c].map λt i=>(en T t i:Int)) (List.range 3)=(en T a 0:Int)*(en T b 1*en T c 2-en T c 1*en T b 2) -en T b 0*(en T a 1*en T c 2-en T c 1*en T a 2)+en T c 0*(en T a 1*en T b 2-en T b 1*en T a 2):=by simp[aK,bh,sgn,List.range,List.range.loop,TV]
  rw[e];show _↔(_:Nat) % 3=0;simp only[Nat.mul_add,Nat.mul_left_comm (en T _ _) 2,Rj,<-Int.natCast_mul];lia
section
variable{n R:Nat}{β:Nat->Prop}(n6:n<=6)(hR:R=2\/R=3)(F:Fam n R β)
include n6 F hR
theorem F3{Y:Nat}(h:Jq n R Y=true)(f:∀S,Y.testBit S=true->β S)(c:∀S,S<2^n->sz S=R->(β S↔Y.testBit S=true)):rQ n R β:=by
 have d:∀S,Nat.testBit 0 S=true->¬β S:=λS h=>by rw[P4]at h;cases h
 unfold Jq at h;rw[P0,P0,P0]at h;rcases h with ((h|h)|h)|h
 .obtain⟨B,k,l,m⟩:=F.some;have:=(c B k l).mp m;rw[Nat.eq_of_beq_eq_true h,P4]at this;cases this
 .exact .inr (.inl (wG n6 F f d h))
 .exact .inr (.inr (wG n6 F f d h))
 .have o:2^n<=2^8:=PJ ∅ ();have b:2^n-1<256:=Pg (aH n) o;refine .inl (pP (κ:=λt i=>(en (NW n R Y) t i:Int)) b λS e a=> ?_);have j:S<256:=e.lt (n:=8) b;have g:=e.lt (aH n);rw[Kc (T:=ao S) (λt=>(Jf j).symm) ((aP S).trans a),NN hR ((aP S).trans a),c S g a];have:=P9.mp h S (kM.mpr #[g,a]);have:=eq_of_beq this;rw[<-this,Nat.blt_eq];lia
theorem yU:∀(l:List (Nat×Cn×Cn)),(∀p∈l,(∀c∈p.2.1,c∈Bv n R)/\∀c∈p.2.2,c∈Bv n R)->∀ {Y N:Nat},go6 n R l Y N=true->(∀S,Y.testBit S=true->β S)->(∀S,N.testBit S=true->¬β S)->(∀S,S<2^n->sz S=R->Y.testBit S=true\/N.testBit S=true\/∃p∈l,p.1=S)->rQ n R β
 | [],_,Y,N,h,d,j,k=>F3 n6 hR F h d λS g i=>#[λb=>(k S g i).elim id λh=>h.elim (λh=>absurd b (j S h)) λ⟨_,h,_⟩=>(nomatch h),d S]
 |p::l,hl,Y,N,h,d,j,k=>by
  have s:=λq a=>hl q (Po p a);obtain⟨t,u⟩:=hl p Pt;change (Bool.rec false (Bool.rec (go6 n R l Y (Nat.lor N (2^p.1))) true (vio Y (Nat.lor N (2^p.1)) p.2.2)) (Bool.rec (go6 n R l (Nat.lor Y (2^p.1)) N) true (vio (Nat.lor Y (2^p.1)) N p.2.1)):Bool)=true at h;have f:∀ {X S:Nat},(Nat.lor X (2^p.1)).testBit S=true↔X.testBit S=true\/p.1=S:=λ{X S}=>by show(X|||2^p.1).testBit S=true↔_;rw[PN,Py,P0,PD]
  by_cases b:β p.1
  .have r:∀S,(Nat.lor Y (2^p.1)).testBit S=true->β S:=λS m=>(f.mp m).elim (d S) λe=>e▸b;rw[Ca n6 F r j _ t]at h;have h:go6 n R l (Nat.lor Y (2^p.1)) N=true:=by
    cases e:go6 n R l (Nat.lor Y (2^p.1)) N with
    |true=>rfl
    |false=>rw[e]at h;cases h
   refine yU l s h r j λS g i=> ?_;rcases k S g i with h|h|⟨q,a,e⟩
   .exact .inl (f.mpr (.inl h))
   .exact .inr (.inl h)
   .rcases Pk.mp a with rfl|a
    .exact .inl (f.mpr (.inr e))
    .exact .inr (.inr #[q,a,e])
  .have o:∀S,(Nat.lor N (2^p.1)).testBit S=true->¬β S:=λS m=>(f.mp m).elim (j S) λe=>e▸b;rw[Ca n6 F d o _ u]at h;have h:go6 n R l Y (Nat.lor N (2^p.1))=true:=by
    revert h
    cases (Bool.rec (go6 n R l (Nat.lor Y (2^p.1)) N) true (vio (Nat.lor Y (2^p.1)) N p.2.1):Bool)with
    |true=>exact id
    |false=>exact λh=>by cases h
   refine yU l s h d o λS g i=> ?_;rcases k S g i with h|h|⟨q,a,e⟩
   .exact .inl h
   .exact .inr (.inl (f.mpr (.inl h)))
   .rcases Pk.mp a with rfl|a
    .exact .inr (.inl (f.mpr (.inr e)))
    .exact .inr (.inr #[q,a,e])
theorem wt(h:go6 n R (D5 n R) 0 0=true):rQ n R β:=yU n6 hR F _ (λp e=>by obtain⟨S,_,rfl⟩:=Pl.mp e;exact#[λc a=>(PV.mp a).1,λc a=>(PV.mp a).1]) h (λS h=>by rw[P4]at h;cases h) (λS h=>by rw[P4]at h;cases h) λS b d=> .inr (.inr #[_,Pl.mpr #[S,kM.mpr #[b,d],2],2])
end
theorem Mat.fam{n R:Nat}{r:Nat->Nat}(M:Mat n r)(g:r (2^n-1)=R):Fam n R λS=>r S=R where
 some:=by obtain⟨B,e,m,o⟩:=M.some_base;exact#[B,e.lt (aH n),99]
 exch:=λA B x f hB p zB a d h i=>by have a:r A=R:=a;have d:r B=R:=d;obtain⟨y,j,k,l⟩:=M.exch (b:=A) (c:=B) #[f,99] #[hB,99] h i;exact#[y,j,k,l.2.2.trans g]
theorem En(b:n<=6)(F:Fam n R β)(h:2*R<=n):rQ n R β:=by
 have a:2^n-1<256:=Pg (aH n) (show 2^n<=2^8 from PJ ∅ ());obtain⟨B,c,d,e⟩:=F.some
 match R with
 |0=>exact .inl (HV a #[B,bD c,d,e])
 |1=>exact .inl (KS a)
 |2=>exact wt b (.inl rfl) F (NV n (by simp;lia))
 |3=>
  have:n=6:=()
  subst this;exact wt b (.inr rfl) F MD
 |R+4=>lia
theorem rQ.congr(h:rQ n R g)(e:∀S,Sub S (2^n-1)->sz S=R->(g S↔γ S)):rQ n R γ:=by
 have ev:∀ {d},j7 (2^n-1) R g 5 d->j7 (2^n-1) R γ 5 d:=λ{d} ⟨W,K,a,b,f,i,j,k⟩=>#[W,K,a,b,f,i,j,λs c l=>(e _ (Ed a (c.trans b)) (by
  rw[tx λt a b=>by rw[f t (c t b)]at a;cases a];lia)).mp (k s c l)]
 exact h.imp (λh=>oG h e) (Or.imp ev ev)
theorem o3(a:n<=8):sz (2^n-1)=n:=by have:=oZ (n:=n) (s:=0) a (Nat.two_pow_pos n);rw[c7,nK]at this;lia
theorem Mat.dual_top(M:Mat n r):ir n r (2^n-1)=n-r (2^n-1):=by
 have h:=M.dD (aH n);have:aw (2^n-1) (2^n-1)=0:=PC λt=>by rw[aI,P4];simp
 rw[this,M.zero,o3 M.n8]at h;lia
theorem Mat.six(M:Mat n r)(l:n<=6):Cl3 n r:=by
 have T:rQ n (r (2^n-1)) λS=>r S=r (2^n-1):=by
  have m:=o3 M.n8;have le:=M.lu (2^n-1) (aH n);have a:=M.aV (aH n);by_cases h:2*r (2^n-1)<=n
  .exact En l (M.fam rfl) h
  .have D:=(En l (M.dual.fam M.dual_top) ()).congr (γ:=qo (2^n-1) λS=>r S=r (2^n-1)) λS j o=>by have b:=dN a j;have c:=M.mono (cR (2^n-1) S) (aH n);have d:=M.dD (j.lt (aH n));show ir n r S=_↔r (aw (2^n-1) S)=r (2^n-1);lia
   have e:n-r (2^n-1)=sz (2^n-1) -r (2^n-1):=by rw[m]
   rw[e]at D;have i:r (2^n-1)<=sz (2^n-1):=()
   rcases D with D|D|D
   .exact .inl (Ic a i M.some_base D)
   .exact .inr (.inr (wF a i ∅ D))
   .exact .inr (.inl (wF a i ∅ D))
 rcases T with h|h|h
 .exact .inl (xO M rfl h)
 .obtain⟨k,w,f,b,c,d,g⟩:=wD M rfl ∅ h;exact .inr #[k,w,f,b, .inl #[c,d,g]]
 .obtain⟨k,w,f,b,c,d,g⟩:=wD M rfl ∅ h;exact .inr #[k,w,f,b, .inr (.inl #[c,d,g])]
theorem J7(b:i<sz k):(bits k)[i]?=some ((bAt k i:Nat):Int):=by
 have a:i<(ao k).length:=by rw[aP];exact b
 rw[show bits k=(ao k).map λt:Nat=>(t:Int)from rfl,PB,PF a];unfold bAt;simp[a]
theorem wo(c:bg m)(o:n<=8)(g:k<2^n)(l:w<2^n)(h:Rep m n r):Rep m (sz k) (cJ r k w):=by
 obtain⟨L,q⟩:=h;obtain⟨b,d,v⟩:=pL c (ao w) L;have G:k<256:=Pg g (show 2^n<=2^8 from PJ ∅ o);have H:w<256:=Pg l (show 2^n<=2^8 from PJ ∅ o);have e:∀s,s<2^sz k->r (aT s k|||w)=rho m b ((ao s).map (bAt k))+d:=λs f=>by
  have lt:aT s k|||w<2^n:=QB ((fq s k).lt g) l;rw[q _ lt,<-v];refine fO c λj=> ?_;rw[aJ,Pz,PN,P0,cx,Pl,aJ];constructor
  .rintro⟨A,⟨i,a,u⟩|h⟩
   .have y:i<sz k:=(Pn.mp a).1;have J:sz k<=8:=aW k;rw[J7 y]at a;exact .inr #[i,aJ.mpr #[9,u],Int.natCast_inj.mp (Qq a)]
   .exact .inl #[A,h]
  .rintro(h|⟨i,a,rfl⟩)
   .exact#[h.1, .inr h.2]
   .have a:=aJ.mp a;have:=bU (B:=k) (i:=i) rfl (bw f a.2);exact#[this.2, .inl #[i,J7 (bw f a.2),a.2]]
 have p:r w=d:=by have:=e 0 (Nat.two_pow_pos _);rw[iX,So]at this;have z:=oF c [] b;have:r w=rho m b []+d:=this;have z:rho m b []<=0:=z;lia
 refine#[b.map λx t=>x (bAt k t),λs f=> ?_];unfold cJ bE;rw[Cr c,e s f,p,SQ]
theorem Rep.congr(h:Rep m n r)(e:∀s,s<2^n->q s=r s):Rep m n q:=by obtain⟨L,b⟩:=h;exact#[L,λs a=>(e s a).trans (b s a)]
theorem Io(c:B<256)(b:sz B=R):vg B R (bAt B):=#[λi a=>(bU b a).1,λi j a d=>iS b a d,λt e=>gn c b e]
open Classical in
theorem Ka(M:Mat n r)(a:r (2^n-1)=R)(no:ix r (2^n-1) R):Bi2 n r:=by
 obtain⟨B,c,f,g⟩:=M.some_base;have m:=c.lt (aH n);have d:sz B=R:=f.trans a;have P:=Io (M.aV m) d;refine J9 (L:=bz (λt i=>if B.testBit t=true then(if t=bAt B i then 1 else 0)else if r (exB B (bAt B i) t)=R then 1 else 0) (List.range R)) M a (by unfold bz;rw[My,Pw]) λS h o=>(qC M a (aH n) c d (g.trans a) P #[λi j b k=> ?_,λy i _ l b=> ?_] no (bD h) o).symm
 .rw[Pd (P.bit i b)];by_cases e:j=i
  .rw[Pd (by rw[e]),Pd e]
  .rw[Pb λz=>e (P.inj i j b k z).symm,Pb e]
 .rw[Pb (by rw[l];decide)]
theorem FL(M:Mat n r)(h:No4 (2^n-1) R λS=>r S=R):ix r (2^n-1) R:=λC x z y v b e c d k p1 p2 f g i j=>by
 have a:∀x y,ov C [x,y]=C|||2^x|||2^y:=λx y=>j6 λt=>by rw[mC,PN,PN,Py,Py,P0,P0,PD,PD];rw[Pk,PR];exact#[λh=>by rcases h with h|h|h;exact .inl (.inl h);exact .inl (.inr h.symm);exact .inr h.symm,λh=>by rcases h with (h|h)|h;exact .inl h;exact .inr (.inl h.symm);exact .inr (.inr h.symm)]
 refine h C x z y v b e d c ?_ ?_ ?_ ?_ ?_ ?_<;>(rw[a];unfold bq at*;lia)
theorem No4.congr(w:E<256)(h:No4 E R o)(e:∀S,Sub S E->sz S=R->(γ S->o S)):No4 E R γ:=λW a b c d j n m hl p q r s u v=>by
 have g:∀ {x y},x∈[a,b,c,d]->y∈[a,b,c,d]->x≠y->γ (ov W [x,y])->o (ov W [x,y]):=λ{x y} k l ne=>e _ (Cz j λt f=>by
   rcases Pk.mp f with rfl|f
   .exact(hl _ k).1
   .rw[PR.mp f];exact(hl _ l).1) (by
   rw[Mo w j #[5,ne] λt f=>by
    rcases Pk.mp f with rfl|f
    .exact hl _ k
    .rw[PR.mp f];exact hl _ l]
   exact n)
 have i:=m;simp only[Qr,Pk,P7,RH,not_or]at i;exact h W a b c d j n m hl (g #[5] #[5] i.1.1 p) (g #[5] #[5] i.1.2.1 q) (g #[5] #[5] i.1.2.2 r) (g #[5] #[5] i.2.1.1 s) (g #[5] #[5] i.2.1.2 u) (g #[5] #[5] i.2.2.1 v)
theorem Kb(M:Mat n r)(b:Bi2 n r):Bi2 n (ir n r):=by have a:=M.aV (aH n);have le:=M.lu (2^n-1) (aH n);have d:=o3 M.n8;refine Ka M.dual (M.dual_top.trans (by rw[d])) (FL M.dual ((IS a le (b.no4 M rfl)).congr a λS c i h=> ?_));have e:=dN a c;have f:=M.mono (cR (2^n-1) S) (aH n);have g:=M.dD (c.lt (aH n));have h:ir n r S=_:=h;show r (aw (2^n-1) S)=r (2^n-1);lia
theorem Gm(M:Mat n r)(a:s<2^n):ir n (ir n r) s=r s:=by have c:=M.dual.dD a;have b:=M.dD (uC (n:=n) (s:=s));have d:=M.dual_top;have e:=dN (M.aV (aH n)) (bD a);rw[oM (bD a)]at b;have le:=M.lu (2^n-1) (aH n);have f:=o3 M.n8;lia
def lE(e p:Nat)(r:Nat->Nat)(s:Nat):Nat:=r (cA p s)+if s.testBit p=true then e else 0
theorem IG(p:Nat)(r:Nat->Nat):lE 0 p r=λs=>r (cA p s):=funext λs=>by unfold lE;rw[ite_self];rfl
theorem uo(M:Mat n r)(h:n<=6)(g:e=0\/e=1)(a:p<=n):Mat (n+1) (lE e p r)/\Cl3 (n+1) (lE e p r)/\∀m:Int,bg m->(Rep m (n+1) (lE e p r)↔Rep m n r):=by
 have b:n<8:=()
 have f:∀s,s<2^n->lE e p r (fX p s)=r s:=λs i=>by unfold lE;rw[qB,fT,Pb (Rg _),Pd rfl];rfl
 have c:=M.six h;rcases g with rfl|rfl
 .rw[IG]at f⊢;exact#[M.loop a b,J3 M a b c,λm d=>#[AE d b a f,AB d a b]]
 .exact#[M.inAll a b,NQ M a b c,λm d=>#[AE d b a f,HW d a b]]
theorem Ei{t e:Nat}(b:t<2)(a:e=0\/e=1):min (sz t) e=if t.testBit 0=true then e else 0:=by
 have:t=0\/t=1:=()
 rcases this with rfl|rfl<;>rcases a with rfl|rfl<;>decide
theorem CD(c:e=0\/e=1)(a:s<2^(n+1)):lE e n r s=r (s % 2^n)+min (sz (s/2^n)) e:=by
 have b:s/2^n<2:=by rw[Nat.div_lt_iff_lt_mul (Nat.two_pow_pos n),<-Nat.pow_succ'];exact a
 unfold lE cA;rw[Ei b c,Nat.div_eq_of_lt a,Nat.mul_zero,RE,RT,RE]
theorem FD(a:e=0\/e=1)(b:s<2^(n+1)):lE e 0 r s=min (sz (s % 2^1)) e+r (s/2^1):=by unfold lE cA;rw[Ei (SS _ ∅) a,Nat.pow_zero,Nat.one_mul,Nat.mod_one,Ud,SK,show s % 2=s % 2^1 from rfl,Sg];rfl
end Bh
set_option maxHeartbeats 4000000
namespace BhK
def top(i:Nat):PySem.Stmt:=PySem.Challenge.pw_basehouse_k44_whole_tables.main.body.getD i (.Pass #[0,0,0,0])
abbrev pG:=top 1
abbrev l9:=top 2
abbrev tX:=top 3
abbrev mf:=top 4
abbrev l7:=top 5
abbrev pF:=top 6
abbrev kI:=top 7
abbrev ma:=top 8
abbrev mj:=top 9
abbrev tY:=top 10
abbrev i7:=top 12
abbrev gO:=top 18
abbrev pE:=top 19
abbrev pH:=top 20
abbrev pI:=top 21
abbrev kE:=top 32
abbrev kF:=top 33
abbrev jF:=top 34
abbrev kD:=top 35
abbrev pD:=top 37
abbrev fZ:=top 38
abbrev kG:=top 39
abbrev f7:=top 40
abbrev kC:=top 41
abbrev fw:=top 44
abbrev tZ:=top 45
abbrev gQ:=top 46
abbrev md:=top 47
abbrev i6:=top 48
abbrev f6:=top 49
abbrev i5:=top 50
abbrev jD:=top 51
abbrev gP:=top 52
abbrev jE:=top 53
abbrev tW:=top 55
abbrev gR:=top 60
abbrev i8:=top 61
abbrev jH:=top 62
abbrev jG:=top 63
abbrev gT:=top 64
abbrev gU:=top 65
abbrev gY:=top 66
abbrev gW:=top 67
abbrev gV:=top 68
abbrev i9:=top 69
abbrev cW:=top 70
abbrev fz:=top 71
abbrev cV:=top 72
abbrev gX:=top 73
abbrev gZ:=top 74
abbrev gS:=top 75
abbrev eF:=top 76
abbrev dS:=L2.cD (top 14) 0
abbrev pJ:=L2.cD (top 14) 1
abbrev cX:=L2.cD (top 14) 2
abbrev eJ:=L2.cD (top 15) 0
abbrev jb:=L2.cD (top 15) 1
abbrev dC:=L2.cD (top 16) 0
abbrev gc:=L2.cD (top 16) 1
abbrev dP:=L2.cD (top 23) 0
abbrev hU:=L2.cD (top 23) 1
abbrev dQ:=L2.cD (top 24) 0
abbrev ia:=L2.cD (top 24) 1
abbrev eI:=L2.cD (top 25) 0
abbrev ja:=L2.cD (top 25) 1
abbrev dR:=L2.cD (top 43) 0
abbrev ic:=L2.cD (top 43) 1
abbrev fA:=L2.cD (top 56) 0
abbrev h9:=L2.cD (top 56) 1
abbrev jI:=L2.cD (top 56) 2
abbrev dB:=L2.cD (top 58) 0
abbrev f9:=L2.cD (top 58) 1
open PySem L2 Bh
structure Tb(K:Frag)(mg:Str->Option Value):Prop where
 len_:mg "len"=none
 range_:mg Vn=none
 isinstance_:mg VU=none
 int_:mg "int"=none
 bool_:mg "bool"=none
 list_:mg Vt=none
 set_:mg "set"=none
 tuple_:mg VA=none
 max_:mg "max"=none
 min_:mg "min"=none
 zip_:mg "zip"=none
 enumerate_:mg VB=none
 sum_:mg "sum"=none
 sorted_:mg "sorted"=none
 dict_:mg VH=none
 all_:mg "all"=none
 str_:mg "str"=none
 reversed_:mg Vy=none
 kII:kitOne K (.type "int") (.type "int")=some true
 kIB:kitOne K (.type "int") (.type "bool")=some false
 kTT:kitOne K (.type VA) (.type VA)=some true
 kLL:kitOne K (.type Vt) (.type Vt)=some true
 kSS:kitOne K (.type "str") (.type "str")=some true
theorem bG{vs:St}(h:vs.length=1):∃v,vs=[v]:=List.length_eq_one_iff.mp h
theorem wB(ns:List Int):(ns.map V.int).all qj=true:=by
 induction ns with
 |nil=>rfl
 |cons n r a=>rw[Qb,TZ,a];rfl
theorem Bg(z:Int)(ns:List Int):inV (.int z) (ns.map V.int)=decide (z∈ns):=by
 unfold inV
 induction ns with
 |nil=>rfl
 |cons n r b=>
  rw[Qb,SA,b];by_cases h:n=z
  .subst h;simp[eqV]
  .have a:¬z=n:=λe=>h e.symm;simp[eqV,h,a]
theorem bK{ns:List Int}{i:Nat}(h:(ns.map V.int)[i]?=some y):∃z,y= .int z/\ns[i]?=some z:=by
 rw[PB]at h;cases e:ns[i]? with
 |none=>rw[e]at h;cases h
 |some z=>rw[e]at h;exact#[z,(Qq h).symm,2]
theorem iI{x y:Int}(a:0<=x)(b:0<=y):Builtin.bitAnd x y=((x.toNat&&&y.toNat:Nat):Int):=by unfold Builtin.bitAnd;rw[Pe a,Pe b]
theorem qt{x y:Int}(d:0<=x)(e:0<=y):Builtin.bitOr x y=((x.toNat|||y.toNat:Nat):Int):=by
 have b:¬(0<=Builtin.bitNot x):=by unfold Builtin.bitNot;lia
 have c:¬(0<=Builtin.bitNot y):=by unfold Builtin.bitNot;lia
 have ex:Builtin.bitNot (Builtin.bitNot x)=x:=by unfold Builtin.bitNot;lia
 have a:Builtin.bitNot (Builtin.bitNot y)=y:=by unfold Builtin.bitNot;lia
 unfold Builtin.bitOr Builtin.bitAnd;rw[Pc b,Pc c];show Builtin.bitNot (Builtin.bitNot (((Builtin.bitNot (Builtin.bitNot x)).toNat||| (Builtin.bitNot (Builtin.bitNot y)).toNat:Nat):Int))=_;rw[ex,a];unfold Builtin.bitNot;lia
theorem JD{s:Int}(h:0<=s):decide (V.int (s/2^k % 2)=V.int 1)=s.toNat.testBit k:=by
 obtain⟨n,rfl⟩:=Rb h;rw[iU];have e:((n:Int) /2^k % 2)=((n/2^k % 2:Nat):Int):=#[5]
 rw[e];by_cases a:n/2^k % 2=1
 .rw[a];simp[a]
 .have b:¬((n/2^k % 2:Nat):Int)=1:=()
  have c:¬V.int ((n/2^k % 2:Nat):Int)=V.int 1:=λe=>b (V.int.inj e);rw[Pc c];simp[a]
theorem ER{s:Int}(c:0<=s)(f:s<256):ik (λi=>s.toNat.testBit i) (λi=> .int (0+(i:Nat))) ((Builtin.Int.intBits s:Nat):Int).toNat=(bits s.toNat).map V.int:=by
 obtain⟨n,rfl⟩:=Rb c;have e:Builtin.Int.intBits (n:Int)=if n=0 then 0 else n.log2+1:=by
  unfold Builtin.Int.intBits;by_cases a:n=0
  .subst a;rfl
  .have d:((n:Int)==0)=false:=#[5,a]
   rw[d,Pb a];simp
 have b:=J6 n ();unfold ik bits;rw[e,Pj,P8];show List.map (λi:Nat=>V.int (0+(i:Int))) (List.filter (λi=>n.testBit i) (List.range (if n=0 then 0 else n.log2+1)))=_;rw[show(λi=>n.testBit i)=n.testBit from rfl,b];refine Qt λk _=> ?_;show V.int (0+(k:Int))=V.int (k:Int);rw[QO]
inductive B3(vs:List V)(H:Hp)(Q:VK):Prop
 |mk(s t:Int) (_:vs=[.int s, .int t]) (_:0<=s) (_:0<=t) (_:Q (.bl (s.toNat.testBit t.toNat)) H):B3 vs H Q
def xY:Sp:=λvs H Q _=>B3 vs H Q
inductive xc(vs:List V)(H:Hp)(Q:VK):Prop
 |mk(s:Int) (_:vs=[.int s]) (_:0<=s) (_:s<256) (_:∀p H',Same H H'->H p=none->H' p=some (.lst ((bits s.toNat).map V.int))->Q (.ref p) H'):xc vs H Q
def gK:Sp:=λvs H Q _=>xc vs H Q
inductive EC(vs:List V)(H:Hp)(Q:VK):Prop
 |mk(s:Int) (_:vs=[.int s]) (_:0<=s) (_:s<256) (_:∀H',Same H H'->Q (.int ((bits s.toNat).length:Nat)) H'):EC vs H Q
def kU:Sp:=λvs H Q _=>EC vs H Q
inductive BK(K:Frag)(vs:List V)(H:Hp)(Q:VK):Prop
 |mk(a:Addr) (ns:List Int) (_:vs=[.ref a]) (_:SqL K H a (ns.map V.int)) (_:(∀z∈ns,0<=z/\z<8)) (_:Q (.int (yd ns:Nat)) H):BK K vs H Q
def xR(K:Frag):Sp:=λvs H Q _=>BK K vs H Q
inductive w9(vs:List V)(H:Hp)(Q:VK):Prop
 |mk(s t:Int) (_:vs=[.int s, .int t]) (_:0<=s) (_:0<=t) (_:Q (.bl (decide (s.toNat&&&t.toNat=s.toNat))) H):w9 vs H Q
def Af:Sp:=λvs H Q _=>w9 vs H Q
inductive BH(vs:List V)(H:Hp)(Q:VK):Prop
 |mk(i:Int) (_:vs=[.int i]) (_:Q (.bl true) H):BH vs H Q
def xQ:Sp:=λvs H Q _=>BH vs H Q
inductive Kj(K:Frag)(vs:List V)(H:Hp)(Q:VK):Prop
 |mk(a:Addr) (ns:List Int) (_:vs=[.ref a]) (_:SqL K H a (ns.map V.int)) (_:ns.length<=63) (_:∀H',Q (.bl true) H'):Kj K vs H Q
def DL(K:Frag):Sp:=λvs H Q _=>Kj K vs H Q
def bJ:V->Int
 | .int z=>z
 |_=>0
theorem bO(p:Int->Bool)(f:Int->Int)(a:List Int):gf (λx=>p (bJ x)) (λx=> .int (f (bJ x))) (a.map V.int)=((a.filter p).map f).map V.int:=by unfold gf;rw[R3,P8,P8];rfl
theorem J0(ns:List Int)(a b:Option Int):∃cs:List Int,so (ns.map V.int) a b=cs.map V.int/\cs.length<=ns.length:=by
 refine#[(ns.drop (HT.sIx ns.length 0 a)).take (HT.sIx ns.length ns.length b-HT.sIx ns.length 0 a),66]
 .unfold so;rw[My,<-List.map_drop,<-List.map_take]
 .rw[P6,RD];exact Pr (Nat.min_le_right _ _) (Nat.sub_le _ _)
theorem ya{n j:Nat}:decide (V.int (Builtin.bitAnd ((n:Int) /2^(0+(j:Int)).toNat) 1)=V.int 1)=n.testBit j:=by
 have b:(0+(j:Int)).toNat=j:=()
 have c:((n:Int) /2^j)=((n/2^j:Nat):Int):=#[5]
 rw[b,c,iI (QT _) ∅,Pj];have d:((1:Int).toNat)=1:=rfl;rw[d,TX,iU];by_cases a:n/2^j % 2=1
 .rw[a];rfl
 .have:¬V.int ((n/2^j % 2:Nat):Int)=V.int 1:=λz=>a (by have:=V.int.inj z;lia);rw[Pc this,Pc a]
theorem kY(p:Nat->Bool)(N:Nat):ik p (λi=>V.int (0+(i:Nat))) N=(((List.range N).filter p).map λs:Nat=>(s:Int)).map V.int:=by unfold ik;rw[P8];refine Qt λk _=> ?_;show V.int (0+(k:Int))=V.int (k:Int);rw[QO]
theorem dO(n:Nat):(1*2^((n:Nat):Int).toNat:Int)=((2^n:Nat):Int):=by rw[Pj,QJ];simp
theorem mE{l:List Int}{j:Nat}(h:l[j]?=some z):atI (l.map V.int) (j:Int)=some (.int z):=iw (by rw[PB,h];rfl)
theorem cj{l:List Int}(h:j<l.length):atI (l.map V.int) (j:Int)=some (.int (l.getD j 0)):=mE (by simp[h])
inductive B7(vs:List V)(H:Hp)(Q:VK):Prop
 |mk(n:Int) (_:vs=[.int n]) (_:0<=n) (_:n<=1000) (_:Q (.int (1*2^n.toNat-1)) H):B7 vs H Q
def DT:Sp:=λvs H Q _=>B7 vs H Q
inductive BZ(K:Frag)(vs:List V)(H:Hp)(Q:VK):Prop
 |mk(p C dx:Addr) (n:V) (_:vs=[.ref p,n]) (_:H p=some (.ins C dx [])) (_:Cls K C) (_:aR K C Vi) (_:Q .non (upd H p (.ins C dx (aY Vi n [])))):BZ K vs H Q
def iK(K:Frag):Sp:=λvs H Q _=>BZ K vs H Q
inductive B4(K:Frag)(vs:List V)(H:Hp)(Q:VK):Prop
 |mk(a C dx:Addr) (fs:List (Str×V)) (n:Int) (_:vs=[.ref a]) (_:H a=some (.ins C dx fs)) (_:Cls K C) (_:aR K C Vi) (_:fs.lookup (Vi:Str)=some (.int n)) (_:0<=n) (_:n<=1000) (_:Q (.int (1*2^n.toNat-1)) H):B4 K vs H Q
def d8(K:Frag):Sp:=λvs H Q _=>B4 K vs H Q
def evF(n k:Int):List (Str×V):=aY "most" (.int k) (aY Vi (.int n) [])
inductive B1(C:Addr)(vs:List V)(H:Hp)(Q:VK):Prop
 |mk(p dx:Addr) (n k:Int) (_:vs=[.ref p, .int n, .int k]) (_:H p=some (.ins C dx [])) (_:Q .non (upd H p (.ins C dx (evF n k)))):B1 C vs H Q
def xX(C:Addr):Sp:=λvs H Q _=>B1 C vs H Q
def Ot(a b:Int):Int:=if b<a then b else a
inductive BP(C:Addr)(vs:List V)(H:Hp)(Q:VK):Prop
 |mk(a dx:Addr) (n k s:Int) (_:vs=[.ref a, .int s]) (_:H a=some (.ins C dx (evF n k))) (_:0<=s) (_:s<256) (_:∀H',Same H H'->Q (.int (Ot ((bits s.toNat).length:Nat) k)) H'):BP C vs H Q
def xW(C:Addr):Sp:=λvs H Q _=>BP C vs H Q
theorem FY:¬((Vi:Str)= "most"):=#[9]
theorem JP(n k:Int):(evF n k).lookup (Vi:Str)=some (.int n):=by unfold evF;rw[ak _ _ FY,aF]
theorem JO(n k:Int):(evF n k).lookup ("most":Str)=some (.int k):=aF _ _ _
theorem JN(n k:Int){m:Str}(a:¬m= "most")(b:¬m= Vi):(evF n k).lookup m=none:=by unfold evF;rw[ak _ _ a,ak _ _ b];rfl
def liF(n:Int)(t:Addr):List (Str×V):=aY V6 (.ref t) (aY Vi (.int n) [])
theorem Bb:¬((Vi:Str)= V6):=#[9]
theorem Jm(n:Int)(t:Addr):(liF n t).lookup (Vi:Str)=some (.int n):=by unfold liF;rw[ak _ _ Bb,aF]
theorem CV(n:Int)(t:Addr):(liF n t).lookup (V6:Str)=some (.ref t):=aF _ _ _
theorem Jl(n:Int)(t:Addr){m:Str}(a:¬m= V6)(b:¬m= Vi):(liF n t).lookup m=none:=by unfold liF;rw[ak _ _ a,ak _ _ b];rfl
theorem Jk(n:Int)(t:Addr):(liF n t).lookup (Vm:Str)=none:=Jl _ _ #[9] #[9]
theorem F0(n:Int)(t:Addr):(liF n t).lookup (Vj:Str)=none:=Jl _ _ #[9] #[9]
def Kf(C:Addr)(H:Hp)(a:Addr)(n:Int)(ms:List Int):Prop:=∃b t,H a=some (.ins C b (liF n t))/\H t=some (.tup (ms.map V.int))/\ms.length<=1000
theorem Kf.same(h:Kf C H a n ms)(e:Same H H'):Kf C H' a n ms:=by obtain⟨b,t,c,d,f⟩:=h;exact#[b,t,e.at c,e.at d,f]
inductive BX(K:Frag)(C:Addr)(vs:List V)(H:Hp)(Q:VK):Prop
 |mk(p dx a:Addr) (n:Int) (ms:List Int) (_:vs=[.ref p, .int n, .ref a]) (_:H p=some (.ins C dx [])) (_:SqL K H a (ms.map V.int)) (_:ms.length<=1000) (_:∀t H',H t=none->(∀b o,H b=some o->b≠p->H' b=some o)->H' p=some (.ins C dx (liF n t))->H' t=some (.tup (ms.map V.int))->Q .non H'):BX K C vs H Q
def DO(K:Frag)(C:Addr):Sp:=λvs H Q _=>BX K C vs H Q
inductive BN(C:Addr)(vs:List V)(H:Hp)(Q:VK):Prop
 |mk(a:Addr) (n s:Int) (ms:List Int) (_:vs=[.ref a, .int s]) (_:Kf C H a n ms) (_:ms≠[]) (_:(∀m∈ms,0<=m/\m<256)) (_:0<=s) (_:s<256) (_:∀H',Same H H'->Q (.int (kK ms s.toNat:Nat)) H'):BN C vs H Q
def xV(C:Addr):Sp:=λvs H Q _=>BN C vs H Q
def cB(l:List Nat):List Int:=l.map λs:Nat=>(s:Int)
theorem eZ(h:z∈cB l):∃s:Nat,s∈l/\z=s:=by obtain⟨s,a,rfl⟩:=Pl.mp h;exact#[s,a,2]
theorem GP{vs:St}(h:vs.length=2):∃v w,vs=[v,w]:=by
 match vs,h with
 | [v,w],_=>exact#[v,w,2]
inductive BQ(K:Frag)(vs:List V)(H:Hp)(Q:VK):Prop
 |mk(a:Addr) (xs:List V) (L:List (List Int)) (c n:Nat) (_:vs=[.ref a, .int (c:Int)]) (_:H a=some (.lst xs)) (_:aQ H xs L) (_:(∀r∈L,r.length=n)) (_:c<n) (_:(∀(i:Nat)(r:List Int)(H':Hp),Same H H'->L[i]?=some r->¬r.getD c 0=0->Q (.int (i:Int)) H')) (_:((∀r∈L,r.getD c 0=0)->∀H',Same H H'->Q .non H')):BQ K vs H Q
def DJ(K:Frag):Sp:=λvs H Q _=>BQ K vs H Q
def oR(d:Int)(a r:List Int)(c:Nat):List Int:=(List.range r.length).map λj=>(r.getD j 0*a.getD c 0-a.getD j 0*r.getD c 0).fdiv d
def kx(n B:Nat)(r:List Int):Prop:=r.length=n/\∀z∈r,z.natAbs<2^B
theorem kx.at{r:List Int}(h:kx n B r)(j:Nat):(r.getD j 0).natAbs<2^B:=by
 by_cases a:j<r.length
 .have e:r.getD j 0=r[j]:=by simp[a]
  rw[e];exact h.2 _ (QP a)
 .have e:r.getD j 0=0:=by simp[a]
  rw[e];exact Q9 ∅
theorem KD{x y:Int}(a:x.natAbs<2^k)(b:y.natAbs<2^k):(x-y).natAbs<2^(k+1):=by rw[Tv];lia
theorem JH(a b:Int):(a.fdiv b).natAbs<=a.natAbs:=Int.natAbs_fdiv_le_natAbs a b
theorem LU(b:kx n B pr)(a:kx n B r):kx n (B+B+1) (oR d pr r c):=by refine#[by unfold oR;rw[My,Pw];exact a.1,λz e=> ?_];obtain⟨j,_,rfl⟩:=Pl.mp e;exact Px (JH _ _) (KD (zq (a.at j) (b.at c)) (zq (b.at j) (a.at c)))
inductive rX(K:Frag)(vs:List V)(H:Hp)(Q:VK):Prop
 |mk(a b:Addr) (r pr:List Int) (c n B:Nat) (d:Int) (_:vs=[.ref a, .ref b, .int (c:Int), .int d]) (_:SqL K H a (r.map V.int)) (_:SqL K H b (pr.map V.int)) (_:kx n B r) (_:kx n B pr) (_:c<n) (_:n<=1000) (_:B<=2^24) (_:CFd 0 d) (_:∀q H',Same H H'->H q=none->H' q=some (.lst ((oR d pr r c).map V.int))->Q (.ref q) H'):rX K vs H Q
def tS(K:Frag):Sp:=λvs H Q _=>rX K vs H Q
inductive xH(K:Frag)(vs:List V)(H:Hp)(Q:VK):Prop
 |mk(a:Addr) (xs:List V) (L:List (List Int)) (i c n B:Nat) (d:Int) (pr:List Int) (_:vs=[.ref a, .int (i:Int), .int (c:Int), .int d]) (_:H a=some (.lst xs)) (_:aQ H xs L) (_:(∀r∈L,kx n B r)) (_:L.length<=1000) (_:L[i]?=some pr) (_:c<n) (_:n<=1000) (_:B<=2^24) (_:(2<=L.length->CFd 0 d)) (_:∀q H' ys,Same H H'->H q=none->H' q=some (.lst ys)->aQ H' ys ((L.take i++L.drop (i+1)).map λr=>oR d pr r c)->Q (.ref q) H'):xH K vs H Q
def Aq(K:Frag):Sp:=λvs H Q _=>xH K vs H Q
def cu(l:List Int):Row:=λj=>l.getD j 0
theorem HN{a r:List Int}(h:a.length=n)(i:r.length=n)(g:c<n):cu (oR d a r c)=bV d (cu a) c (cu r):=by
 funext j;show(oR d a r c).getD j 0=(r.getD j 0*a.getD c 0-a.getD j 0*r.getD c 0).fdiv d;unfold oR;by_cases b:j<r.length
 .simp[b]
 .have e:r.getD j 0=0:=by simp[b]
  have f:a.getD j 0=0:=by
   have:¬j<a.length:=()
   simp[this]
  rw[e,f,Ro,Ro,QH,Int.zero_fdiv];simp[b]
def jm:Nat->Nat
 |0=>200
 |i+1=>jm i+jm i+1
theorem GI:∀i,i<9->jm i<=2^24:=∅
theorem zo:∀i,i<6->jm i<9000:=∅
theorem Nv{d:Int}(h:d.natAbs<2^B)(b:B<9000)(a:d≠0):d.natAbs.log2<9000:=by have:d.natAbs.log2<B:=(Nat.log2_lt ()).mpr h;lia
theorem JY{a:Type}{L:List a}{p:a}(h:L[i]?=some p):L=L.take i++p::L.drop (i+1):=by obtain⟨b,e⟩:=Pn.mp h;rw[<-e,List.getElem_cons_drop,Ti]
theorem Ct(h:i<n):List.range' i (n-i)=i::List.range' (i+1) (n- (i+1)):=by rw[show n-i=(n- (i+1))+1 by lia,List.range'_succ]
def dY(m:Int)(r:List Int):List Int:=if m=0 then r else r.map λz=>z % m
def I0(m:Int)(r:Row):Row:=λj=>if m=0 then r j else r j % m
theorem Fh(m:Int)(r:List Int):cu (dY m r)=I0 m (cu r):=by
 funext j;unfold cu dY I0;by_cases h:m=0
 .rw[Pd h,Pd h]
 .rw[Pb h,Pb h];by_cases a:j<r.length
  .simp[a]
  .simp[a]
theorem A2(m:Int)(r:Row)(j:Nat):m∣I0 m r j-r j:=by
 unfold I0;by_cases h:m=0
 .rw[Pd h,QH];exact Qa m
 .rw[Pb h];have:r j % m-r j=m*(-(r j/m)):=by have:=Th (r j) m;rw[SD];lia
  rw[this];exact SX _ _
theorem Fi(m:Int)(r:List Int):(dY m r).length=r.length:=by
 unfold dY;split
 .rfl
 .rw[My]
theorem AA(d:0<=m)(e:m<128)(b:7<=B)(h:kx n B r):kx n B (dY m r):=by
 refine#[by rw[Fi];exact h.1,λz a=> ?_];unfold dY at a;split at a
 .exact h.2 z a
 .rename_i c;obtain⟨y,_,rfl⟩:=Pl.mp a;have g1:=QS y c;have g2:=QI y (show 0<m by lia);exact Pg (show(y % m).natAbs<2^7 by lia) (PJ ∅ b)
theorem DW(b:0<m):∀z∈dY m r,0<=z/\z<m:=λz a=>by unfold dY at a;rw[Pb ()]at a;obtain⟨y,_,rfl⟩:=Pl.mp a;exact#[QS y (),QI y b]
inductive BL(K:Frag)(vs:List V)(H:Hp)(Q:VK):Prop
 |mk(a:Addr) (r:List Int) (m:Int) (_:vs=[.ref a, .int m]) (_:SqL K H a (r.map V.int)) (_:0<=m) (_:r.length<=1000) (_:∀q H',Same H H'->H q=none->H' q=some (.lst ((dY m r).map V.int))->Q (.ref q) H'):BL K vs H Q
def DH(K:Frag):Sp:=λvs H Q _=>BL K vs H Q
inductive xp(K:Frag)(vs:List V)(H:Hp)(Q:VK):Prop
 |mk(a:Addr) (xs:List V) (M:List (List Int)) (n:Nat) (m:Int) (_:vs=[.ref a, .int m]) (_:H a=some (.lst xs)) (_:aQ H xs M) (_:M.length<=8) (_:n<=8) (_:(∀r∈M,kx n 200 r)) (_:bg m) (_:∀(r:Nat) H',Same H H'->Van m (r+1) (M.map cu) (List.range n)->Mnr m r (M.map cu) (List.range n)->Q (.int (r:Int)) H'):xp K vs H Q
def tO(K:Frag):Sp:=λvs H Q _=>xp K vs H Q
theorem k9:∀i,7<=jm i
 |0=>∅
 |i+1=>by have:=k9 i;show 7<=jm i+jm i+1;lia
theorem KO{r:List Int}(h:¬r.getD c 0=0):r.getD c 0∈r:=by
 by_cases a:c<r.length
 .have e:r.getD c 0=r[c]:=by simp[a]
  rw[e];exact QP a
 .exact absurd (by simp[a]) h
theorem Nn{m x:Int}(b:0<=m)(a:0<m->0<=x/\x<m)(h:¬x=0):¬m∣x:=λd=>by
 by_cases e:m=0
 .rw[e]at d;exact h (SN.mp d)
 .obtain⟨g1,g2⟩:=a ();have:=Int.le_of_dvd () d;lia
structure Mv(H:Hp)(a C:Addr)(n:Nat):Prop where
 ex:∃dx fs,H a=some (.ins C dx fs)/\fs.lookup (Vm:Str)=none/\fs.lookup (Vj:Str)=none/\fs.lookup (Vi:Str)=some (.int (n:Int))
theorem mh(a:n<=8)(b:s<2^n):s<256:=Pg b (PJ (n:=2) () a)
theorem gw.imp(F:gw P w K mg base k f ps sp)(h:∀vs H Q E,sp' vs H Q E->sp vs H Q E):gw P w K mg base k f ps sp':=by obtain⟨⟨c,a,b⟩,d⟩:=F;exact#[#[c,a.imp h,b],d]
structure HC(K:Frag)(C_House C:Addr):Prop where
 cl:Cls K C
 nM:aR K C Vi
 ty:TyC K C
 isH:kitOne K (.ref C) (.ref C_House)=some true
theorem bQ.mono(M:bQ P w K mg base j C m ps sp)(h:j<=k):bQ P w K mg base k C m ps sp:=by obtain⟨c,f,a,F⟩:=M;exact#[c,f,a,gw.mono F h]
theorem bQ.imp(M:bQ P w K mg base k C m ps sp)(h:∀vs H Q E,sp' vs H Q E->sp vs H Q E):bQ P w K mg base k C m ps sp':=by obtain⟨c,f,a,F⟩:=M;exact#[c,f,a,gw.imp F h]
theorem JM(n k:Int):(evF n k).lookup (Vm:Str)=none:=JN _ _ #[9] #[9]
theorem Gk(n k:Int):(evF n k).lookup (Vj:Str)=none:=JN _ _ #[9] #[9]
def otF(n:Int)(h:Addr)(a fr:Int):List (Str×V):=aY VR (.int fr) (aY "full" (.int a) (aY Vq (.ref h) (aY Vi (.int n) [])))
theorem Nj(n:Int)(h:Addr)(a fr:Int):(otF n h a fr).lookup (VR:Str)=some (.int fr):=aF _ _ _
theorem IB(n:Int)(h:Addr)(a fr:Int):(otF n h a fr).lookup ("full":Str)=some (.int a):=by unfold otF;rw[ak _ _ #[9],aF]
theorem FA(n:Int)(h:Addr)(a fr:Int):(otF n h a fr).lookup (Vq:Str)=some (.ref h):=by unfold otF;rw[ak _ _ #[9],ak _ _ #[9],aF]
theorem IA(n:Int)(h:Addr)(a fr:Int):(otF n h a fr).lookup (Vi:Str)=some (.int n):=by unfold otF;rw[ak _ _ #[9],ak _ _ #[9],ak _ _ #[9],aF]
theorem Iz(n:Int)(h:Addr)(a fr:Int){m:Str}(b:¬m= VR)(c:¬m= "full")(d:¬m= Vq)(e:¬m= Vi):(otF n h a fr).lookup m=none:=by unfold otF;rw[ak _ _ b,ak _ _ c,ak _ _ d,ak _ _ e];rfl
abbrev HsP:=Addr->Nat->(Nat->Nat)->Prop
def OI(cO:Addr)(H:Hp)(X:HsP)(a:Addr)(n:Nat)(r:Nat->Nat):Prop:=∃(c h:Addr)(b:Nat->Nat),H a=some (.ins cO c (otF n h ((2^n-1:Nat):Int) (b (2^n-1):Nat)))/\X h n b/\∀s,s<2^n->(r s:Int)=(sz s:Int)+(b (aw (2^n-1) s):Nat) - (b (2^n-1):Nat)
theorem lR(h:Mv (hide H p) a C n):a≠p:=by obtain⟨c,fs,b,_⟩:=h.ex;intro e;subst e;unfold hide at b;rw[Pd rfl]at b;cases b
theorem j5:aw (2^n-1) s<2^n:=Px (iQ _ _) (by have:0<2^n:=Q9 ();lia)
theorem fN(g:H p=none)(f:H a=none):Same H (hide (upd (upd H a x) p y) p):=λb o e=>by have c:b≠p:=au e g;have d:b≠a:=au e f;rw[de c,aA c,aA d];exact e
structure Hs where
 ho:Hp->Addr->Nat->(Nat->Nat)->Prop
 dom:Addr->Prop
structure df(Z:Hs):Prop where
 same:∀ {H H':Hp} {a:Addr} {n:Nat} {r:Nat->Nat},Same H H'->Z.ho H a n r->Z.ho H' a n r
 shown:∀ {H:Hp} {a:Addr} {n:Nat} {r:Nat->Nat},Z.ho H a n r->∃C,Z.dom C/\Mv H a C n
inductive Mw(Z:Hs)(C:Addr)(vs:List V)(H:Hp)(Q:VK):Prop
 |mk(a:Addr) (n s:Nat) (r:Nat->Nat) (_:vs=[.ref a, .int (s:Int)]) (_:Z.ho H a n r) (_:(∃dx fs,H a=some (.ins C dx fs))) (_:n<=8) (_:s<2^n) (_:∀H',Same H H'->Q (.int (r s:Nat)) H'):Mw Z C vs H Q
def dX(Z:Hs)(C:Addr):Sp:=λvs H Q _=>Mw Z C vs H Q
def O8(cE:Addr)(H:Hp)(a:Addr)(n:Nat)(r:Nat->Nat):Prop:=∃(b:Addr)(m:Nat),H a=some (.ins cE b (evF n m))/\∀s,s<2^n->r s=min (sz s) m
def O7(cL:Addr)(H:Hp)(a:Addr)(n:Nat)(r:Nat->Nat):Prop:=∃ms:List Int,Kf cL H a n ms/\ms≠[]/\(∀m∈ms,0<=m/\m<256)/\∀s,s<2^n->r s=kK ms s
def hsO(Z:Hs)(cO:Addr):Hs:=#[λH a n r=>Z.ho H a n r\/OI cO H (Z.ho H) a n r,λC=>Z.dom C\/C=cO]
theorem C3{Z:Hs}(z:df Z)(cO:Addr):df (hsO Z cO) where
 same:=λe h=>by
  rcases h with h|⟨c,h',f,a,b,d⟩
  .exact .inl (z.same e h)
  .exact .inr #[c,h',f,e.at a,z.same e b,d]
 shown:=λh=>by
  rcases h with h|⟨c,h',f,a,b,d⟩
  .obtain⟨C,a,b⟩:=z.shown h;exact#[C, .inl a,b]
  .exact#[cO, .inr rfl,c,_,a,Iz _ _ _ _ #[9] #[9] #[9] #[9],Iz _ _ _ _ #[9] #[9] #[9] #[9],IA _ _ _ _]
theorem yN{H:Hp}(h:H a=some (.ins C dx fs))(h':H a=some (.ins C' dx' fs')):C=C':=by
 rw[h]at h';injection h' with h'
 injection h' with b
theorem we(g:cO≠C)(vs:List V)(H:Hp)(Q:VK)(E:XK)(h:dX (hsO Z cO) C vs H Q E):dX Z C vs H Q E:=by
 obtain⟨a,n,s,r,rfl,b,⟨d,e,c⟩,j,i,k⟩:=h;rcases b with b|⟨l,h',m,f,_⟩
 .exact#[a,n,s,r,2,b,#[d,e,c],j,i,k]
 .exact absurd (yN c f).symm g
inductive xw(Z:Hs)(cO:Addr)(vs:List V)(H:Hp)(Q:VK):Prop
 |mk(p dx h:Addr) (n:Nat) (r:Nat->Nat) (_:vs=[.ref p, .ref h]) (_:H p=some (.ins cO dx [])) (_:Z.ho (hide H p) h n r) (_:n<=8) (_:∀H',(∀b o,H b=some o->b≠p->H' b=some o)->H' p=some (.ins cO dx (otF n h ((2^n-1:Nat):Int) (r (2^n-1):Nat)))->Q .non H'):xw Z cO vs H Q
def tQ(Z:Hs)(cO:Addr):Sp:=λvs H Q _=>xw Z cO vs H Q
inductive xa(Z:Hs)(vs:List V)(H:Hp)(Q:VK):Prop
 |mk(a:Addr) (n:Nat) (r:Nat->Nat) (_:vs=[.ref a]) (_:Z.ho H a n r) (_:n<=8) (_:∀H',Same H H'->Q (.int (r (2^n-1):Nat)) H'):xa Z vs H Q
def iY(Z:Hs):Sp:=λvs H Q _=>xa Z vs H Q
def jw(n:Nat)(r:Nat->Nat):List Int:=(List.range (2^n)).map λs=>(r s:Int)
theorem oY(n:Nat)(r:Nat->Nat):(jw n r).length=2^n:=by unfold jw;rw[My,Pw]
theorem tq{n s:Nat}(r:Nat->Nat)(a:s<2^n):atI ((jw n r).map V.int) (s:Int)=some (.int (r s:Nat)):=iw (by unfold jw;rw[PB,PB,QD a];rfl)
theorem rD(h:n<=8):2^n<=256:=PJ (n:=2) () h
theorem gF(x y:Nat):Builtin.bitOr (x:Int) (y:Int)=((x|||y:Nat):Int):=by rw[qt (QT _) (QT _),Pj,Pj]
theorem iJ(x y:Nat):Builtin.bitAnd (x:Int) (y:Int)=((x&&&y:Nat):Int):=by rw[iI (QT _) (QT _),Pj,Pj]
theorem je:(1*2^((n:Nat):Int).toNat-1:Int)=((2^n-1:Nat):Int):=by
 have h:0<2^n:=Q9 ();have e:((2:Int)^n)=((2^n:Nat):Int):=#[5]
 rw[Pj,QJ,e];lia
inductive BU(vs:List V)(H:Hp)(Q:VK):Prop
 |mk(s:Int) (_:vs=[.int s]) (_:0<=s) (_:s<256) (_:Q (.int ((bits s.toNat).length:Nat)) H):BU vs H Q
def ny:Sp:=λvs H Q _=>BU vs H Q
theorem fQ(l:List Nat)(p:Int->Bool):(cB l).filter p=cB (l.filter λs:Nat=>p (s:Int)):=by unfold cB;rw[R3];rfl
theorem a8(x y:Nat):decide (V.int (x:Int)=V.int (y:Int))=decide (x=y):=by
 by_cases h:x=y
 .rw[Pe h,h,Pe rfl]
 .rw[Pc h,Pc λz=>h (by have:=V.int.inj z;lia)]
inductive EE(vs:List V)(H:Hp)(Q:VK):Prop
 |mk(s t:Nat) (_:vs=[.int (s:Int), .int (t:Int)]) (_:Q (.int (aw s t:Nat)) H):EE vs H Q
def qH:Sp:=λvs H Q _=>EE vs H Q
theorem o9(k:Nat):(1*2^((k:Nat):Int).toNat:Int)=((2^k:Nat):Int):=dO k
abbrev aX:Str:=#[#v[116,119,111,32,111,102,32,102,111,117,114]]
abbrev ba:Str:=#[#v[116,119,111,32,111,102,32,102,105,118,101]]
abbrev aU:Str:=#[#v[116,104,114,101,101,32,111,102,32,102,105,118,101]]
abbrev d6:Str:=#[#v[115,101,118,101,110]]
abbrev bb:Str:=#[#v[111,116,104,101,114,32,115,101,118,101,110]]
def eQ(n:Nat)(r:Nat->Nat):V:=if dg n r 4 2=true then .str aX else if dg n r 5 2=true then .str ba else if dg n r 5 3=true then .str aU else if cc n r=true then .str d6 else if cc n (iC n r)=true then .str bb else .non
inductive BR(vs:List V)(H:Hp)(Q:VK):Prop
 |mk(s:Int) (_:vs=[.int s]) (_:0<=s) (_:s<256) (_:∀p H',Same H H'->H p=none->H' p=some (.lst ((ki s.toNat).map V.int))->Q (.ref p) H'):BR vs H Q
def sy:Sp:=λvs H Q _=>BR vs H Q
inductive vo(vs:List V)(H:Hp)(Q:VK):Prop
 |mk(s k:Int) (_:vs=[.int s, .int k]) (_:0<=s) (_:s<256) (_:∀p H',Same H H'->H p=none->H' p=some (.lst ((fH s.toNat k).map V.int))->Q (.ref p) H'):vo vs H Q
def kA:Sp:=λvs H Q _=>vo vs H Q
inductive xr(Z:Hs)(vs:List V)(H:Hp)(Q:VK):Prop
 |mk(a:Addr) (n m k:Nat) (r:Nat->Nat) (_:vs=[.ref a, .int (m:Int), .int (k:Int)]) (_:Z.ho H a n r) (_:n<=8) (_:∀H',Same H H'->Q (.bl (dg n r m k)) H'):xr Z vs H Q
def Al(Z:Hs):Sp:=λvs H Q _=>xr Z vs H Q
inductive vn(K:Frag)(vs:List V)(H:Hp)(Q:VK):Prop
 |mk(a:Addr) (p:Nat) (L:List Nat) (_:vs=[.ref a, .int (p:Int)]) (_:SqL K H a ((cB L).map V.int)) (_:L.length<=1000) (_:∀q H',Same H H'->H q=none->H' q=some (.lst ((cB (L.filter λt=>decide (p&&&t=p))).map V.int))->Q (.ref q) H'):vn K vs H Q
def wm(K:Frag):Sp:=λvs H Q _=>vn K vs H Q
inductive vm(Z:Hs)(vs:List V)(H:Hp)(Q:VK):Prop
 |mk(a:Addr) (n:Nat) (r:Nat->Nat) (_:vs=[.ref a]) (_:Z.ho H a n r) (_:n<=8) (_:∀H',Same H H'->Q (.bl (cc n r)) H'):vm Z vs H Q
def wk(Z:Hs):Sp:=λvs H Q _=>vm Z vs H Q
inductive xq(Z:Hs)(vs:List V)(H:Hp)(Q:VK):Prop
 |mk(a:Addr) (n:Nat) (r:Nat->Nat) (_:vs=[.ref a]) (_:Z.ho H a n r) (_:n<=8) (_:Dv n r) (_:∀H',Same H H'->Q (eQ n r) H'):xq Z vs H Q
def Ak(Z:Hs):Sp:=λvs H Q _=>xq Z vs H Q
theorem mX{n k:Nat}(a:n<=8):fH (2^n-1) (k:Int)=cB (dW n k):=by unfold fH dW;rw[qP n ()];show(cB (List.range (2^n))).filter _=_;rw[fQ];refine Qd cB (QC λs _=> ?_);rw[Pj];exact Q1.mpr #[λz=>by show(bits s).length=k;lia,λz=>by have:(bits s).length=k:=z;lia]
theorem cq(L:List Nat):(cB L).length=L.length:=My _
theorem sX(n k:Nat)(a:n<=8):(dW n k).length<=256:=Pr (QU _ _) (by rw[Pw];exact qN a)
theorem qQ(g:Int->Bool)(a:List Int):gf (λx=>(λ_=>true) (bJ x)) (λx=>V.bl (g (bJ x))) (a.map V.int)=(a.map g).map V.bl:=by unfold gf;rw[QW.mpr (λ_ _=>rfl),P8,P8];rfl
theorem BF(g:Int->Bool)(L:List Nat):((cB L).map g).all id=L.all λs:Nat=>g (s:Int):=by unfold cB;rw[P8,List.all_map];rfl
theorem Fu:∀G:Nat,G<256->ki G=((List.range 256).filter λs=>(s&&&G)==s).map (λs:Nat=>(s:Int)):=#[9]
theorem o5:s&&&G=s↔Sub s G:=by
 constructor
 .intro h k a;rw[<-h,QE,PX]at a;exact a.2
 .intro h;refine PC λk=> ?_;rw[QE];cases e:s.testBit k with
  |false=>rfl
  |true=>rw[h k e];rfl
theorem gB(c:G<256):z∈fH G k↔∃S:Nat,z=(S:Int)/\Sub S G/\((sz S:Nat):Int)=k:=by
 unfold fH;rw[PV,Fu G c,Pl];constructor
 .rintro⟨⟨S,d,rfl⟩,b⟩;have a:=(PV.mp d).2;exact#[S,2,o5.mp #[5,a],PH b]
 .rintro⟨S,rfl,a,b⟩;exact#[#[S,PV.mpr #[Pf.mpr (a.lt (n:=8) c),#[5,o5.mpr a]],2],Pe b]
def gG(c:Nat->List Int):Nat->Nat->Int:=λt j=>(c t).getD j 0
def dI(c:Nat->List Int)(y:Nat)(col:List Int):Nat->List Int:=λt=>if t=y then col else c t
structure jn(H:Hp)(d:Addr)(ks:List Nat)(q:Nat->Addr)(c:Nat->List Int):Prop where
 dict:H d=some (.dK (nU (ks.map λt:Nat=>((t:Int),V.ref (q t)))))
 cols:∀t∈ks,H (q t)=some (.lst ((c t).map V.int))
theorem jn.same(h:jn H d ks q c)(e:Same H H'):jn H' d ks q c:=#[e.at h.dict,λt a=>e.at (h.cols t a)]
structure zI(p:Int)(R G:Nat)(ks:List Nat)(c:Nat->List Int):Prop where
 keys:∀t,t∈ks↔G.testBit t=true
 nod:ks.Nodup
 len:∀t∈ks,(c t).length=R
 num:∀t∈ks,∀z∈c t,0<=z/\z<p
theorem JG{a:List Nat}{q:Nat->Addr}(h:t∈a):((a.map λt:Nat=>((t:Int),V.ref (q t))).find? λp=>decide (p.1=(t:Int))).map (·.2)=some (V.ref (q t)):=by
 induction a with
 |nil=>exact absurd h P7
 |cons k a b=>
  rw[Qb,R1];by_cases e:k=t
  .subst e;simp
  .have:¬((k:Int)=(t:Int)):=λz=>e ();rw[Pc this];exact b (by rcases Pk.mp h with z|z;exact absurd z.symm e;exact z)
theorem jn.get(h:jn H d ks q c)(a:t∈ks):Dy H d (.int (t:Int)) (some (.ref (q t))):=by have:=Dy.k (k:=Sum.inl (t:Int)) h.dict;rwa[MA,JG a]at this
theorem Jz{G:Nat}(d:∀t,t∈a↔G.testBit t=true):yd (cB a)=G:=PC λj=>by
 have:=sA (cB a) 0 j (λz g=>by obtain⟨s,_,rfl⟩:=eZ g;lia);rw[P4]at this;have e:((j:Int)∈cB a)↔G.testBit j=true:=by
  rw[<-d j];constructor
  .intro h;obtain⟨s,f,e⟩:=eZ h;have:j=s:=()
   exact this▸f
  .exact λh=>Pl.mpr #[j,h,2]
 cases b:G.testBit j with
 |true=>exact this.mpr (.inr (e.mpr b))
 |false=>
  cases c:(yd (cB a)).testBit j with
  |false=>rfl
  |true=>
   rcases this.mp c with z|z
   .cases z
   .rw[e.mp z]at b;cases b
theorem Fg{q:Nat->Addr}{col:List Int}{cs:List Nat}(h:∀t∈cs,H (q t)=some (.lst ((c t).map V.int))/\t≠y)(g:H a=some (.lst (col.map V.int))):aQ H (cs.map (λt=>V.ref (q t))++[.ref a]) ((cs++[y]).map (dI c y col)):=by
 refine aQ.of #[5] λj i k b d=> ?_;by_cases f:j<cs.length
 .rw[P1 (by rw[My];exact f),PB,PF f]at d;rw[PB,P1 f,PF f]at b;obtain⟨g1,g2⟩:=h _ (QP f);cases b;cases d;refine#[76];unfold dI;rw[Pb g2];exact g1
 .rw[P2 (by rw[My];lia)]at d;rw[PB,P2 ()]at b;have e:j-cs.length=0:=by
   cases e:j-cs.length with
   |zero=>rfl
   |succ m=>rw[e]at b;simp at b
  rw[My,e]at d;rw[e]at b;cases b;cases d;refine#[76];unfold dI;rw[Pd rfl];exact g
def oU(p:Int)(R:Nat)(r:Nat->Nat)(c:Nat->List Int)(G y:Nat):Prop:=∀S,Sub S G->sz S+1=R->(bE p (bz (gG c) (List.range R)) (S|||2^y)=R↔r (S|||2^y)=R)
inductive EI(Z:Hs)(vs:List V)(H:Hp)(Q:VK):Prop
 |mk(h d a:Addr) (n R G y:Nat) (p:Int) (r:Nat->Nat) (ks:List Nat) (q:Nat->Addr) (c:Nat->List Int) (col:List Int) (_:vs=[.ref h, .int p, .ref d, .int (y:Int), .ref a]) (_:Z.ho H h n r) (_:n<=8) (_:r (2^n-1)=R) (_:R<=8) (_:bg p) (_:0<p) (_:jn H d ks q c) (_:zI p R G ks c) (_:G<2^n) (_:y<n) (_:G.testBit y=false) (_:H a=some (.lst (col.map V.int))) (_:col.length=R) (_:(∀z∈col,0<=z/\z<p)) (_:∀b H',Same H H'->(b=true↔oU p R r (dI c y col) G y)->Q (.bl b) H'):EI Z vs H Q
def Hu(Z:Hs):Sp:=λvs H Q _=>EI Z vs H Q
inductive qx(vs:List V)(H:Hp)(Q:VK):Prop
 |mk(s t y:Nat) (_:vs=[.int (s:Int), .int (t:Int), .int (y:Int)]) (_:t<8) (_:y<8) (_:Q (.int (qm s t y:Nat)) H):qx vs H Q
def rq:Sp:=λvs H Q _=>qx vs H Q
inductive xg(vs:List V)(H:Hp)(Q:VK):Prop
 |mk(s h:Int) (_:vs=[.int s, .int h]) (_:0<=s) (_:0<=h) (_:h<256) (_:∀H',Same H H'->Q (.int (aT s.toNat h.toNat:Nat)) H'):xg vs H Q
def Ah:Sp:=λvs H Q _=>xg vs H Q
theorem rE(p:Nat->Int->Bool):∀(a:List Int)(i:Nat),gA (λi x=>p i (bJ x)) (λ_ x=>x) i (a.map V.int)=(picks p i a).map V.int
 | [],_=>rfl
 |z::r,i=>by rw[Qb,gA,picks,rE p r (i+1)];show(if p i z=true then _ else _)=_;split<;>rfl
def miF(n:Int)(h:Addr)(b a fr:Int):List (Str×V):=aY VN (.int fr) (aY Wc (.int a) (aY "kept" (.int b) (aY Vq (.ref h) (aY Vi (.int n) []))))
theorem Nr(n:Int)(h:Addr)(b a fr:Int):(miF n h b a fr).lookup (VN:Str)=some (.int fr):=aF _ _ _
theorem FR(n:Int)(h:Addr)(b a fr:Int):(miF n h b a fr).lookup (Wc:Str)=some (.int a):=by unfold miF;rw[ak _ _ #[9],aF]
theorem Je(n:Int)(h:Addr)(a b fr:Int):(miF n h a b fr).lookup ("kept":Str)=some (.int a):=by unfold miF;rw[ak _ _ #[9],ak _ _ #[9],aF]
theorem FQ(n:Int)(h:Addr)(b a fr:Int):(miF n h b a fr).lookup (Vq:Str)=some (.ref h):=by unfold miF;rw[ak _ _ #[9],ak _ _ #[9],ak _ _ #[9],aF]
theorem Jd(n:Int)(h:Addr)(b a fr:Int):(miF n h b a fr).lookup (Vi:Str)=some (.int n):=by unfold miF;rw[ak _ _ #[9],ak _ _ #[9],ak _ _ #[9],ak _ _ #[9],aF]
theorem Jc(n:Int)(h:Addr)(g a fr:Int){m:Str}(b:¬m= VN)(c:¬m= Wc)(d:¬m= "kept")(e:¬m= Vq)(f:¬m= Vi):(miF n h g a fr).lookup m=none:=by unfold miF;rw[ak _ _ b,ak _ _ c,ak _ _ d,ak _ _ e,ak _ _ f];rfl
def OK(cM:Addr)(H:Hp)(X:HsP)(a:Addr)(n:Nat)(r:Nat->Nat):Prop:=∃(d h:Addr)(b k w:Nat)(c:Nat->Nat),H a=some (.ins cM d (miF n h k w (c w:Nat)))/\X h b c/\n=sz k/\b<=8/\k<2^b/\w<2^b/\∀s,s<2^n->(r s:Int)=(c (aT s k|||w):Nat) - (c w:Nat)
def qi(Z:Hs)(cM:Addr):Hs:=#[λH a n r=>OK cM H (Z.ho H) a n r,λC=>C=cM]
theorem yP{Z:Hs}(z:df Z)(cM:Addr):df (qi Z cM) where
 same:=λe h=>by obtain⟨a,h',c,k,w,d,b,f,g⟩:=h;exact#[a,h',c,k,w,d,e.at b,z.same e f,g]
 shown:=λh=>by obtain⟨a,h',c,k,w,d,b,_⟩:=h;exact#[cM,2,a,_,b,Jc _ _ _ _ _ #[9] #[9] #[9] #[9] #[9],Jc _ _ _ _ _ #[9] #[9] #[9] #[9] #[9],Jd _ _ _ _ _]
inductive xD(Z:Hs)(cM:Addr)(vs:List V)(H:Hp)(Q:VK):Prop
 |mk(p dx h:Addr) (n o w:Nat) (r:Nat->Nat) (_:vs=[.ref p, .ref h, .int (o:Int), .int (w:Int)]) (_:H p=some (.ins cM dx [])) (_:Z.ho (hide H p) h n r) (_:n<=8) (_:w<2^n) (_:∀H',(∀b o,H b=some o->b≠p->H' b=some o)->H' p=some (.ins cM dx (miF (sz (aw (2^n-1) (o|||w)):Nat) h (aw (2^n-1) (o|||w):Nat) w (r w:Nat)))->Q .non H'):xD Z cM vs H Q
def tR(Z:Hs)(cM:Addr):Sp:=λvs H Q _=>xD Z cM vs H Q
def knF(n:Int)(t:Addr):List (Str×V):=aY "told" (.ref t) (aY Vi (.int n) [])
theorem Jx(n:Int)(t:Addr):(knF n t).lookup (Vi:Str)=some (.int n):=by unfold knF;rw[ak _ _ #[9],aF]
theorem Ju(n:Int)(t:Addr):(knF n t).lookup ("told":Str)=some (.ref t):=aF _ _ _
theorem Jw(n:Int)(t:Addr){m:Str}(a:¬m= "told")(b:¬m= Vi):(knF n t).lookup m=none:=by unfold knF;rw[ak _ _ a,ak _ _ b];rfl
theorem Jv(n:Int)(t:Addr):(knF n t).lookup (Vm:Str)=none:=Jw _ _ #[9] #[9]
theorem F7(n:Int)(t:Addr):(knF n t).lookup (Vj:Str)=none:=Jw _ _ #[9] #[9]
def Kh(C:Addr)(H:Hp)(a:Addr)(n:Nat)(r:Nat->Nat):Prop:=∃b t,H a=some (.ins C b (knF (n:Int) t))/\H t=some (.tup ((jw n r).map V.int))
theorem Kh.same(h:Kh C H a n r)(e:Same H H'):Kh C H' a n r:=by obtain⟨b,t,c,d⟩:=h;exact#[b,t,e.at c,e.at d]
inductive BY(Z:Hs)(C:Addr)(vs:List V)(H:Hp)(Q:VK):Prop
 |mk(p dx h:Addr) (n:Nat) (r:Nat->Nat) (_:vs=[.ref p, .ref h]) (_:H p=some (.ins C dx [])) (_:Z.ho (hide H p) h n r) (_:n<=8) (_:∀t H',H t=none->(∀b o,H b=some o->b≠p->H' b=some o)->H' t=some (.tup ((jw n r).map V.int))->H' p=some (.ins C dx (knF (n:Int) t))->Q .non H'):BY Z C vs H Q
def DP(Z:Hs)(C:Addr):Sp:=λvs H Q _=>BY Z C vs H Q
inductive BO(C:Addr)(vs:List V)(H:Hp)(Q:VK):Prop
 |mk(a:Addr) (n s:Nat) (r:Nat->Nat) (_:vs=[.ref a, .int (s:Int)]) (_:Kh C H a n r) (_:n<=8) (_:s<2^n) (_:Q (.int (r s:Nat)) H):BO C vs H Q
def DI(C:Addr):Sp:=λvs H Q _=>BO C vs H Q
def hsN(C:Addr):Hs:=#[Kh C,λa=>a=C]
def neF(n p:Int)(t:Addr):List (Str×V):=aY "ties" (.ref t) (aY Vv (.int p) (aY Vi (.int n) []))
theorem AI:¬((Vv:Str)= "ties"):=#[9]
theorem FW:¬((Vi:Str)= "ties"):=#[9]
theorem Ba:¬((Vi:Str)= Vv):=#[9]
theorem IY(n p:Int)(t:Addr):(neF n p t).lookup (Vi:Str)=some (.int n):=by unfold neF;rw[ak _ _ FW,ak _ _ Ba,aF]
theorem uv(n p:Int)(t:Addr):(neF n p t).lookup (Vv:Str)=some (.int p):=by unfold neF;rw[ak _ _ AI,aF]
theorem IW(n p:Int)(t:Addr):(neF n p t).lookup ("ties":Str)=some (.ref t):=aF _ _ _
theorem CO(n p:Int)(t:Addr){m:Str}(a:¬m= "ties")(b:¬m= Vv)(c:¬m= Vi):(neF n p t).lookup m=none:=by unfold neF;rw[ak _ _ a,ak _ _ b,ak _ _ c];rfl
theorem IX(n p:Int)(t:Addr):(neF n p t).lookup (Vm:Str)=none:=CO _ _ _ #[9] #[9] #[9]
theorem CN(n p:Int)(t:Addr):(neF n p t).lookup ("pieces":Str)=none:=CO _ _ _ #[9] #[9] #[9]
def GJ(C:Addr)(H:Hp)(a:Addr)(n:Int)(p:Nat)(ts:List (Nat×Nat)):Prop:=∃b t xs,H a=some (.ins C b (neF n p t))/\H t=some (.tup xs)/\dF H xs ts
theorem GJ.same(h:GJ C H a n p ts)(e:Same H H'):GJ C H' a n p ts:=by obtain⟨b,t,xs,c,d,f⟩:=h;exact#[b,t,xs,e.at c,e.at d,f.ts (lG.of e)]
def ri(p:Nat)(ts:List (Nat×Nat)):Prop:=∀t∈ts,t.1<p/\t.2<p
inductive EA(K:Frag)(vs:List V)(H:Hp)(Q:VK):Prop
 |mk(a b:Addr) (ms:List Int) (t:Nat×Nat) (_:vs=[.ref a, .ref b]) (_:SqL K H a (ms.map V.int)) (_:H b=some (.tup [.int t.1, .int t.2])) (_:t.1<ms.length) (_:t.2<ms.length) (_:ms.length<=1000) (_:∀q H',Same H H'->H q=none->H' q=some (.lst ((mrg ms t.1 t.2).map V.int))->Q (.ref q) H'):EA K vs H Q
def Hm(K:Frag):Sp:=λvs H Q _=>EA K vs H Q
inductive BW(K:Frag)(C:Addr)(vs:List V)(H:Hp)(Q:VK):Prop
 |mk(p dx a:Addr) (n pt:Int) (xs:List V) (ts:List (Nat×Nat)) (_:vs=[.ref p, .int n, .int pt, .ref a]) (_:H p=some (.ins C dx [])) (_:SqL K H a xs) (_:dF H xs ts) (_:xs.length<=1000) (_:∀t ys H',H t=none->(∀b o,H b=some o->b≠p->H' b=some o)->H' p=some (.ins C dx (neF n pt t))->H' t=some (.tup ys)->dF H' ys ts->Q .non H'):BW K C vs H Q
def DN(K:Frag)(C:Addr):Sp:=λvs H Q _=>BW K C vs H Q
inductive Ki(C:Addr)(vs:List V)(H:Hp)(Q:VK):Prop
 |mk(a:Addr) (n:Int) (p:Nat) (s:Nat) (ts:List (Nat×Nat)) (_:vs=[.ref a, .int (s:Int)]) (_:GJ C H a n p ts) (_:ri p ts) (_:p<=1000) (_:ts.length<=8) (_:s<2^ts.length) (_:∀H',Same H H'->Q (.int (pcs p ts s:Nat)) H'):Ki C vs H Q
def Me(C:Addr):Sp:=λvs H Q _=>Ki C vs H Q
inductive BM(C:Addr)(vs:List V)(H:Hp)(Q:VK):Prop
 |mk(a:Addr) (n:Int) (p:Nat) (s:Nat) (ts:List (Nat×Nat)) (_:vs=[.ref a, .int (s:Int)]) (_:GJ C H a n p ts) (_:ri p ts) (_:p<=1000) (_:ts.length<=8) (_:s<2^ts.length) (_:∀H',Same H H'->Q (.int ((p:Int) - (pcs p ts s:Nat))) H'):BM C vs H Q
def xU(C:Addr):Sp:=λvs H Q _=>BM C vs H Q
theorem qk(val:Nat->Int):∀i,(PyProof.Rows.firstMet val i).length=oQ val i
 |0=>rfl
 |i+1=>by rw[PyProof.Rows.firstMet_succ,PyProof.Rows.step_length,PyProof.Rows.firstMet_any,qk val i];show _=if _ then _ else _;rw[List.any_map];rfl
theorem JW:decide (V.int a=V.int b)=decide (a=b):=by
 by_cases h:a=b
 .subst h;simp
 .rw[Pc h,Pc λe=>h (V.int.inj e)]
theorem FN(n p:Int)(t:Addr):(neF n p t).lookup (Vj:Str)=none:=CO _ _ _ #[9] #[9] #[9]
theorem Np{ts:List (Nat×Nat)}(i:ri p ts)(c:s<2^ts.length):((rkC (ts.map eT) s:Nat):Int)=(p:Int) - (pcs p ts s:Nat):=by
 have g:∀t∈(bits s).map (λz:Int=>ts.getD z.toNat (0,0)),t.1<p/\t.2<p:=λt j=>by
  obtain⟨z,b,rfl⟩:=Pl.mp j;obtain⟨k,a⟩:=k7 c b;have e:ts.getD z.toNat (0,0)=ts[z.toNat]:=by simp[a]
  rw[e];exact i _ (QP a)
 have h:=IU _ g;have d:mkA p ((bits s).map (λz:Int=>ts.getD z.toNat (0,0)))=Ja p ts s:=by unfold mkA Ja A4;rw[List.foldl_map]
 have f:((bits s).map (λz:Int=>ts.getD z.toNat (0,0))).map eT=av (ts.map eT) s:=by unfold av;rw[P8];refine Qt λz b=> ?_;obtain⟨k,a⟩:=k7 c b;show eT (ts.getD z.toNat (0,0))=(ts.map eT).getD z.toNat 0;simp[a]
 rw[d,f]at h;have l:pcs p ts s+rkC (ts.map eT) s=p:=h;lia
def OL(cN:Addr)(H:Hp)(a:Addr)(n:Nat)(r:Nat->Nat):Prop:=∃(p:Nat) (ts:List (Nat×Nat)),GJ cN H a n p ts/\ri p ts/\p<=1000/\ts.length=n/\∀s,s<2^n->(r s:Int)=(p:Int) - (pcs p ts s:Nat)
def taF(n p:Int)(t:Addr):List (Str×V):=aY VZ (.ref t) (aY Vr (.int p) (aY Vi (.int n) []))
theorem Cv:¬((Vr:Str)= VZ):=#[9]
theorem FX:¬((Vi:Str)= VZ):=#[9]
theorem CQ:¬((Vi:Str)= Vr):=#[9]
theorem G4(n p:Int)(t:Addr):(taF n p t).lookup (Vi:Str)=some (.int n):=by unfold taF;rw[ak _ _ FX,ak _ _ CQ,aF]
theorem EV(n p:Int)(t:Addr):(taF n p t).lookup (Vr:Str)=some (.int p):=by unfold taF;rw[ak _ _ Cv,aF]
theorem GX(n p:Int)(t:Addr):(taF n p t).lookup (VZ:Str)=some (.ref t):=aF _ _ _
theorem GZ(n p:Int)(t:Addr){m:Str}(a:¬m= VZ)(b:¬m= Vr)(c:¬m= Vi):(taF n p t).lookup m=none:=by unfold taF;rw[ak _ _ a,ak _ _ b,ak _ _ c];rfl
theorem GY(n p:Int)(t:Addr):(taF n p t).lookup (Vm:Str)=none:=GZ _ _ _ #[9] #[9] #[9]
theorem EW(n p:Int)(t:Addr):(taF n p t).lookup (Vj:Str)=none:=GZ _ _ _ #[9] #[9] #[9]
def TaP(C:Addr)(H:Hp)(a:Addr)(n m:Int)(M:List (List Int)):Prop:=∃b t xs,H a=some (.ins C b (taF n m t))/\H t=some (.tup xs)/\mZ H xs M
theorem TaP.same(h:TaP C H a n m M)(e:Same H H'):TaP C H' a n m M:=by obtain⟨b,t,xs,c,d,f⟩:=h;exact#[b,t,xs,e.at c,e.at d,f.ts (lG.of e)]
inductive xt(K:Frag)(C:Addr)(vs:List V)(H:Hp)(Q:VK):Prop
 |mk(p dx a:Addr) (n m:Int) (xs:List V) (M:List (List Int)) (_:vs=[.ref p, .int n, .int m, .ref a]) (_:H p=some (.ins C dx [])) (_:H a=some (.lst xs)) (_:aQ H xs M) (_:xs.length<=100) (_:∀t ys H',H t=none->(∀b o,H b=some o->b≠p->H' b=some o)->H' p=some (.ins C dx (taF n m t))->H' t=some (.tup ys)->mZ H' ys M->Q .non H'):xt K C vs H Q
def tP(K:Frag)(C:Addr):Sp:=λvs H Q _=>xt K C vs H Q
def om(s:Nat):List Nat:=(List.range 8).filter s.testBit
theorem Gu(s:Nat):(om s).length=(bits s).length:=by unfold om bits;rw[My]
theorem Dr(s:Nat):bits s=(om s).map λk:Nat=>(k:Int):=rfl
inductive xo(C:Addr)(vs:List V)(H:Hp)(Q:VK):Prop
 |mk(a:Addr) (n s:Nat) (m:Int) (M:List (List Int)) (_:vs=[.ref a, .int (s:Int)]) (_:TaP C H a n m M) (_:n<=8) (_:M.length<=8) (_:(∀r∈M,kx n 200 r)) (_:bg m) (_:s<2^n) (_:∀(r:Nat) H',Same H H'->Van m (r+1) (M.map cu) (om s)->Mnr m r (M.map cu) (om s)->Q (.int (r:Int)) H'):xo C vs H Q
def tN(C:Addr):Sp:=λvs H Q _=>xo C vs H Q
def pick(s:Nat)(r:List Int):List Int:=(bits s).map λz=>r.getD z.toNat 0
def AJ(s:Nat)(r:Row):Row:=λj=>if j<(om s).length then r ((om s).getD j 0)else 0
theorem Ip(s:Nat)(r:List Int):cu (pick s r)=AJ s (cu r):=by
 funext j;unfold cu pick AJ;rw[Dr,P8];by_cases h:j<(om s).length
 .simp[h]
 .simp[h]
theorem yt(s:Nat)(M:List (List Int)):(M.map (pick s)).map cu=(M.map cu).map (AJ s):=by rw[P8,P8];exact Qt λr _=>Ip s r
theorem D7{R:List Row}(_:r∈R)(a:j<(om s).length):AJ s r j=r ((om s).getD j 0):=by unfold AJ;rw[Pd a]
def siF(n:Int)(a b:Addr)(c f1:Int):List (Str×V):=aY VM (.int f1) (aY VL (.int c) (aY "second" (.ref b) (aY "first" (.ref a) (aY Vi (.int n) []))))
theorem MO(n:Int)(a b:Addr)(c f1:Int):(siF n a b c f1).lookup (VM:Str)=some (.int f1):=aF _ _ _
theorem MN(n:Int)(b c:Addr)(a f1:Int):(siF n b c a f1).lookup (VL:Str)=some (.int a):=by unfold siF;rw[ak _ _ #[9],aF]
theorem Cg(n:Int)(b a:Addr)(c f1:Int):(siF n b a c f1).lookup ("second":Str)=some (.ref a):=by unfold siF;rw[ak _ _ #[9],ak _ _ #[9],aF]
theorem E2(n:Int)(a b:Addr)(c f1:Int):(siF n a b c f1).lookup ("first":Str)=some (.ref a):=by unfold siF;rw[ak _ _ #[9],ak _ _ #[9],ak _ _ #[9],aF]
theorem Hw(n:Int)(a b:Addr)(c f1:Int):(siF n a b c f1).lookup (Vi:Str)=some (.int n):=by unfold siF;rw[ak _ _ #[9],ak _ _ #[9],ak _ _ #[9],ak _ _ #[9],aF]
theorem Hv(n:Int)(a b:Addr)(c f1:Int){m:Str}(g1:¬m= VM)(g2:¬m= VL)(g3:¬m= "second")(g4:¬m= "first")(g5:¬m= Vi):(siF n a b c f1).lookup m=none:=by unfold siF;rw[ak _ _ g1,ak _ _ g2,ak _ _ g3,ak _ _ g4,ak _ _ g5];rfl
def O6(cS:Addr)(H:Hp)(X:HsP)(a:Addr)(n:Nat)(r:Nat->Nat):Prop:=∃(h c d:Addr)(b e:Nat)(f g:Nat->Nat),n=b+e/\H a=some (.ins cS h (siF n c d b ((2^b-1:Nat):Int)))/\X c b f/\X d e g/\∀s,s<2^n->r s=f (s % 2^b)+g (s/2^b)
def LJ(Z:Hs)(cS:Addr):Hs:=#[λH a n r=>O6 cS H (Z.ho H) a n r,λC=>C=cS]
theorem El{Z:Hs}(z:df Z)(cS:Addr):df (LJ Z cS) where
 same:=λe h=>by obtain⟨a,b,c,d,f,g,i,en,ha,g1,g2,j⟩:=h;exact#[a,b,c,d,f,g,i,en,e.at ha,z.same e g1,z.same e g2,j]
 shown:=λh=>by obtain⟨a,b,c,d,f,g,i,en,ha,_⟩:=h;exact#[cS,2,a,_,ha,Hv _ _ _ _ _ #[9] #[9] #[9] #[9] #[9],Hv _ _ _ _ _ #[9] #[9] #[9] #[9] #[9],Hw _ _ _ _ _]
inductive xu(Z:Hs)(cS:Addr)(vs:List V)(H:Hp)(Q:VK):Prop
 |mk(p dx h1 h2:Addr) (n1 n2:Nat) (r1 r2:Nat->Nat) (_:vs=[.ref p, .ref h1, .ref h2]) (_:H p=some (.ins cS dx [])) (_:Z.ho (hide H p) h1 n1 r1) (_:Z.ho (hide H p) h2 n2 r2) (_:n1+n2<=8) (_:∀H',(∀b o,H b=some o->b≠p->H' b=some o)->H' p=some (.ins cS dx (siF ((n1+n2:Nat):Int) h1 h2 n1 ((2^n1-1:Nat):Int)))->Q .non H'):xu Z cS vs H Q
def Am(Z:Hs)(cS:Addr):Sp:=λvs H Q _=>xu Z cS vs H Q
def hsU(Z W:Hs):Hs:=#[λH a n r=>Z.ho H a n r\/W.ho H a n r,λC=>Z.dom C\/W.dom C]
theorem oO{Z W:Hs}(z:df Z)(w:df W):df (hsU Z W) where
 same:=λe h=>h.imp (z.same e) (w.same e)
 shown:=λh=>by
  rcases h with h|h
  .obtain⟨C,a,b⟩:=z.shown h;exact#[C, .inl a,b]
  .obtain⟨C,a,b⟩:=w.shown h;exact#[C, .inr a,b]
theorem Ee{Z:Hs}(z:df Z)(n:¬Z.dom C)(h:Z.ho H a m r)(g:∃b fs,H a=some (.ins C b fs)):False:=by obtain⟨i,d,f⟩:=z.shown h;obtain⟨b,fs,c,_⟩:=f.ex;obtain⟨j,k,e⟩:=g;exact n (yN c e▸d)
theorem ML{Z W:Hs}(w:df W)(n:¬W.dom C)(vs:List V)(H:Hp)(Q:VK)(E:XK)(h:dX (hsU Z W) C vs H Q E):dX Z C vs H Q E:=by
 obtain⟨a,m,s,r,e,b,g,d,c,k⟩:=h;rcases b with b|b
 .exact#[a,m,s,r,e,b,g,d,c,k]
 .exact(Ee w n b g).elim
theorem MK{Z W:Hs}(z:df Z)(n:¬Z.dom C)(vs:List V)(H:Hp)(Q:VK)(E:XK)(h:dX (hsU Z W) C vs H Q E):dX W C vs H Q E:=by
 obtain⟨a,m,s,r,e,b,g,d,c,k⟩:=h;rcases b with b|b
 .exact(Ee z n b g).elim
 .exact#[a,m,s,r,e,b,g,d,c,k]
theorem uw{Z W:Hs}(z:df Z)(f:df W)(b:∀C,Z.dom C->¬W.dom C)(e:∀C,Z.dom C->bQ P w K mg base j C Vm nS (dX Z C))(c:∀C,W.dom C->bQ P w K mg base j C Vm nS (dX W C)):
  ∀C,(hsU Z W).dom C->bQ P w K mg base j C Vm nS (dX (hsU Z W) C):=λC a=>by
 rcases a with a|a
 .exact bQ.imp (e C a) (ML f (b C a))
 .exact bQ.imp (c C a) (MK z λd=>b C d a)
theorem Jh{n:Nat}(n8:n<=8)(m:Nat):Mat n (λs=>min (sz s) m) where
 n8:=n8
 zero:=by show min (sz 0) m=0;rw[c7];exact Nat.zero_min m
 step:=λs k a h=>by
  have b:=Hg s (mh n8 a) k ();have c:sz s<=sz (s|||2^k):=sv λj _ f=>by rw[a9,f];rfl
  show min (sz s) m<=min (sz (s|||2^k)) m/\min (sz (s|||2^k)) m<=min (sz s) m+1;lia
 sub:=λs j k a f h b c=>by
  by_cases d:s.testBit j=true
  .rw[sM d];exact c
  .have e:=gp (mh n8 a) (show j<8 by lia) (Rc.mpr d);have o:sz (s|||2^j)<=sz (s|||2^j|||2^k):=sv λi _ g=>by rw[a9 (s|||2^j),g];rfl
   show min (sz (s|||2^j|||2^k)) m=min (sz s) m;have l:min (sz (s|||2^j)) m=min (sz s) m:=b;lia
def NT(cT:Addr)(H:Hp)(a:Addr)(n:Nat)(r:Nat->Nat):Prop:=∃(m:Int) (M:List (List Int)),TaP cT H a n m M/\M.length<=8/\(∀x∈M,kx n 200 x)/\bg m/\∀s,s<2^n->r s=bE m (M.map cu) s
def hsE(cE:Addr):Hs:=#[O8 cE,λC=>C=cE]
def hsL(cL:Addr):Hs:=#[O7 cL,λC=>C=cL]
def NF(cN:Addr):Hs:=#[OL cN,λC=>C=cN]
def hsT(cT:Addr):Hs:=#[NT cT,λC=>C=cT]
theorem C5(cE:Addr):df (hsE cE) where
 same:=λe ⟨a,m,b,c⟩=>#[a,m,e.at b,c]
 shown:=λ⟨a,m,b,c⟩=>#[cE,2,a,_,b,JM _ _,Gk _ _,JP _ _]
theorem C4(cL:Addr):df (hsL cL) where
 same:=λe ⟨ms,a,b⟩=>#[ms,a.same e,b]
 shown:=λ⟨ms,⟨c,t,a,_⟩,b⟩=>#[cL,2,c,_,a,Jk _ _,F0 _ _,Jm _ _]
theorem yO(cN:Addr):df (NF cN) where
 same:=λe ⟨p,ts,a,b⟩=>#[p,ts,a.same e,b]
 shown:=λ⟨p,ts,⟨c,t,xs,a,_⟩,b⟩=>#[cN,2,c,_,a,IX _ _ _,FN _ _ _,IY _ _ _]
theorem C0(cT:Addr):df (hsT cT) where
 same:=λe ⟨m,M,a,b⟩=>#[m,M,a.same e,b]
 shown:=λ⟨m,M,⟨c,t,xs,a,_⟩,b⟩=>#[cT,2,c,_,a,GY _ _ _,EW _ _ _,G4 _ _ _]
theorem OV(vs:List V)(H:Hp)(Q:VK)(E:XK)(h:dX (hsE cE) cE vs H Q E):xW cE vs H Q E:=by
 obtain⟨a,n,s,r,rfl,⟨c,m,d,f⟩,_,g,b,k⟩:=h;have j:=mh g b;refine#[a,c,117,d,99,λH' i=> ?_];have:=k H' i;rw[f s b]at this;have e:Ot ((bits (s:Int).toNat).length:Nat) (m:Int)=((min (sz s) m:Nat):Int):=by rw[Pj];show(if(m:Int)<((sz s:Nat):Int)then(m:Int)else((sz s:Nat):Int))=_;split<;>lia
 rw[e];exact this
theorem OU(vs:List V)(H:Hp)(Q:VK)(E:XK)(h:dX (hsL cL) cL vs H Q E):xV cL vs H Q E:=by obtain⟨a,n,s,r,rfl,⟨ms,c,d,e,f⟩,_,g,b,k⟩:=h;have j:=mh g b;refine#[a,11,ms,2,c,d,e,99,λH' i=> ?_];have:=k H' i;rw[f s b]at this;rw[Pj];exact this
theorem OT(vs:List V)(H:Hp)(Q:VK)(E:XK)(h:dX (NF cN) cN vs H Q E):xU cN vs H Q E:=by obtain⟨a,n,s,r,rfl,⟨p,ts,c,d,e,f,g⟩,_,j,b,k⟩:=h;refine#[a,_,p,s,ts,2,c,d,e,9,by rw[f];exact b,λH' i=> ?_];have:=k H' i;rwa[g s b]at this
theorem OS(vs:List V)(H:Hp)(Q:VK)(E:XK)(h:dX (hsT cT) cT vs H Q E):tN cT vs H Q E:=by obtain⟨a,n,s,r,rfl,⟨m,M,d,f,g,b,i⟩,_,j,c,k⟩:=h;refine#[a,n,s,m,M,2,d,j,f,g,b,c,λl H' o p q=> ?_];have e:bE m (M.map cu) s=l:=KR b p q;rw[<-e,<-i s c];exact k H' o
def hs4(cE cL cN cT:Addr):Hs:=hsU (hsU (hsE cE) (hsL cL)) (hsU (NF cN) (hsT cT))
theorem oP(cE cL cN cT:Addr):df (hs4 cE cL cN cT):=oO (oO (C5 cE) (C4 cL)) (oO (yO cN) (C0 cT))
def hs5(cE cL cN cT cM:Addr):Hs:=hsU (hs4 cE cL cN cT) (qi (hs4 cE cL cN cT) cM)
def hs6(cE cL cN cT cM cO cS:Addr):Hs:=hsU (hsO (hs5 cE cL cN cT cM) cO) (LJ (hs5 cE cL cN cT cM) cS)
theorem qU(cE cL cN cT cM:Addr):df (hs5 cE cL cN cT cM):=oO (oP _ _ _ _) (yP (oP _ _ _ _) _)
theorem JC(cE cL cN cT cM cO cS:Addr):df (hs6 cE cL cN cT cM cO cS):=oO (C3 (qU _ _ _ _ _) _) (El (qU _ _ _ _ _) _)
theorem AF{r:List Int}(h:aQ H xs M)(d:M≠[]):xs≠r.map V.int:=λe=>by
 cases M with
 |nil=>exact d rfl
 |cons t ts=>
  obtain⟨a,b,_⟩:=h.2 0 t rfl;rw[e,PB]at b;cases c:r[0]? with
  |none=>rw[c]at b;cases b
  |some z=>rw[c]at b;cases b
theorem HJ(h:aQ H xs M)(d:H q=some (.lst xs)){i:Nat}{r:List Int}(c:M[i]?=some r)(b:H a=some (.lst (r.map V.int))):a≠q:=λe=>by subst e;rw[d]at b;exact AF h (λz=>by rw[z]at c;simp at c) (HO.lst.inj (Qq b))
theorem aQ.push{r:List Int}(h:aQ H xs M)(m:H q=some (.lst xs))(j:H p=some (.lst (r.map V.int)))(l:p≠q):aQ (upd H q (.lst (xs++[.ref p]))) (xs++[.ref p]) (M++[r]):=by
 refine#[by rw[PK,PK,h.1];rfl,λi t b=> ?_];by_cases f:i<M.length
 .rw[P1 f]at b;obtain⟨a,g,d⟩:=h.2 i t b;exact#[a,by rw[P1 (by rw[h.1];exact f)];exact g,by rw[aA (HJ h m b d)];exact d]
 .rw[P2 ()]at b;have c:i-M.length=0:=by
   cases e:i-M.length with
   |zero=>rfl
   |succ k=>rw[e]at b;simp at b
  rw[c]at b;cases b;exact#[p,by rw[P2 (by rw[h.1];lia),h.1,c];rfl,by rw[aA l];exact j]
inductive xj(Z:Hs)(vs:List V)(H:Hp)(Q:VK):Prop
 |mk(h:Addr) (n:Nat) (r:Nat->Nat) (_:vs=[.ref h]) (_:Z.ho H h n r) (_:n<=8) (_:∀p H',Same H H'->H p=none->H' p=some (.lst ((jw n r).map V.int))->Q (.ref p) H'):xj Z vs H Q
def tM(Z:Hs):Sp:=λvs H Q _=>xj Z vs H Q
theorem two_pow_pos(n:Nat):0<2^n:=Q9 ()
theorem Dt{l:List Int}{i:Int}(h:0<=i+l.length)(a:i<0):atI (l.map V.int) i=some (.int (l.getD (i+l.length).toNat 0)):=by
 unfold atI ixN;rw[My,Pb (),Pd ()];show(l.map V.int)[(i+(l.length:Int)).toNat]?=_;have hl:(i+(l.length:Int)).toNat<l.length:=()
 rw[PB];simp[hl]
def mw(n:Nat)(r:Nat->Nat):List Int:=(List.range (2^n)).map λs=>((r s:Nat):Int)
def Bf(n:Nat)(r:Nat->Nat):V:=if(kinds n r).getD 0 false=true then .str aX else if(kinds n r).getD 1 false=true then .str ba else if(kinds n r).getD 2 false=true then .str aU else if(kinds n r).getD 3 false=true then .str d6 else if(kinds n r).getD 4 false=true then .str bb else .non
theorem LC(h:Dv n r):eQ n r=Bf n r:=by unfold eQ Bf;rw[Jy h];rfl
inductive xi(K:Frag)(vs:List V)(H:Hp)(Q:VK):Prop
 |mk(a:Addr) (told:List Nat) (_:vs=[.ref a]) (_:SqL K H a ((cB told).map V.int)) (_:∀H',Same H H'->Q (.bl (ft told)) H'):xi K vs H Q
def Aj(K:Frag):Sp:=λvs H Q _=>xi K vs H Q
inductive BV(K:Frag)(vs:List V)(H:Hp)(Q:VK):Prop
 |mk(a:Addr) (n:Nat) (r:Nat->Nat) (_:vs=[.ref a]) (_:SqL K H a ((mw n r).map V.int)) (_:n<=8) (_:∀H',Same H H'->Q (Bf n r) H'):BV K vs H Q
def DM(K:Frag):Sp:=λvs H Q _=>BV K vs H Q
inductive Kk(K:Frag)(vs:List V)(H:Hp)(Q:VK):Prop
 |mk(a:Addr) (cs:List Int) (n r:Nat) (_:vs=[.ref a, .int (n:Int), .int (r:Int)]) (_:SqL K H a (cs.map V.int)) (_:0<cs.length) (_:cs.length<=64) (_:n<=8) (_:r<=n) (_:∀p H' ps,Same H H'->H p=none->H' p=some (.lst ((gI n r ps).map V.int))->(ps=[]\/(0<r/\r<n/\Far r ps))->Q (.ref p) H'):Kk K vs H Q
def Mf(K:Frag):Sp:=λvs H Q _=>Kk K vs H Q
theorem LW{xs:List V}(h:xs[xs.length-1]?=some y):atI xs (-1)=some y:=by
 have hl:0<xs.length:=by
  cases xs with
  |nil=>simp at h
  |cons _ _=>simp
 unfold atI;have e:ixN xs.length (-1)=some (xs.length-1):=by unfold ixN;rw[Pb (),Pd ()];congr 1;lia
 rw[e];exact h
theorem LH(l:List Nat)(y:Nat):inV (.int (y:Int)) ((cB l).map V.int)=decide (y∈l):=by
 rw[Bg];refine Q1.mpr #[λh=> ?_,λh=>Pl.mpr #[y,h,2]];obtain⟨s,a,e⟩:=eZ h;have:y=s:=()
 rw[this];exact a
theorem lint(x y:Int):decide (V.int x=V.int y)=decide (x=y):=Q1.mpr #[λz=>V.int.inj z,λz=>by rw[z]]
def av(m s:Nat):List Nat:=(List.range m).filter s.testBit
theorem fG(m s:Nat):av (m+1) s=av m s++if s.testBit m=true then [m]else []:=by
 unfold av;rw[RQ,RY];refine Qd _ ?_;by_cases h:s.testBit m=true
 .rw[Pd h];simp[h]
 .rw[Pb h];simp[h]
theorem Df(a:s<2^n):∀m,n<=m->av m s=av n s:=by
 intro m h
 induction m with
 |zero=>rw[show n=0 by lia]
 |succ m b=>
  by_cases e:n=m+1
  .rw[e]
  .rw[fG,b (),Pb,Q0];rw[Qk (Pg a (PJ ∅ ()))];exact PQ
theorem Gr(a:n<=8)(b:s<2^n):(bits s).length=(av n s).length:=by
 have:(bits s).length=(av 8 s).length:=by unfold bits av;rw[My]
 rw[this,Df b 8 a]
theorem za(m s:Nat):(av m s).length<=m:=by have:=QU s.testBit (List.range m);rwa[Pw]at this
theorem xJ(s m k:Nat):(s^^^2^m).testBit k=(s.testBit k^^decide (m=k)):=by rw[Qx,Py]
theorem uX{m s:Nat}(a:s.testBit m=true):∀k,∃rest,av (m+1+k) s=av m s++m::rest/\av (m+1+k) (s^^^2^m)=av m s++rest
 |0=>by
  have e:∀j,j<=m->av j (s^^^2^m)=av j s:=λj f=>by unfold av;refine QC λk d=> ?_;have:=Pf.mp d;rw[xJ,Pc (),SR]
  refine#[[],by show av (m+1) s=_;rw[fG,Pd a],6];show av (m+1) _=_;rw[fG,e m (Pu _),Pb];rw[xJ,a,Pe rfl];exact PQ
 |k+1=>by
  obtain⟨rest,b,c⟩:=uX a k;refine#[rest++if s.testBit (m+1+k)=true then [m+1+k]else [],66]
  .show av (m+1+k+1) s=_;rw[fG,b,Q2];rfl
  .show av (m+1+k+1) _=_;rw[fG,c,Q2,xJ,Pc (),SR]
def dpD(M:List (List Int))(n s:Nat):Int:=aK ((M.take (av n s).length).map cu) (av n s)
def dpG(M:List (List Int))(n s:Nat)(j:Nat):Int:=sgn ((av n s).length-1-j)*(cu (M.getD ((av n s).length-1) []) ((av n s).getD j 0)*aK ((M.take ((av n s).length-1)).map cu) ((av n s).eraseIdx j))
theorem NJ{M:List (List Int)}(d:M.length=n)(c:0<(av n s).length):dpD M n s=bh (av n s).length (dpG M n s):=by
 have hl:=za n s;unfold dpD;generalize b:av n s=cols at*;obtain⟨N,a⟩:∃N,cols.length=N+1:=#[cols.length-1,9];have e:M.take cols.length=M.take (cols.length-1)++[M.getD (cols.length-1) []]:=by
  rw[a,SQ,QF];have:N<M.length:=()
  simp[this]
 rw[e,Qs,Qb,Su,Bt _ cols _ (by rw[My,P6];lia)];refine bc λj _=> ?_;unfold dpG;rw[b]
theorem LR{M:List (List Int)}{n s m:Nat}(h:m<n)(c:s.testBit m=true):av (m+1) s=av m s++[m]/\(av m s).length<(av n s).length/\(av n s).getD (av m s).length 0=m/\dpG M n s (av m s).length=sgn ((av n s).length- ((av m s).length+1))*cu (M.getD ((av n s).length-1) []) m*dpD M n (s^^^2^m):=by
 obtain⟨rest,a,b⟩:=uX c (n- (m+1));rw[show m+1+(n- (m+1))=n by lia]at a b;have f:(av n s).length=(av m s).length+1+rest.length:=by rw[a,PK,PM];lia
 have g:(av n s).getD (av m s).length 0=m:=by have:=fF (A:=av m s) (B:=m::rest) (d:=0) 0;rw[Ud]at this;rw[a,this];rfl
 have e:(av n s).eraseIdx (av m s).length=av n (s^^^2^m):=by have:=jj (A:=av m s) (B:=m::rest) 0;rw[Ud]at this;rw[a,this,b];rfl
 refine#[by rw[fG,Pd c],9,g,6];unfold dpG dpD;have l2:(av n (s^^^2^m)).length=(av n s).length-1:=by rw[b,f,PK];lia
 rw[g,e,l2,show(av n s).length-1- (av m s).length=(av n s).length- ((av m s).length+1) by lia,Qf]
theorem zY:∀ {n:Nat},(∀i,i<n->(f i).natAbs<=C)->(bh n f).natAbs<=n*C
 |0,_=>by simp[bh]
 |n+1,h=>by have a:=zY (n:=n) λi c=>h i ();have b:=h n ();rw[bh,Nat.succ_mul];lia
theorem yc(i:Nat):(sgn i).natAbs=1:=by unfold sgn;split<;>rfl
theorem Er:∀(cols:List Nat)(R:List Row),R.length<=8->(∀r∈R,∀j,(r j).natAbs<=2^B)->(aK R cols).natAbs<=2^((B+3)*cols.length)
 | [],R,_,_=>by simp[aK]
 |c::cs,R,hl,h=>by
  have a:∀i,i<R.length->(sgn i*(R.getD i rw0 c*aK (R.eraseIdx i) cs)).natAbs<=2^B*2^((B+3)*cs.length):=λi a=>by
   have b:R.getD i rw0=R[i]:=by simp[a]
   have d:=h R[i] (QP a) c;have f:=Er cs (R.eraseIdx i) (by rw[Ql a];lia) λr g=>h r (List.mem_of_mem_eraseIdx g);rw[TJ,yc,Nat.one_mul,TJ,b];exact Nat.mul_le_mul d f
  have:=zY a;refine Pr (show(aK R (c::cs)).natAbs<=_ from this) ?_;have e:2^((B+3)*(c::cs).length)=8*(2^B*2^((B+3)*cs.length)):=by rw[PM,Nat.mul_succ,Up,Up,Nat.mul_comm,show(2:Nat)^3=8 from rfl];simp only[Uu,Nat.mul_left_comm,Nat.mul_comm]
  rw[e];exact Nat.mul_le_mul_right _ hl
theorem NL{M:List (List Int)}(c:M.length=n)(d:n<=8)(a:∀r∈M,kx n 200 r)(s:Nat):(dpD M n s).natAbs<2^1700:=by
 unfold dpD;have h:=Er (B:=200) (av n s) ((M.take (av n s).length).map cu) (by rw[My,P6];lia) λr b j=>by obtain⟨l,hl,rfl⟩:=Pl.mp b;exact Tj ((a l (R6 hl)).at j)
 have:=za n s;exact Px h (RR ∅ ())
inductive EH(K:Frag)(vs:List V)(H:Hp)(Q:VK):Prop
 |mk(a:Addr) (xs:List V) (M:List (List Int)) (n:Nat) (_:vs=[.ref a]) (_:SqL K H a xs) (_:aQ H xs M) (_:M.length=n) (_:n<=8) (_:(∀r∈M,kx n 200 r)) (_:∀H',Same H H'->Q (.int (aK (M.map cu) (List.range n))) H'):EH K vs H Q
def Ht(K:Frag):Sp:=λvs H Q _=>EH K vs H Q
theorem NK{M:List (List Int)}(b:M.length=n):dpD M n (2^n-1)=aK (M.map cu) (List.range n):=by
 have e:av n (2^n-1)=List.range n:=by unfold av;refine QW.mpr λk a=> ?_;rw[PY];exact Pe (Pf.mp a)
 unfold dpD;rw[e,Pw,RI ()]
theorem Hx{n j:Nat}:decide (V.int (Builtin.bitAnd ((n:Int) /2^((j:Nat):Int).toNat) 1)=V.int 1)=n.testBit j:=by have:=ya (n:=n) (j:=j);rwa[QO]at this
theorem GN{s j:Nat}(b:s<256)(a:j<8):Builtin.bitXor (s:Int) (1*2^((j:Nat):Int).toNat)=((s^^^2^j:Nat):Int):=by obtain⟨x1,x2⟩:=AQ s b j a;unfold Builtin.bitXor;rw[dO,qt (QT _) (QT _),iI (QT _) (QT _),Pj,Pj];lia
theorem J1(c:s<2^n)(e:0<s):0<(av n s).length:=by
 refine SJ λz=> ?_;have d:av n s=[]:=SV.mp z;have:s=0:=PC λk=>by
  rw[P4];cases a:s.testBit k with
  |false=>rfl
  |true=>
   have b:k<n:=by refine RM λb=> ?_;rw[Qk (Pg c (PJ ∅ b))]at a;cases a
   have:k∈av n s:=PV.mpr #[Pf.mpr b,a];rw[d]at this;cases this
 lia
section
variable(P:Program)(w:World){K:Frag}{mg:Str->Option Value}(base:Heap)
theorem HB:aE U6 U6 (aq pG):=aS
theorem IK(D:bo K mg "holds" pG U6):Cal P w K mg base 1 "holds" U6 xY:=by refine D.cal HB λf cdv A outer d H vs Q E c h=> ?_;obtain⟨s,t,rfl,a,b,k⟩:=h;refine#[_,(aj (aC (wpe a7 (aB bI (aB mD (pv 0) (pv 1)) ae) ae))),6];refine#[778,b,8,(by show(0:Int)<2;decide),26];show Q (.bl (decide (V.int (s/2^t.toNat % 2)=V.int 1))) H;rw[JD a];exact k
theorem Fb:aE UZ UZ (aq l9):=aS
theorem FF(T:Tb K mg)(D:bo K mg VD l9 UZ)(d:Cal P w K mg base 1 "holds" U6 xY):Cal P w K mg base 2 VD UZ gK:=by
 refine D.cal Fb λf cdv A outer u H vs Q E p h=> ?_;obtain⟨s,rfl,b,g,k⟩:=h;refine#[_,(aj (aC (wlc [VF] UZ [0] (wrng T.range_ (Lg (K:=K) ⋯ PySem.F.plainAttrs_int PySem.F.slot_int_bit_length PySem.F.type_int_bit_length Lu (pv 0))) (wnC 0) (ee (di (wcal d p (aa (pv 1) (aa (pv 0) af))))) (pv 0)))),6];have a:Builtin.Int.intBits s<=8:=by
  obtain⟨n,rfl⟩:=Rb b;unfold Builtin.Int.intBits;split
  .lia
  .rename_i m;have o:n≠0:=by intro e;subst e;exact m rfl
   have:n.log2<8:=(Nat.log2_lt o).mpr ();show(n:Int).natAbs.log2+1<=8;rw[Int.natAbs_natCast];lia
 refine#[72727996];refine gC (λi=>s.toNat.testBit i) (λi=> .int (0+(i:Nat))) (by rw[Pj];exact Pr a ∅) (λi vs H' R S t r c l=> ?_) λD H' j c hl=> ?_
 .obtain⟨v,rfl⟩:=bG r;refine#[77,s,7,b,976];have e:(0+(i:Int)).toNat=i:=()
  have q:=l [some (.int (0+(i:Nat)))] H' rfl (Same.refl _);rw[e];cases a:s.toNat.testBit i with
  |true=>
   rw[a,Pd rfl]at q;exact lF #[7,q]
  |false=>
   rw[a,Pb PQ]at q;exact dq q
 .rw[ER b g]at hl;exact k D H' c j hl
theorem KL:aE UZ UZ (aq tX):=aS
theorem Lm(T:Tb K mg)(D:bo K mg V5 tX UZ)(a:Cal P w K mg base 2 VD UZ gK):Cal P w K mg base 3 V5 UZ kU:=by refine D.cal KL λf cdv A outer i H vs Q E d h=> ?_;obtain⟨s,rfl,b,c,k⟩:=h;refine#[_,(aj (aC (wlen K T.len_ (wcal a d (aa (pv 0) af))))),6];refine#[7,s,2,b,c,λp H' e g hl=>#[p,7, .inl (SqL.of hl),6]];have q:=k H' e;rwa[<-My (f:=V.int)]at q
theorem nA:aE [We,"s",VF] [We] (aq mf):=aS
theorem FI(D:bo K mg "set_of" mf [We]):Cal P w K mg base 1 "set_of" [We] (xR K):=by
 refine D.cal nA λf cdv A outer r H vs Q E o h=> ?_;obtain⟨a,ns,rfl,d,m,k⟩:=h;refine#[_,(ab (wset 1 nA.nd ae)
   (ab (wfor (wil K (pv 0)) (wname 2 nA.nd)
     (aj (wset 1 nA.nd (aB pW (pv 1) (aB gu ae (pv 2))))))
   (aj (aC (pv 1))))),6]
 refine#[7,a,2,#[_,d],cY (K:=K) (a:=a) (xs:=ns.map V.int) (λi c b=>b=H/\∃v,c=[xS a,some (.int (((ns.take i).foldl (λ(s:Nat) (t:Int)=>s|||2^t.toNat) 0:Nat):Int)),v])
  #[2,none,2] (λi c b _ q=>by rw[q.1];exact d) ?_ ?_]
 .rintro i y c b l ⟨rfl,v,rfl⟩;obtain⟨z,rfl,g⟩:=bK l;obtain⟨n,p⟩:=m z (Pq g);refine#[778,#[n,94],86];refine#[2,some (.int z),6];have e:Builtin.bitOr ((((ns.take i).foldl (λ(s:Nat) (t:Int)=>s|||2^t.toNat) 0:Nat):Int)) (1*2^z.toNat)=((((ns.take (i+1)).foldl (λ(s:Nat) (t:Int)=>s|||2^t.toNat) 0:Nat):Int)):=by
   rw[qt () (by rw[QJ];exact ou _),QF,g];have j:((2:Int)^z.toNat)=((2^z.toNat:Nat):Int):=#[5]
   rw[QJ,j,Pj,Pj];simp only[Option.toList_some,RA,Rm,List.foldl_nil]
  rw[<-e];rfl
 .rintro c b ⟨rfl,v,rfl⟩;refine#[76];rw[My,QG];exact k
theorem E9:aE UW UW (aq l7):=aS
theorem FE(D:bo K mg "within" l7 UW):Cal P w K mg base 1 "within" UW Af:=by
 refine D.cal E9 λf cdv A outer d H vs Q E c h=> ?_;obtain⟨s,t,rfl,a,b,k⟩:=h;refine#[_,(aj (aC (wpe a7 (aB gv (pv 0) (pv 1)) (pv 0)))),6];refine#[778726];show Q (.bl (decide (V.int (Builtin.bitAnd s t)=V.int s))) H;have e:decide (V.int (Builtin.bitAnd s t)=V.int s)=decide (s.toNat&&&t.toNat=s.toNat):=by
  rw[iI a b];by_cases h:s.toNat&&&t.toNat=s.toNat
  .rw[Pe h,Pe];rw[h];congr 1;lia
  .rw[Pc h,Pc];intro q;have:=V.int.inj q;lia
 rw[e];exact k
theorem pj:aE ["s","found",VF] UZ (aq pF):=aS
theorem IJ(T:Tb K mg)(D:bo K mg "parts" pF UZ)(N:Cal P w K mg base 2 VD UZ gK):Cal P w K mg base 3 "parts" UZ sy:=by
 refine D.cal pj λf cdv A outer b0 H vs Q E hr h=> ?_;obtain⟨s,rfl,h0,h1,k⟩:=h;refine#[_,(ab (wset 1 pj.nd (cw (aa ae af)))
   (ab (wfor (wil K (wcal N hr (aa (pv 0) af))) (wname 2 pj.nd)
     (aj (wset 1 pj.nd (aB um (pv 1) (wlc ["part"] [VF] [2] (wil K (pv 1)) (wnC 0) bW (aB pW (pv 0) (aB gu ae (pv 1))))))))
   (aj (aC (pv 1))))),6]
 refine#[by show 1<=sizeLine;decide,λq0 L=> ?_];refine#[7,s,2,h0,h1,λp H1 M bX B=>#[p,2,#[_,SqL.of B],6]];generalize hn:s.toNat=n at*;refine cY (K:=K) (a:=p) (xs:=(bits n).map V.int) (λi g b=>∃(q:Addr)(v:Option V),Same H b/\b p=some (.lst ((bits n).map V.int))/\H q=none/\b q=some (.lst ((((bits n).take i).foldl jT [0]).map V.int))/\g=[yT s,xS q,v])
  #[q0,none,(Same.new L).trans M,B,L,M.at ah,2] (λi g b _ ⟨_,_,_,hp,_⟩=>SqL.of hp) ?_ ?_
 .rintro i y g b hi ⟨q,v,r,G,J,c,rfl⟩;obtain⟨z,rfl,o⟩:=bK hi;have zr:=k6 (Pq o);have bN:i<(bits n).length:=(Pn.mp o).1;have bM:=aW n;have az:(((bits n).take i).foldl jT [0]).length<=128:=by rw[qW,P6];have h2:2^min i (bits n).length<=2^7:=PJ () ();simp;lia
  have aD:∀x∈((bits n).take i).foldl jT [0],0<=x:=Bm _ _ #[5];have U:((bits n).take (i+1)).foldl jT [0]=jT (((bits n).take i).foldl jT [0]) z:=by rw[QF,o,RA];rfl
  rw[U];generalize ((bits n).take i).foldl jT [0]=j at*;refine#[77,q,2,#[_,SqL.of c],6];refine cf (λx=>(λ_=>true) (bJ x)) (λx=> .int ((λt:Int=>((t.toNat|||2^z.toNat:Nat):Int)) (bJ x))) (SqL.of c) (by rw[My];exact Pr az ∅) (λi x vs H' R S hx hv d hk=> ?_) λD H' hD d hl=> ?_
  .obtain⟨v,rfl⟩:=bG hv;obtain⟨t,rfl,ht⟩:=bK hx;have t0:=aD t (Pq ht);have q:=hk [some (.int t)] H' rfl (Same.refl _);rw[Pd rfl]at q;simp only[bC,jg,Pd];refine#[778,#[zr.1,94],86];have e:Builtin.bitOr t (1*2^z.toNat)=((t.toNat|||2^z.toNat:Nat):Int):=by
    have O:((2:Int)^z.toNat)=((2^z.toNat:Nat):Int):=#[5]
    rw[qt t0 (by rw[QJ];exact ou _),QJ,O,Pj]
   show R (.int (Builtin.bitOr t (1*2^z.toNat))) _ H';rw[e];exact q
  replace hl:=hl.trans (Qd (λl=>some (HO.lst l)) (bO (λ_=>true) (λt:Int=>((t.toNat|||2^z.toNat:Nat):Int)) j));rw[QW.mpr (λ_ _=>rfl)]at hl;refine#[q,D,8,d.at c,hl,6,λq3 m=> ?_]
  .rw[My,My,My];exact Pr (show j.length+j.length<=256 by lia) ∅
  have u:Same H H':=r.trans d;refine#[q3,some (.int z),u.upd (u.free m),6,u.free m,62]
  .have:=d.at G;rw[aA (au this m)];exact this
  .rw[ah];unfold Bh.jT;rw[Qs]
 .rintro g b ⟨q,v,r,G,J,c,rfl⟩;rw[My,QG]at c;exact#[7,k q b r J c]
theorem Fc:aE Vh Vh (aq ma):=aS
theorem FG(T:Tb K mg)(D:bo K mg "spread" ma Vh)(e:Cal P w K mg base 1 "set_of" [We] (xR K))(g:Cal P w K mg base 2 VD UZ gK)(j:Cal P w K mg base 1 "holds" U6 xY):
  Cal P w K mg base 3 "spread" Vh Ah:=by
 refine D.cal Fc λf cdv A outer ax H vs Q E a h=> ?_;obtain⟨s,t,rfl,u,y,B,k⟩:=h;refine#[_,(aj (aC (wcal e a (aa (wlc ["number",VF] UZ [0] (ue (K:=K) ⋯ ⋯ T.enumerate_ (aa (wcal g a (aa (pv 1) af)) af)) (sI (K:=K) (n:=2) ⋯ ⋯ (jd (wnC 0) (jd (wnC 1) sH))) (ee (di (wcal j a (aa (pv 2) (aa (pv 0) af))))) (pv 1)) af)))),6];refine#[7,t,2,y,B,λp J v M c=>#[p,2,#[_,c],6]];refine Js (λi _=>s.toNat.testBit i) (λ_ x=>x) (SqL.of c) (by rw[My];exact Pr (aW _) ∅) (λi x G vs H' R S r o d m l=> ?_) λD H' L d hl=> ?_
 .obtain⟨O,U,rfl⟩:=GP o;obtain⟨z,rfl,N⟩:=bK r;have q:=l [some (.int (i:Nat)),some (.int z)] H' rfl (Same.refl _);refine#[G,7,SqT.of m,217877,s,7,u,976];rw[Pj];cases b:s.toNat.testBit i with
  |true=>
   rw[b,Pd rfl]at q;exact lF #[7,q]
  |false=>
   rw[b,Pb PQ]at q;exact dq q
 .rw[rE (λi _=>s.toNat.testBit i)]at hl;exact#[D,7,SqL.of hl,jV,k H' (v.trans d)]
theorem KN:aE UW UW (aq tY):=aS
theorem Ln(D:bo K mg "less" tY UW):Cal P w K mg base 1 "less" UW qH:=by
 refine D.cal KN λf cdv A outer d H vs Q E c h=> ?_;obtain⟨s,t,rfl,k⟩:=h;refine#[_,(aj (aC (aB ID (pv 0) (aB gv (pv 0) (pv 1))))),6];refine#[777886];show Q (.int (Builtin.bitXor (s:Int) (Builtin.bitAnd (s:Int) (t:Int)))) H;have e:Builtin.bitXor (s:Int) (Builtin.bitAnd (s:Int) (t:Int))=((aw s t:Nat):Int):=by
  unfold Builtin.bitXor;rw[iJ,gF,iJ];have h:=Lx s t;have l:=iQ s t;have a:s||| (s&&&t)=s:=PC λj=>by rw[PN,QE];cases s.testBit j<;>simp
  have b:s&&& (s&&&t)=s&&&t:=PC λj=>by rw[QE,QE];cases s.testBit j<;>simp
  have l2:s&&&t<=s:=Tu;rw[a,b]at h⊢;lia
 rw[e];exact k
theorem yf:aE U1 U1 (aq i7):=aS
theorem yD(D:bo K mg "exchanged" i7 U1)(a:Cal P w K mg base 1 "less" UW qH):Cal P w K mg base 2 "exchanged" U1 rq:=by
 refine D.cal yf λf cdv A outer e H vs Q E b h=> ?_;obtain⟨s,t,y,rfl,c,d,k⟩:=h;refine#[_,(aj (aC (aB pW (wcal a b (aa (pv 0) (aa (aB gu ae (pv 1)) af))) (aB gu ae (pv 2))))),6];refine#[778,#[994],s,2^t,66]
 ·(try dsimp only);rw[o9];rfl
 refine#[78,#[994],86];show Q (.int (Builtin.bitOr ((aw s (2^t):Nat):Int) (1*2^((y:Nat):Int).toNat))) H;rw[o9,gF];exact k
theorem Fe:aE ["n"] ["n"] (aq mj):=aS
theorem FJ(D:bo K mg "all_of" mj ["n"]):Cal P w K mg base 1 "all_of" ["n"] DT:=by refine D.cal Fe λf cdv A outer d H vs Q E c h=> ?_;obtain⟨n,rfl,a,b,k⟩:=h;refine#[_,(aj (aC (aB gs (aB gu ae (pv 0)) ae))),6];exact#[78,#[a,94],8,k]
theorem pC:aE UP UP (aq dS):=aS
theorem pZ(D:fK K Vk "House.__init__" dS UP f):gw P w K mg base 1 f UP (iK K):=by refine D.fn pC λcdv A outer g H vs Q E e h=> ?_;obtain⟨p,C,b,n,rfl,c,a,d,k⟩:=h;refine#[_,(aj (wsf K (pv 0) (pv 1))),6];exact#[77,p,C,b,7,c,a,d,(by show 0<1000;decide),k]
theorem nO:aE U0 U0 (aq cX):=aS
theorem nT(D:fK K Vj "House.everything" cX U0 f)(b:Cal P w K mg base 1 "all_of" ["n"] DT):gw P w K mg base 2 f U0 (d8 K):=by refine D.fn nO λcdv A outer m H vs Q E g h=> ?_;obtain⟨a,C,d,fs,n,rfl,e,c,l,lk,i,j,k⟩:=h;refine#[_,(aj (aC (wcal b g (aa (wfld K (pv 0)) af)))),6];exact#[7,a,C,d,fs,7,e,c,l,lk,n,2,i,j,k]
theorem qJ:aE UY UY (aq eJ):=aS
theorem qS(D:fK K Vk "Even.__init__" eJ UY f)(d:mg V4=some (.ref C_House))(a:Cls K C)(i:aR K C Vi)(j:aR K C "most")(c:vW P w K mg base 1 C_House Vk UP (iK K)):gw P w K mg base 2 f UY (xX C):=by
 refine D.fn qJ λcdv A outer m H vs Q E g h=> ?_;obtain⟨p,b,n,l,rfl,e,k⟩:=h;refine#[_,(ab (c8 (jX c g ∅ (c9 (v:= .ref C_House) ⋯ d rfl) (aa (pv 0) (aa (pv 1) af))))
   (aj (wsf K (pv 0) (pv 2)))),6]
 refine#[277,p,C,b,7,e,a,i,6];refine#[77,p,C,b,7,ah,a,j,66]
 .exact Px (aG _ _ _) (by show 0+1<1000;decide)
 rw[fM];exact k
theorem yh:aE nS nS (aq jb):=aS
theorem yI(T:Tb K mg)(D:fK K Vm "Even.rank" jb nS f)(e:Cls K C)(l:aR K C "most")(d:Cal P w K mg base 3 V5 UZ kU):gw P w K mg base 4 f nS (xW C):=by refine D.fn yh λcdv A outer q H vs Q E j h=> ?_;obtain⟨a,g,n,p,s,rfl,i,m,o,k⟩:=h;refine#[_,(aj (aC (eO (GC ⋯) ⋯ T.min_ PyProof.Rows.boot_min (aa (wcal d j (aa (pv 1) af)) (aa (wfld K (pv 0)) af))))),6];refine#[7,s,2,m,o,λc b=> ?_];exact#[7,a,C,g,17,b.at i,e,l,JO _ _,17,k c b]
theorem oE:aE UX UX (aq dC):=aS
theorem oJ(T:Tb K mg)(D:fK K Vk "Listed.__init__" dC UX f)(s:mg V4=some (.ref C_House))(m:Cls K C)(G:aR K C Vi)(J:aR K C V6)(r:vW P w K mg base 1 C_House Vk UP (iK K)):gw P w K mg base 2 f UX (DO K C):=by
 refine D.fn oE λcdv A outer L H vs Q E B h=> ?_;obtain⟨p,c,a,n,ms,rfl,i,u,hl,k⟩:=h;refine#[_,(ab (c8 (jX r B ∅ (c9 (v:= .ref C_House) ⋯ s rfl) (aa (pv 0) (aa (pv 1) af))))
   (aj (wsf K (pv 0) (eY (fJ (K:=K) ⋯) ⋯ T.tuple_ RG (aa (pv 2) af))))),6]
 refine#[277,p,C,c,7,i,m,G,6];have y:upd H p (.ins C c (aY Vi (.int n) [])) p=some (.ins C c (aY Vi (.int n) [])):=ah;have j:∀b o,H b=some o->b≠p->upd H p (.ins C c (aY Vi (.int n) [])) b=some o:=λb o e d=>by rw[aA d];exact e
 have x:SqL K (upd H p (.ins C c (aY Vi (.int n) []))) a (ms.map V.int):=by
  rcases u with (h|⟨o,h⟩)|h
  .exact .inl (.inl (j _ _ h (jK h i (by intro z;cases z))))
  .exact .inl (.inr #[o,j _ _ h (jK h i (by intro z;cases z))])
  .exact .inr h
 refine#[7,a,7, .inl #[x,λt g=> ?_]];have l:t≠p:=λe=>by rw[e,ah]at g;cases g
 have q:H t=none:=by rwa[aA l]at g
 refine#[7,p,C,c,7,(by rw[aA l.symm];exact y),m,J,66]
 .exact Px (aG _ _ _) (by show 0+1<1000;decide)
 refine k t _ q (λb o e d=> ?_) ah ?_
 .rw[aA d,aA (au e q)];exact j b o e d
 .rw[aA l,ah]
theorem tU:aE nS nS (aq gc):=aS
theorem uu(T:Tb K mg)(D:fK K Vm "Listed.rank" gc nS f)(p:Cls K C)(n2:aR K C V6)(o:Cal P w K mg base 3 V5 UZ kU):gw P w K mg base 4 f nS (xV C):=by
 refine D.fn tU λcdv A outer a6 H vs Q E O h=> ?_;obtain⟨a,n,s,ms,rfl,⟨u,t,B,d,hl⟩,N,M,s0,s1,k⟩:=h;refine#[_,(aj (aC (eO (Dl (K:=K) ⋯ ⋯) ⋯ T.max_ PyProof.Rows.boot_max (aa (wlc ["one"] UZ [1] (wit K (wfld K (pv 0))) (wnC 0) bW (wcal o O (aa (aB gv (pv 1) (pv 0)) af))) af)))),6];refine#[7,a,C,u,17,B,p,n2,CV _ _,t,2,#[_,SqT.of d],6];have s2:s.toNat<256:=()
 refine LB (λx=>(λ_=>true) (bJ x)) (λx=> .int ((λm:Int=>((sz (s.toNat&&&m.toNat):Nat):Int)) (bJ x))) d (by rw[My];exact Pr hl ∅) (λi x vs H' R S hx U g G=> ?_) λD H' hD g hl=> ?_
 .obtain⟨v,rfl⟩:=bG U;obtain⟨m,rfl,c⟩:=bK hx;obtain⟨m0,m1⟩:=M m (Pq c);simp only[bC,jg,Pd];have b:Builtin.bitAnd s m=((s.toNat&&&m.toNat:Nat):Int):=iI s0 m0;have la:s.toNat&&&m.toNat<256:=Kd s2;refine#[778,Builtin.bitAnd s m,2,(by rw[b];lia),(by rw[b];lia),λj a0=> ?_];rw[b,Pj];have q:=G [some (.int m)] j rfl a0;rwa[Pd rfl]at q
 replace hl:=hl.trans (Qd (λl=>some (HO.lst l)) (bO (λ_=>true) (λm:Int=>((sz (s.toNat&&&m.toNat):Nat):Int)) ms));rw[QW.mpr (λ_ _=>rfl)]at hl;refine#[D,7,SqL.of hl,6,λz hz L=> ?_]
 .intro e;rw[List.map_eq_nil_iff]at e;exact N e
 have y:z=((kK ms s.toNat:Nat):Int):=by obtain⟨m,c,rfl⟩:=Pl.mp hz;rw[rA (ms:=ms) (s:=s.toNat) (r:=sz (s.toNat&&&m.toNat)) #[m,c,2] λm' J=> ?_];have:=L _ (Pl.mpr #[m',J,2]);lia
 rw[y];exact k H' g
theorem ye:aE ["marks","tie","old","new"] Vf (aq tW):=aS
theorem Lk(D:bo K mg "tied" tW Vf):Cal P w K mg base 1 "tied" Vf (Hm K):=by
 refine D.cal ye λf cdv A outer O H vs Q E N h=> ?_;obtain⟨a,b,ms,t,rfl,c,n,B,G,hl,k⟩:=h;refine#[_,(ab (wset 2 ye.nd (cG K (pv 0) (ky K (pv 1) ae)))
   (ab (wset 3 ye.nd (cG K (pv 0) (ky K (pv 1) ae)))
   (aj (aC (wlc ["mark"] ["new","old"] [3,2] (wil K (pv 0)) (wnC 0) bW (pV (wpt a7 (pv 0) (pv 2)) (pv 1) (pv 0))))))),6]
 have J:atI [V.int (t.1:Int),V.int (t.2:Int)] 0=some (.int t.1):=iw (j:=0) rfl;have L:atI [V.int (t.1:Int),V.int (t.2:Int)] 1=some (.int t.2):=iw (j:=1) rfl;have p:atI (ms.map V.int) (t.1:Int)=some (.int (ms.getD t.1 0)):=cj B;have r:atI (ms.map V.int) (t.2:Int)=some (.int (ms.getD t.2 0)):=cj G;refine#[77,b,3,SqT.of n,J,a,3,c,p,6];refine#[77,b,3,SqT.of n,L,a,3,c,r,6];refine#[7,a,2,#[_,c],6];refine cf (λx=>(λ_=>true) (bJ x)) (λv=> .int ((λm:Int=>if m=ms.getD t.1 0 then ms.getD t.2 0 else m) (bJ v))) c (by rw[My];exact Pr hl ∅) (λi v vs H' R S z y o u=> ?_) λD H' s o d=> ?_
 .obtain⟨v,rfl⟩:=bG y;obtain⟨m,rfl,M⟩:=bK z;have q:=u [some (.int m)] H' rfl (Same.refl _);rw[Pd rfl]at q;simp only[bC,jg,Pd];refine#[77276];rw[JW];refine cC (λg=> ?_) λg=> ?_
  .have e:=PH g;replace q:R (V.int (if m=ms.getD t.1 0 then ms.getD t.2 0 else m)) _ _:=q;rw[Pd e]at q;exact#[7,q]
  .have e:=TM (Rc.mpr g);replace q:R (V.int (if m=ms.getD t.1 0 then ms.getD t.2 0 else m)) _ _:=q;rw[Pb e]at q;exact#[7,q]
 replace d:=d.trans (Qd (λl=>some (HO.lst l)) (bO (λ_=>true) (λm:Int=>if m=ms.getD t.1 0 then ms.getD t.2 0 else m) ms));rw[QW.mpr (λ_ _=>rfl)]at d;exact k D H' o s d
theorem sd:aE UM UM (aq fA):=aS
theorem sj(T:Tb K mg)(D:fK K Vk "Net.__init__" fA UM f)(ai:mg V4=some (.ref C_House))(M:Cls K C)(n1:aR K C Vi)(n2:aR K C Vv)(n3:aR K C "ties")(ag:vW P w K mg base 1 C_House Vk UP (iK K)):gw P w K mg base 2 f UM (DN K C):=by
 refine D.fn sd λcdv A outer ct H vs Q E hr h=> ?_;obtain⟨p,d,a,n,pt,xs,ts,rfl,B,ha,hx,hl,k⟩:=h;refine#[_,(ab (c8 (jX ag hr ∅ (c9 (v:= .ref C_House) ⋯ ai rfl) (aa (pv 0) (aa (pv 1) af))))
   (ab (wsf K (pv 0) (pv 2))
   (aj (wsf K (pv 0) (eY (fJ (K:=K) ⋯) ⋯ T.tuple_ RG (aa (wlc ["tie"] [] [] (wil K (pv 3)) (wnC 0) bW (kg (aa (ky K (pv 0) ae) (aa (ky K (pv 0) ae) af)))) af)))))),6]
 refine#[277,p,C,d,7,B,M,n1,6];have bB:upd H p (.ins C d (aY Vi (.int n) [])) p=some (.ins C d (aY Vi (.int n) [])):=ah;refine#[77,p,C,d,7,bB,M,n2,Px (aG _ _ _) (by show 0+1<1000;decide),6];rw[fM];have bM:upd H p (.ins C d (aY Vv (.int pt) (aY Vi (.int n) []))) p=some (.ins C d (aY Vv (.int pt) (aY Vi (.int n) []))):=ah;have J:∀b o,H b=some o->b≠p->upd H p (.ins C d (aY Vv (.int pt) (aY Vi (.int n) []))) b=some o:=λb o e g=>by rw[aA g];exact e
 have nn:∀b,upd H p (.ins C d (aY Vv (.int pt) (aY Vi (.int n) []))) b=none->b≠p/\H b=none:=λb g=>by
  have bp:b≠p:=λe=>by rw[e,ah]at g;cases g
  rw[aA bp]at g;exact#[bp,g]
 have cb:lG H (upd H p (.ins C d (aY Vv (.int pt) (aY Vi (.int n) [])))):=λb m e=>J b _ e (jK e B (by intro z;cases z));have a0:SqL K (upd H p (.ins C d (aY Vv (.int pt) (aY Vi (.int n) [])))) a xs:=by
  rcases ha with (h|⟨o,h⟩)|h
  .exact .inl (.inl (J _ _ h (jK h B (by intro z;cases z))))
  .exact .inl (.inr #[o,J _ _ h (jK h B (by intro z;cases z))])
  .exact .inr h
 have ax:=hx.ts cb;generalize upd H p (.ins C d (aY Vv (.int pt) (aY Vi (.int n) [])))=H1 at*;refine#[7,a,2,#[_,a0],6];refine Jr (λx y G=>∃(b c:Addr)(t:Nat×Nat),x= .ref b/\y= .ref c/\G b=some (.tup [.int t.1, .int t.2])/\G c=some (.tup [.int t.1, .int t.2])) (λx y G G' e h=>by obtain⟨b,c,t,r,N,u,O⟩:=h;exact#[b,c,t,r,N,e _ _ u,e _ _ O]) a0 (Pr hl ∅) (λi v vs H' R S b0 hv s hk=> ?_) λD L m hD s br a4 hR=> ?_
 .obtain⟨v,rfl⟩:=bG hv;obtain⟨b,t,l,rfl,g⟩:=ax.at b0;have U:=s.at g;have t0:atI [V.int (t.1:Int),V.int (t.2:Int)] 0=some (.int t.1):=iw (j:=0) rfl;have t1:atI [V.int (t.1:Int),V.int (t.2:Int)] 1=some (.int t.2):=iw (j:=1) rfl;simp only[bC,jg,Pd];refine#[7,b,3,SqT.of U,t0,7,b,3,SqT.of U,t1,by show 2<=sizeLine;decide,λq hq=> ?_];exact hk _ [some (.ref b)] _ #[b,q,t,22,(Same.new hq).at U,ah] rfl (Same.new hq)
 have b2:dF L m ts:=by
  refine#[by rw[a4];exact ax.1,λi t l=> ?_];obtain⟨b,u,O⟩:=ax.2 i t l;have hi:i<m.length:=by rw[a4];exact(Pn.mp u).1
  obtain⟨b',c,t',r,N,g1,g2⟩:=hR i _ _ u (PF hi);cases r;have g3:=s.at O;rw[g1]at g3;refine#[c,by rw[PF hi,N],6];rw[g2];exact g3
 refine#[D,m,2, .inl #[SqL.of br,λt l=> ?_]];have ar:=s.at bM;have tp:t≠p:=λe=>by rw[e,ar]at l;cases l
 have b9:H1 t=none:=by
  cases e:H1 t with
  |none=>rfl
  |some o=>rw[s.at e]at l;cases l
 refine#[7,p,C,d,7,(by rw[aA tp.symm];exact ar),M,n3,66]
 .exact Px (aG _ _ _) (Px (Qg (aG _ _ _)) (by show 0+1+1<1000;decide))
 have bN:upd L t (.tup m) p=some (.ins C d (aY Vv (.int pt) (aY Vi (.int n) []))):=by rw[aA tp.symm];exact ar
 refine k t m _ (nn t b9).2 (λb o e g=> ?_) ah ?_ ?_
 .have r:=s.at (J b o e g);rw[aA g,aA (au r l)];exact r
 .rw[aA tp,ah]
 .refine(b2.ts (H':=upd L t (.tup m)) (lG.new l)).ts λb zs e=> ?_;rw[aA (jK e bN (by intro z;cases z))];exact e
theorem iN:aE ["self","s","marks",VF] nS (aq h9):=aS
theorem vO(T:Tb K mg)(D:fK K "pieces" "Net.pieces" h9 nS f)(G:Cls K C)(n2:aR K C Vv)(n3:aR K C "ties")(ag:Cal P w K mg base 2 VD UZ gK)(ai:Cal P w K mg base 1 "tied" Vf (Hm K)):
  gw P w K mg base 3 f nS (Me C):=by
 refine D.fn iN λcdv A outer b8 H vs Q E U h=> ?_;obtain⟨a,n,p,s,ts,rfl,hN,bB,O,h8,hs,k⟩:=h;refine#[_,(ab (wset 2 iN.nd (eY (Dm ⋯) ⋯ T.list_ RJ (aa (Ir ⋯ T.range_ (aa (wfld K (pv 0)) af)) af)))
   (ab (wfor (wil K (wcal ag U (aa (pv 1) af))) (wname 3 iN.nd)
     (aj (wset 2 iN.nd (wcal ai U (aa (pv 2) (aa (ky K (wfld K (pv 0)) (pv 3)) af))))))
   (aj (aC (eO Dp ⋯ T.len_ PySem.boot_len (aa (eY (Dk (K:=K) ⋯ ⋯) ⋯ T.set_ PyProof.Rows.boot_set (aa (pv 2) af)) af)))))),6]
 obtain⟨J,t,xs,L,ht,hx⟩:=id hN;refine#[7,a,C,J,17,L,G,n2,uv _ _ _,7,λr bM=>#[r,p,2,ah,O,λm hm=> ?_]];have ay:Same H (upd (upd H r (.rng 0 p)) m (.lst ((Bh.start p).map V.int))):=(Same.new bM).trans (Same.new hm);have bA:upd (upd H r (.rng 0 p)) m (.lst ((Bh.start p).map V.int)) m=some (.lst ((Bh.start p).map V.int)):=ah;have b7:s<256:=Pg hs (PJ (n:=2) () h8);show bC _ _ _ (upd (upd H r (.rng 0 p)) m (.lst ((Bh.start p).map V.int))) _;generalize upd (upd H r (.rng 0 p)) m (.lst ((Bh.start p).map V.int))=H1 at*;refine#[7,(s:Int),299,λq H2 x hq hl=> ?_];rw[Pj]at hl;refine#[q,2,#[_,SqL.of hl],6];refine cY (K:=K) (a:=q) (xs:=(bits s).map V.int) (λi g H'=>Same H2 H'/\∃m v,H' m=some (.lst ((A4 p ts ((bits s).take i)).map V.int))/\g=[xS a,yS s,xS m,v]) #[Same.refl _,m,none,x.at bA,2] (λi g H' _ z=>SqL.of (z.1.at hl)) ?_ ?_
 .rintro i y g H' hi ⟨e,o,v,d,rfl⟩;obtain⟨z,rfl,hz⟩:=bK hi;obtain⟨z0,z1⟩:=k7 hs (Pq hz);obtain⟨j,rfl⟩:=Rb z0;rw[Pj]at z1;have B:Same H H':=(ay.trans x).trans e;have N:ts[j]?=some (ts.getD j (0,0)):=by simp[z1]
  obtain⟨b,a6,bk⟩:=(hx.ts (lG.of B)).2 j _ N;have M:=bB _ (Pq N);have c:=rK p ts ((bits s).take i);refine#[77,a,C,J,17,B.at L,G,n3,IW _ _ _,7,t,3,SqT.of (B.at ht),iw a6,6];refine#[o,b,_,ts.getD j (0,0),2,SqL.of d,bk,by rw[c];exact M.1,by rw[c];exact M.2,by rw[c];exact O,λu H3 b1 hu bt=> ?_];refine#[e.trans b1,u,162];rw[bt,QF,hz,Option.toList_some,FP,Pj]
 .rintro g H' ⟨e,o,v,d,rfl⟩;rw[My,QG]at d;have c:=rK p ts (bits s);refine#[7,o,7,SqL.of d,by rw[c];lia,λl br=>#[l,17,ah,6]];rw[qk,c];exact k _ (((ay.trans x).trans e).trans (Same.new br))
theorem Av:aE nS nS (aq jI):=aS
theorem AY(D:fK K Vm "Net.rank" jI nS f)(i:Cls K C)(r:aR K C Vv)(g:∀b,b=C->bQ P w K mg base 3 b "pieces" nS (Me b)):gw P w K mg base 4 f nS (xU C):=by refine D.fn Av λcdv A outer y H vs Q E o h=> ?_;obtain⟨a,n,p,s,ts,rfl,d,l,m,j,q,k⟩:=h;refine#[_,(aj (aC (aB gs (wfld K (pv 0)) (fo g o ∅ (pv 0) (aa (pv 1) af))))),6];obtain⟨c,t,xs,e,v,x⟩:=id d;exact#[7,a,C,c,17,e,i,r,uv _ _ _,7,a,C,c,7,e,2,CN _ _ _,7,a,n,p,s,ts,2,d,l,m,j,q,λH' u=>#[8,k H' u]]
theorem jB:aE [VZ,VE,"place",Wf] Va (aq fZ):=aS
theorem uq(T:Tb K mg)(D:bo K mg "pivot_place" fZ Va):Cal P w K mg base 1 "pivot_place" Va (DJ K):=by
 refine D.cal jB λf cdv A outer az H vs Q E hr h=> ?_;obtain⟨a,xs,L,c,n,rfl,v,x,O,M,k1,k2⟩:=h;refine#[_,(ab (wfor (ue (K:=K) ⋯ ⋯ T.enumerate_ (aa (pv 0) af)) (sI (K:=K) (n:=2) ⋯ ⋯ (jd (wname 2 jB.nd) (jd (wname 3 jB.nd) sH)))
     (aj (aZ (wpt iB (cG K (pv 3) (pv 1)) ae)
       (aj (aC (pv 2)))
       aO)))
   (aj (aC fi))),6]
 refine#[7,a,2,#[_,v],6];refine Bl (K:=K) (a:=a) (xs:=xs) (λi m H'=>Same H H'/\(∀(j:Nat)(r:List Int),j<i->L[j]?=some r->r.getD c 0=0)/\∃s u,m=[xS a,yS c,s,u]) #[Same.refl _,λj _ d=>absurd d (Sl _),none,none,2] (λi m H' _ z=>SqL.of (z.1.at v)) ?_ ?_
 .rintro i y t m H' N U ⟨k,p,s,u,rfl⟩;obtain⟨b,r,g,rfl,G⟩:=(x.same k).at N;have q:Same H' (upd H' t (.tup [.int (i:Int), .ref b])):=Same.new U;have J:=q.at G;have B:atI (r.map V.int) (c:Int)=some (.int (r.getD c 0)):=cj (by rw[O r (Pq g)];exact M);refine#[t,7,SqT.of ah,21786];refine#[77,b,3,SqL.of J,B,276];by_cases l:r.getD c 0=0
  .rw[l];refine dq #[k.trans q,λj r' d o=> ?_,17];by_cases e:j=i
   .subst e;rw[g]at o;cases o;exact l
   .exact p j r' () o
  .rw[Pc λe=>l (V.int.inj e)];exact lF #[7,k1 i r _ (k.trans q) g l]
 .rintro m H' ⟨k,p,s,u,rfl⟩;refine k2 (λr g=> ?_) H' k;obtain⟨j,d⟩:=Qm g;exact p j r (by rw[x.1];exact(Pn.mp d).1) d
theorem oB:aE [Wf,"pivot",VE,V7,"ahead","behind"] UN (aq kG):=aS
theorem AV(T:Tb K mg)(D:bo K mg "cleared" kG UN):Cal P w K mg base 1 "cleared" UN (tS K):=by
 refine D.cal oB λf cdv A outer bp H vs Q E hr h=> ?_;obtain⟨a,b,r,e,c,n,B,d,rfl,p,s,g,l,G,hn,hB,hd,k⟩:=h;refine#[_,(ab (wset 4 oB.nd (cG K (pv 1) (pv 2)))
   (ab (wset 5 oB.nd (cG K (pv 0) (pv 2)))
   (aj (aC (wlc ["number","above"] [V7,"ahead","behind"] [3,4,5] (K6 (K:=K) ⋯ ⋯ T.zip_ (aa (pv 0) (aa (pv 1) af))) (sI (K:=K) (n:=2) ⋯ ⋯ (jd (wnC 0) (jd (wnC 1) sH))) bW (aB IE (aB gs (aB sN (pv 0) (pv 3)) (aB sN (pv 1) (pv 4))) (pv 2))))))),6]
 have M:atI (r.map V.int) (c:Int)=some (.int (r.getD c 0)):=cj (by rw[g.1];exact G);have L:atI (e.map V.int) (c:Int)=some (.int (e.getD c 0)):=cj (by rw[l.1];exact G);refine#[77,b,3,s,L,6];refine#[77,a,3,p,M,6];refine#[77,a,b,2,#[_,p],#[_,s],6];have u:B+B<=2^26:=()
 refine Ly (n:=n) (λj=> .int ((r.getD j 0*e.getD c 0-e.getD j 0*r.getD c 0).fdiv d)) p s (by rw[My];exact g.1) (by rw[My];exact l.1) (Pr hn ∅) (λi x y vs H' t R S hx hy hv J ht hk=> ?_) λD H' U J ax=> ?_
 .obtain⟨v1,v2,rfl⟩:=GP hv;obtain⟨m,rfl,N⟩:=bK hx;obtain⟨o,rfl,O⟩:=bK hy;have v:r.getD i 0=m:=by rw[Ph,N];rfl
  have z:e.getD i 0=o:=by rw[Ph,O];rfl
  have q:=hk [some (.int m),some (.int o)] (upd H' t (.tup [.int m, .int o])) rfl (Same.refl _);rw[v,z]at q;have m1:jQ m (e.getD c 0):=by rw[<-v];exact jQ.of (g.at i) (l.at c) u
  have m2:jQ o (r.getD c 0):=by rw[<-z];exact jQ.of (l.at i) (g.at c) u
  refine#[t,7,SqT.of ah,21786];simp only[jg,Pd];exact#[778,m1,778,m2,878,hd,q]
 .refine k D H' J U (ax.trans ?_);unfold oR;rw[g.1,P8];rfl
theorem jC:aE [VZ,"place",VE,V7,"pivot","others"] UL (aq f7):=aS
theorem sf(T:Tb K mg)(D:bo K mg "all_cleared" f7 UL)(ag:Cal P w K mg base 1 "cleared" UN (tS K)):Cal P w K mg base 2 "all_cleared" UL (Aq K):=by
 refine D.cal jC λf cdv A outer da H vs Q E hr h=> ?_;obtain⟨a,xs,L,i,c,n,B,d,O,rfl,ha,hx,a0,hL,hi,hc,hn,hB,hd,k⟩:=h;refine#[_,(ab (wset 4 jC.nd (cG K (pv 0) (pv 1)))
   (ab (wset 5 jC.nd (aB um (pU (o8 (K:=K) ⋯) (pv 0) sG (sF (pv 1))) (pU (o8 (K:=K) ⋯) (pv 0) (sF (aB dJ (pv 1) ae)) sG)))
   (aj (aC (wlc [Wf] ["pivot",VE,V7] [4,2,3] (wil K (pv 5)) (wnC 0) bW (wcal ag hr (aa (pv 0) (aa (pv 1) (aa (pv 2) (aa (pv 3) af)))))))))),6]
 obtain⟨b,bX,b0⟩:=hx.2 i O hi;refine#[77,a,3,SqL.of ha,iw bX,6];refine#[777,a,7,SqL.of ha,λp1 cb=> ?_];rw[LS];have bp:Same H (upd H p1 (.lst (xs.take i))):=Same.new cb;have p:upd H p1 (.lst (xs.take i)) p1=some (.lst (xs.take i)):=ah;generalize upd H p1 (.lst (xs.take i))=s at*;refine#[7787,a,7,SqL.of (bp.at ha),λp2 cg=> ?_];rw[show(i:Int)+1=((i+1:Nat):Int)from rfl,Gq];have br:Same s (upd s p2 (.lst (xs.drop (i+1)))):=Same.new cg;have J:upd s p2 (.lst (xs.drop (i+1))) p2=some (.lst (xs.drop (i+1))):=ah;generalize upd s p2 (.lst (xs.drop (i+1)))=t at*;have c1:=hx.1;refine#[p1,p2,8,br.at p,J,6,λq hq=> ?_]
 .rw[P6,RD];exact Pr (JZ i xs.length) (Pr (show xs.length<=1000 by lia) ∅)
 have cL:Same t (upd t q (.lst (xs.take i++xs.drop (i+1)))):=Same.new hq;have h3:upd t q (.lst (xs.take i++xs.drop (i+1))) q=some (.lst (xs.take i++xs.drop (i+1))):=ah;generalize upd t q (.lst (xs.take i++xs.drop (i+1)))=H3 at*;have ai:Same H H3:=(bp.trans br).trans cL;have b1:=ai.at b0;have a5:aQ H3 (xs.take i++xs.drop (i+1)) (L.take i++L.drop (i+1)):=(hx.same ai).cut i;have cK:(xs.take i++xs.drop (i+1)).length<=1000:=by rw[PK,P6,RD];exact Pr (JZ i xs.length) ()
 have bA:∀r∈L.take i++L.drop (i+1),kx n B r:=λr g=>by
  rcases Pz.mp g with h|h
  .exact a0 r (R6 h)
  .exact a0 r (TC h)
 have two:∀(j:Nat)(r:List Int),(L.take i++L.drop (i+1))[j]?=some r->2<=L.length:=λj r hj=>by have p:=(Pn.mp hj).1;have J:=(Pn.mp hi).1;rw[PK,P6,RD]at p;lia
 generalize xs.take i++xs.drop (i+1)=zs at*;generalize L.take i++L.drop (i+1)=N at*;refine#[7,q,2,#[_,SqL.of h3],6];refine qe (λx y G=>∃(m z:Addr)(r:List Int),x= .ref m/\y= .ref z/\H3 m=some (.lst (r.map V.int))/\G z=some (.lst ((oR d O r c).map V.int))) (λx y G G' e h=>by obtain⟨m,z,r,e1,e2,g1,g2⟩:=h;exact#[m,z,r,e1,e2,g1,e.at g2]) (SqL.of h3) (Pr cK ∅) (λj x vs D H' R S cy hv U M hk=> ?_) λD H' ys M U bN b8 hR=> ?_
 .obtain⟨v,rfl⟩:=bG hv;obtain⟨m,r,g,rfl,bk⟩:=a5.at cy;obtain⟨l,hl⟩:=M;simp only[bC,jg,Pd];refine#[7777,m,b,r,O,c,n,B,d,2,SqL.of (U.at bk),SqL.of (U.at b1),bA r (Pq g),a0 O (Pq hi),hc,hn,hB,hd (two j r g),λu H4 cM hu b7=> ?_];refine hk _ [some (.ref m)] H4 #[m,u,r,22,bk,6] rfl cM;rw[de (au hl hu).symm];exact b7
 .refine k D H' ys (ai.trans U) ?_ bN ?_
  .cases e:H D with
   |none=>rfl
   |some o=>rw[ai.at e]at M;cases M
  .refine aQ.of (by rw[b8,My];exact a5.1) λj r' y g hy=> ?_;rw[PB]at g;cases hN:N[j]? with
   |none=>rw[hN]at g;cases g
   |some r=>
    rw[hN]at g;cases g;obtain⟨m,p,J⟩:=a5.2 j r hN;obtain⟨b2,c2,r2,e1,e2,g1,g2⟩:=hR j _ y p hy;cases e1;rw[sP J g1];exact#[c2,e2,fc.at g2]
theorem Hy:aE U7 U7 (aq pD):=aS
theorem IH(T:Tb K mg)(D:bo K mg "rests" pD U7):Cal P w K mg base 1 "rests" U7 (DH K):=by
 refine D.cal Hy λf cdv A outer t H vs Q E p h=> ?_;obtain⟨a,r,m,rfl,c,o,hl,k⟩:=h;refine#[_,(ab (aZ (wpt a7 (pv 1) ae)
     (aj (aC (eY (vU (K:=K) ⋯) ⋯ T.list_ RJ (aa (pv 0) af))))
     aO)
   (aj (aC (wlc ["number"] [Vr] [1] (wil K (pv 0)) (wnC 0) bW (aB bI (pv 0) (pv 1)))))),6]
 refine#[727,cC (λz=> ?_) λz=> ?_]
 .have e:m=0:=V.int.inj (PH z);refine#[7,a,7, .inl c,λq b=> ?_];refine k q _ (Same.new b) b ?_;rw[ah];unfold dY;rw[Pd e]
 .have e:¬m=0:=λe=>z (Pe (by rw[e]));refine#[7,a,2,#[_,c],6];refine cf (λ_=>true) (λx=> .int (bJ x % m)) c (by rw[My];exact Pr hl ∅) (λi x vs H' R S n l d g=> ?_) λq H' b d j=> ?_
  .obtain⟨v,rfl⟩:=bG l;obtain⟨y,rfl,s⟩:=bK n;have q:=g [some (.int y)] H' rfl (Same.refl _);rw[Pd rfl]at q;simp only[bC,jg,Pd];exact#[778,(by show(0:Int)<m;lia),q]
  .refine k q H' d b (j.trans ?_);have:=bO (λ_=>true) (λz=>z % m) r;rw[this,QW.mpr (λ_ _=>rfl)];unfold dY;rw[Pb e]
theorem dG:aE [VZ,Vr,"left",Vm,V7,VE,"place","ahead"] U4 (aq kC):=aS
theorem CF(T:Tb K mg)(D:bo K mg "rank_of" kC U4)(ax:Cal P w K mg base 1 "rests" U7 (DH K))(ag:Cal P w K mg base 1 "pivot_place" Va (DJ K))(ai:Cal P w K mg base 2 "all_cleared" UL (Aq K)):Cal P w K mg base 3 "rank_of" U4 (tO K):=by
 refine D.cal dG λf cdv A outer fW H vs Q E hr h=> ?_;obtain⟨a,xs,M,n,m,rfl,ha,hx,hM,n8,c5,O,k⟩:=h;refine#[_,(ab (aZ (wpt a7 (wlen K T.len_ (pv 0)) ae)
     (aj (aC ae))
     aO)
   (ab (wls 2 dG.nd [Wf] [Vr] [1] (wil K (pv 0)) (wnC 0) bW (wcal ax hr (aa (pv 0) (aa (pv 1) af))))
   (ab (wset 3 dG.nd ae)
   (ab (wset 4 dG.nd ae)
   (ab (wfor (wrng T.range_ (wlen K T.len_ (cG K (pv 0) ae))) (wname 5 dG.nd)
     (ab (wset 6 dG.nd (wcal ag hr (aa (pv 2) (aa (pv 5) af))))
     (aj (aZ (wpt yy (pv 6) fi)
       (ab (wset 7 dG.nd (cG K (cG K (pv 2) (pv 6)) (pv 5)))
       (ab (wls 2 dG.nd [Wf] [Vr] [1] (wil K (wcal ai hr (aa (pv 2) (aa (pv 6) (aa (pv 5) (aa (pv 4) af)))))) (wnC 0) bW (wcal ax hr (aa (pv 0) (aa (pv 1) af))))
       (ab (wset 3 dG.nd (aB dJ (pv 3) ae))
       (aj (aZ (wpt a7 (pv 1) ae)
         (aj (wset 4 dG.nd (pv 7)))
         aO)))))
       aO))))
   (aj (aC (pv 3)))))))),6]
 have d7:=hx.1;refine#[7,a,7, .inl (SqL.of ha),27,cC (λz=> ?_) λz=> ?_]
 .have e:M=[]:=by have e1:((xs.length:Nat):Int)=0:=V.int.inj (PH z);exact SV.mp ()
  subst e;refine k 0 H (Same.refl _) ?_ (xP O.one _ _);intro S T hS hT ls lt
  match S,ls with
  |s::_,_=>exact absurd (hS s Pt) (λh=>nomatch h)
 have m0:0<M.length:=by refine SJ λe=>z (Pe ?_);rw[d7,e];rfl
 refine#[7,a,2,#[_,SqL.of ha],6];refine qe (λx y G=>∃(J c':Addr)(r:List Int),x= .ref J/\y= .ref c'/\H J=some (.lst (r.map V.int))/\G c'=some (.lst ((dY m r).map V.int))) (λx y G G' e h=>by obtain⟨J,c',r,e1,e2,g1,g2⟩:=h;exact#[J,c',r,e1,e2,g1,e.at g2]) (SqL.of ha) (Pr (show xs.length<=100 by lia) ∅) (λj x vs D H' R S dc hv sm hD hk=> ?_) λq H1 ys hq dm eW eP hR=> ?_
 .obtain⟨v,rfl⟩:=bG hv;obtain⟨J,r,o,rfl,br⟩:=hx.at dc;obtain⟨l,hl⟩:=hD;simp only[bC,jg,Pd];refine#[77,J,r,m,2,SqL.of (sm.at br),O.nn,by rw[(c5 r (Pq o)).1];lia,λu H4 bX hu a5=> ?_];refine hk _ [some (.ref J)] _ #[J,u,r,22,br,6] rfl bX;rw[de (au hl hu).symm];exact a5
 have e4:aQ H1 ys (M.map (dY m)):=by
  refine aQ.of (by rw[eP,My];exact d7) λj r' y o hy=> ?_;rw[PB]at o;cases hN:M[j]? with
  |none=>rw[hN]at o;cases o
  |some r=>
   rw[hN]at o;cases o;obtain⟨J,h1,h2⟩:=hx.2 j r hN;obtain⟨b2,c2,r2,e1,e2,g1,g2⟩:=hR j _ y h1 hy;cases e1;rw[sP h2 g1];exact#[c2,e2,fc.at g2]
 clear hR;obtain⟨b0,eB,eG⟩:=hx.2 0 _ (PF m0);have l0:=(c5 _ (QP m0)).1;refine#[7,a,3,SqL.of (dm.at ha),iw (j:=0) eB,b0,7, .inl (SqL.of (dm.at eG)),7,by rw[My];lia,by rw[My];lia,6];rw[My,l0,Pj];have mapped:∀(L:List (List Int)) (c:Nat) (g:Nat),(Van m g ((L.map (dY m)).map cu) (List.range' c (n-c))->Van m g (L.map cu) (List.range' c (n-c)))/\(Mnr m g ((L.map (dY m)).map cu) (List.range' c (n-c))->Mnr m g (L.map cu) (List.range' c (n-c))):=λL c g=>by
  have e:(L.map (dY m)).map cu=(L.map cu).map (I0 m):=by rw[P8,P8];exact Qt λr _=>Fh m r
  rw[e];exact#[Km λr _ j _=>A2 m r j,KC λr _ j _=>A2 m r j]
 refine dz (n:=n) (λc σ H'=>Same H H'/\∃(q:Addr)(ys:List V) (L:List (List Int)) (p:Nat) (d:Int) (v5 v6 v7:Option V),H' q=some (.lst ys)/\aQ H' ys L/\L.length+p=M.length/\(∀r∈L,kx n (jm p) r)/\(0<m->∀r∈L,∀z∈r,0<=z/\z<m)/\d≠0/\d.natAbs<2^jm (p-1)/\¬m∣d/\(m≠0->d=1)/\rY d (L.map cu) (List.range' c (n-c))/\
  (∀g,Van m g (L.map cu) (List.range' c (n-c))->Van m (p+g) (M.map cu) (List.range n))/\(∀g,Mnr m g (L.map cu) (List.range' c (n-c))->Mnr m (p+g) (M.map cu) (List.range n))/\
  σ=[xS a,yT m,xS q,yS p,yT d,v5,v6,v7]) #[dm,q,ys,M.map (dY m),0,(1),none,none,none,eW,e4,by rw[My];rfl,λr o=> ?_,λhp r o=> ?_,44,O.one,λ_=>rfl,kO _ _,λg v=> ?_,λg v=> ?_,2] ?_ ?_
 .obtain⟨r0,bB,rfl⟩:=Pl.mp o;exact AA O.nn O.lt ∅ (c5 r0 bB)
 .obtain⟨r0,bB,rfl⟩:=Pl.mp o;exact DW hp
 .have:=(mapped M 0 g).1 v;rw[show List.range' 0 (n-0)=List.range n by rw[Ts];rfl]at this;rw[RE];exact this
 .have:=(mapped M 0 g).2 v;rw[show List.range' 0 (n-0)=List.range n by rw[Ts];rfl]at this;rw[RE];exact this
 .rintro c σ H' hc ⟨cm,q',cn,L,p,d,v5,v6,v7,b6,cb,hL,U,cT,hd,cS,c3,cO,good,a4,hSub,rfl⟩;rw[QO];rw[Ct hc]at good a4 hSub;refine#[77,q',cn,L,c,n,2,b6,cb,λr o=>(U r o).1,hc,λi B H2 a3 hi b5=> ?_,λeA H2 a3=> ?_]
  .have a6:=Pq hi;have d3:=a3.at b6;have ea:=cb.same a3;have il:=(Pn.mp hi).1;have eL:=JY hi;have cN:L.map cu=(L.take i).map cu++cu B::(L.drop (i+1)).map cu:=by
    conv=>lhs;rw[eL]
    rw[Qs,Qb]
   have c4:¬m∣B.getD c 0:=Nn O.nn (λhp=>cT hp B a6 _ (KO b5)) b5;have G2:=Gh good hd (show cu B∈L.map cu from Pl.mpr #[B,a6,2]) b5 (L:=(L.take i).map cu++(L.drop (i+1)).map cu) λr o=>by
    rw[cN];rcases Pz.mp o with h|h
    .exact Pz.mpr (.inl h)
    .exact Pz.mpr (.inr (Po _ h))
   have eN:((L.take i).map cu++(L.drop (i+1)).map cu).map (bV d (cu B) c)=((L.take i++L.drop (i+1)).map λr=>oR d B r c).map cu:=by
    rw[<-Qs,P8,P8];refine Qt λr o=> ?_;have rm:r∈L:=by
     rcases Pz.mp o with h|h
     .exact R6 h
     .exact TC h
    exact(HN (U B a6).1 (U r rm).1 hc).symm
   have VS:∀g,Van m g (((L.take i++L.drop (i+1)).map λr=>oR d B r c).map cu) (List.range' (c+1) (n- (c+1)))->Van m (p+1+g) (M.map cu) (List.range n):=λg v=>by
    rw[<-eN]at v;have:=a4 _ (tf O.mul good hd cN c4 v)
    rwa [show p+(g+1)=p+1+g by lia]at this
   have US:∀g,Mnr m g (((L.take i++L.drop (i+1)).map λr=>oR d B r c).map cu) (List.range' (c+1) (n- (c+1)))->Mnr m (p+1+g) (M.map cu) (List.range n):=λg v=>by
    rw[<-eN]at v;have:=hSub _ (tF O.mul O.one good hd c3 cN c4 v)
    rwa [show p+(g+1)=p+1+g by lia]at this
   rw[eN]at G2;have bN:∀r∈(L.take i++L.drop (i+1)).map λr=>oR d B r c,kx n (jm (p+1)) r:=λx e3=>by
    obtain⟨r,o,rfl⟩:=Pl.mp e3;have rm:r∈L:=by
     rcases Pz.mp o with h|h
     .exact R6 h
     .exact TC h
    exact LU (U B a6) (U r rm)
   have lN:((L.take i++L.drop (i+1)).map λr=>oR d B r c).length+(p+1)=M.length:=by rw[My,PK,P6,RD];lia
   obtain⟨b,eE,eH⟩:=ea.2 i B hi;have ar:atI (B.map V.int) (c:Int)=some (.int (B.getD c 0)):=cj (by rw[(U B a6).1];exact hc);have ew:2<=L.length->CFd 0 d:=λh2=>#[hd,Nv cS (zo _ ()) hd];have e9:p<9:=()
   refine#[727,lF ?_];refine#[77,q',3,SqL.of d3,iw eE,7,b,3,SqL.of eH,ar,6];generalize hN:(L.take i++L.drop (i+1)).map (λr=>oR d B r c)=N at*;refine#[7777,q',cn,L,i,c,n,jm p,d,B,2,d3,ea,U,9,hi,hc,9,GI p e9,ew,λu H4 zs bX hu a5 cg=> ?_];rw[hN]at cg;have zl:=cg.1;refine#[u,2,#[_,SqL.of a5],6];refine qe (λx y G=>∃(J c':Addr)(r:List Int),x= .ref J/\y= .ref c'/\H4 J=some (.lst (r.map V.int))/\G c'=some (.lst ((dY m r).map V.int))) (λx y G G' e h=>by obtain⟨J,c',r,e1,e2,g1,g2⟩:=h;exact#[J,c',r,e1,e2,g1,e.at g2]) (SqL.of a5) (Pr (show zs.length<=100 by lia) ∅) (λj x vs D H' R S dc hv sm hD hk=> ?_) λq5 H5 ws fu fa d4 eR hR=> ?_
   .obtain⟨v,rfl⟩:=bG hv;obtain⟨J,r,o,rfl,br⟩:=cg.at dc;obtain⟨l,hl⟩:=hD;simp only[bC,jg,Pd];refine#[77,J,r,m,2,SqL.of (sm.at br),O.nn,by rw[(bN r (Pq o)).1];lia,λu H4 bX hu a5=> ?_];refine hk _ [some (.ref J)] _ #[J,u,r,22,br,6] rfl bX;rw[de (au hl hu).symm];exact a5
   have d5:aQ H5 ws (N.map (dY m)):=by
    refine aQ.of (by rw[eR,My];exact zl) λj r' y o hy=> ?_;rw[PB]at o;cases cL:N[j]? with
    |none=>rw[cL]at o;cases o
    |some r=>
     rw[cL]at o;cases o;obtain⟨J,h1,h2⟩:=cg.2 j r cL;obtain⟨b2,c2,r2,e1,e2,g1,g2⟩:=hR j _ y h1 hy;cases e1;rw[sP h2 g1];exact#[c2,e2,fc.at g2]
   clear hR;have ef:Same H H5:=((cm.trans a3).trans bX).trans fa;have fB:∀r∈N.map (dY m),kx n (jm (p+1)) r:=λr o=>by obtain⟨r0,bB,rfl⟩:=Pl.mp o;exact AA O.nn O.lt (k9 _) (bN r0 bB)
   have fI:0<m->∀r∈N.map (dY m),∀z∈r,0<=z/\z<m:=λhp r o=>by obtain⟨r0,bB,rfl⟩:=Pl.mp o;exact DW hp
   have fV:=λg v=>VS g ((mapped N (c+1) g).1 v);have fU:=λg v=>US g ((mapped N (c+1) g).2 v);refine#[786];rw[show(p:Int)+1=((p+1:Nat):Int) by lia];refine#[727,cC (λz=> ?_) λz=> ?_]
   .have e:m=0:=V.int.inj (PH z);have eM:N.map (dY m)=N:=by
     have:dY m=id:=by funext r;unfold dY;rw[Pd e];rfl
     rw[this,RX]
    refine#[7,ef,q5,ws,N.map (dY m),p+1,B.getD c 0,111,d4,d5,by rw[My];exact lN,fB,fI,b5,(U B a6).at c,c4,λh=>absurd e h,6,fV,fU,2];rw[eM];exact G2
   .have e:m≠0:=λe=>z (Pe (by rw[e]));have ed:=cO e;subst ed;exact#[ef,q5,ws,N.map (dY m),p+1,(1),111,d4,d5,by rw[My];exact lN,fB,fI,4,Pg (show(1:Int).natAbs<2^7 by decide) (PJ ∅ (k9 _)),O.one,λ_=>rfl,kO _ _,fV,fU,2]
  .refine#[727,dq ?_];have zr:∀r∈L.map cu,m∣r c:=λr o=>by obtain⟨l,hl,rfl⟩:=Pl.mp o;have:cu l c=0:=eA l hl;rw[this];exact Qa m
   refine#[cm.trans a3,q',cn,L,p,d,111,a3.at b6,cb.same a3,hL,U,cT,hd,cS,c3,cO,6,λg v=>a4 g (lH zr v),λg v=>hSub g (z7 v),2];exact λS T g hS hT=>good S T g hS λt ht=>Po _ (hT t ht)
 .rintro σ H' ⟨cm,q',cn,L,p,d,v5,v6,v7,b6,cb,hL,U,cT,hd,cS,c3,cO,good,a4,hSub,rfl⟩;rw[Ue]at a4 hSub;exact#[7,k p H' cm (a4 1 (xM m _)) (hSub 0 (xP O.one _ _))]
theorem oC:aE UE UE (aq dB):=aS
theorem nR(T:Tb K mg)(D:fK K Vk "Tabled.__init__" dB UE f)(ai:mg V4=some (.ref C_House))(cl:Cls K C)(n1:aR K C Vi)(n2:aR K C Vr)(n3:aR K C VZ)(ag:vW P w K mg base 1 C_House Vk UP (iK K)):gw P w K mg base 2 f UE (tP K C):=by
 refine D.fn oC λcdv A outer cE H vs Q E hr h=> ?_;obtain⟨p,d,a,n,m,xs,M,rfl,hp,ha,hx,hl,k⟩:=h;refine#[_,(ab (c8 (jX ag hr ∅ (c9 (v:= .ref C_House) ⋯ ai rfl) (aa (pv 0) (aa (pv 1) af))))
   (ab (wsf K (pv 0) (pv 2))
   (aj (wsf K (pv 0) (eY (fJ (K:=K) ⋯) ⋯ T.tuple_ RG (aa (wlc [Wf] [] [] (wil K (pv 3)) (wnC 0) bW (eY (fJ (K:=K) ⋯) ⋯ T.tuple_ RG (aa (pv 0) af))) af)))))),6]
 refine#[277,p,C,d,7,hp,cl,n1,6];have b1:upd H p (.ins C d (aY Vi (.int n) [])) p=some (.ins C d (aY Vi (.int n) [])):=ah;refine#[77,p,C,d,7,b1,cl,n2,Px (aG _ _ _) (by show 0+1<1000;decide),6];rw[fM];have b2:upd H p (.ins C d (aY Vr (.int m) (aY Vi (.int n) []))) p=some (.ins C d (aY Vr (.int m) (aY Vi (.int n) []))):=ah;have a0:∀b o,H b=some o->b≠p->upd H p (.ins C d (aY Vr (.int m) (aY Vi (.int n) []))) b=some o:=λb o e g=>by rw[aA g];exact e
 have nn:∀b,upd H p (.ins C d (aY Vr (.int m) (aY Vi (.int n) []))) b=none->b≠p/\H b=none:=λb g=>by
  have bp:b≠p:=λe=>by rw[e,ah]at g;cases g
  rw[aA bp]at g;exact#[bp,g]
 have bk:=a0 _ _ ha (jK ha hp (by intro z;cases z));have aD:aQ (upd H p (.ins C d (aY Vr (.int m) (aY Vi (.int n) [])))) xs M:=#[hx.1,λi r N=>by obtain⟨b,s,u⟩:=hx.2 i r N;exact#[b,s,a0 _ _ u (jK u hp (by intro z;cases z))]]
 generalize upd H p (.ins C d (aY Vr (.int m) (aY Vi (.int n) [])))=O at*;refine#[7,a,2,#[_,SqL.of bk],6];refine qe (λx y G=>∃(b c:Addr)(r:List Int),x= .ref b/\y= .ref c/\O b=some (.lst (r.map V.int))/\G c=some (.tup (r.map V.int))) (λx y G G' e h=>by obtain⟨b,c,r,j,e2,s,u⟩:=h;exact#[b,c,r,j,e2,s,e.at u]) (SqL.of bk) (Pr hl ∅) (λi v vs D H' R S b6 hv L hD hk=> ?_) λD U J hD L bN bt hR=> ?_
 .obtain⟨v,rfl⟩:=bG hv;obtain⟨b,r,N,rfl,g⟩:=aD.at b6;obtain⟨l,b0⟩:=hD;simp only[bC,jg,Pd];refine#[7,b,7, .inl #[SqL.of (L.at g),λq hq=> ?_]];refine hk _ [some (.ref b)] _ #[b,q,r,22,g,6] rfl (Same.new hq);rw[de (au b0 hq).symm,ah]
 have b7:mZ U J M:=by
  refine#[by rw[bt];exact aD.1,λi r N=> ?_];obtain⟨b,s,u⟩:=aD.2 i r N;have hi:i<J.length:=by rw[bt];exact(Pn.mp s).1
  obtain⟨b',c,r',j,e2,g1,g2⟩:=hR i _ _ s (PF hi);cases j;rw[sP u g1];exact#[c,by rw[PF hi,e2],fc.at g2]
 refine#[D,J,2, .inl #[SqL.of bN,λt B=> ?_]];have az:=L.at b2;have tp:t≠p:=λe=>by rw[e,az]at B;cases B
 have cm:O t=none:=by
  cases e:O t with
  |none=>rfl
  |some o=>rw[L.at e]at B;cases B
 refine#[7,p,C,d,7,(by rw[aA tp.symm];exact az),cl,n3,66]
 .exact Px (aG _ _ _) (Px (Qg (aG _ _ _)) (by show 0+1+1<1000;decide))
 have b3:upd U t (.tup J) p=some (.ins C d (aY Vr (.int m) (aY Vi (.int n) []))):=by rw[aA tp.symm];exact az
 refine k t J _ (nn t cm).2 (λb o e g=> ?_) ah ?_ ?_
 .have j:=L.at (a0 b o e g);rw[aA g,aA (au j B)];exact j
 .rw[aA tp,ah]
 .refine(b7.ts (H':=upd U t (.tup J)) (lG.new B)).ts λb zs e=> ?_;rw[aA (jK e b3 (by intro z;cases z))];exact e
theorem l6:aE ["self","s",We] nS (aq f9):=aS
theorem si(T:Tb K mg)(D:fK K Vm "Tabled.rank" f9 nS f)(cl:Cls K C)(n2:aR K C Vr)(n3:aR K C VZ)(ai:Cal P w K mg base 2 VD UZ gK)(ag:Cal P w K mg base 3 "rank_of" U4 (tO K)):gw P w K mg base 4 f nS (tN C):=by
 refine D.fn l6 λcdv A outer d3 H vs Q E hr h=> ?_;obtain⟨a,n,s,m,M,rfl,hT,n8,hM,bp,pm,hs,k⟩:=h;refine#[_,(ab (wset 2 l6.nd (wcal ai hr (aa (pv 1) af)))
   (aj (aC (wcal ag hr (aa (wlc [Wf] [We] [2] (wit K (wfld K (pv 0))) (wnC 0) bW (wlc [VF] [Wf] [0] (wil K (pv 1)) (wnC 0) bW (ky K (pv 1) (pv 0)))) (aa (wfld K (pv 0)) af)))))),6]
 obtain⟨dx,t,xs,ha,ht,hx⟩:=id hT;have d1:s<256:=Pg hs (PJ (n:=2) () n8);refine#[7,(s:Int),299,λq H1 L hq a5=> ?_];rw[Pj]at a5;have bu:=L.at ht;have a3:=L.at ha;have bB:=hx.ts (lG.of L);have c3:=hx.1;refine#[7,a,C,dx,17,a3,cl,n3,GX _ _ _,t,2,#[_,SqT.of bu],6];refine LA (λx y G=>∃(b c:Addr)(r:List Int),x= .ref b/\y= .ref c/\H1 b=some (.tup (r.map V.int))/\r∈M/\G c=some (.lst ((pick s r).map V.int))) (λx y G G' e h=>by obtain⟨b,c,r,N,O,U,h3,h2⟩:=h;exact#[b,c,r,N,O,U,h3,e.at h2]) bu (Pr (show xs.length<=100 by lia) ∅) (λi v vs D H' R S cS B sm hD hk=> ?_) λu H2 ys hu bS cO cL hR=> ?_
 .obtain⟨v,rfl⟩:=bG B;obtain⟨b,r,d,rfl,hb⟩:=bB.at cS;obtain⟨l,cK⟩:=hD;simp only[bC,jg,Pd];have a6:=sm.at a5;have ct:=sm.at hb;refine#[7,q,2,#[_,SqL.of a6],6];refine cf (λx=>(λ_=>true) (bJ x)) (λx=> .int ((λz:Int=>r.getD z.toNat 0) (bJ x))) (SqL.of a6) (by rw[My];exact Pr (aW s) ∅) (λj x ws g R' S' c1 hw o cE=> ?_) λD2 g cb o p=> ?_
  .obtain⟨w',rfl⟩:=bG hw;obtain⟨z,rfl,J⟩:=bK c1;obtain⟨z0,z1⟩:=k7 hs (Pq J);have q':=cE [some (.int z)] g rfl (Same.refl _);rw[Pd rfl]at q';have az:atI (r.map V.int) z=some (.int (r.getD z.toNat 0)):=by
    have:=cj (l:=r) (j:=z.toNat) (by rw[(bp r (Pq d)).1];exact z1)
    rwa [SF z0]at this
   simp only[bC,jg,Pd];exact#[77,b,3,SqT.of (o.at ct),az,q']
  .replace p:=p.trans (Qd (λl=>some (HO.lst l)) (bO (λ_=>true) (λz:Int=>r.getD z.toNat 0) (bits s)));rw[QW.mpr (λ_ _=>rfl)]at p;refine hk _ [some (.ref b)] g #[b,D2,r,22,hb,Pq d,6] rfl o;rw[de (au cK cb).symm];exact p
 have c5:aQ H2 ys (M.map (pick s)):=by
  refine aQ.of (by rw[cL,My];exact c3) λj r' y d hy=> ?_;rw[PB]at d;cases hN:M[j]? with
  |none=>rw[hN]at d;cases d
  |some r=>
   rw[hN]at d;cases d;obtain⟨b,U,h2⟩:=bB.2 j r hN;obtain⟨b2,c2,r2,N,O,g1,_,g2⟩:=hR j _ y U hy;cases N;rw[Kp h2 g1];exact#[c2,O,fc.at g2]
 have bl:=aW s;refine#[7,a,C,dx,17,bS.at a3,cl,n2,EV _ _ _,u,ys,M.map (pick s),(bits s).length,m,2,cO,c5,by rw[My];exact hM,bl,λr d=> ?_,pm,λrk g o B bt=> ?_]
 .obtain⟨r0,cM,rfl⟩:=Pl.mp d;refine#[by unfold pick;rw[My],λz J=> ?_];unfold pick at J;obtain⟨b,_,rfl⟩:=Pl.mp J;exact(bp r0 cM).at b.toNat
 .rw[yt,<-Gu]at B bt;exact k rk g ((L.trans bS).trans o) ((Cb λr d j hj=>D7 d hj).mp B) (CP (λr d j hj=>D7 d hj) bt)
theorem qI:aE UT UT (aq eI):=aS
theorem qR{Z:Hs}(D:fK K Vk "Side.__init__" eI UT f)(U:mg V4=some (.ref C_House))(g:Cls K cS)(br:aR K cS Vi)(bt:aR K cS "first")(bu:aR K cS "second")(bA:aR K cS VL)(bB:aR K cS VM)(z:df Z)(y:∀C,Z.dom C->HC K C_House C)(N:vW P w K mg base 1 C_House Vk UP (iK K))(O:∀C,Z.dom C->bQ P w K mg base 2 C Vj U0 (d8 K)):
  gw P w K mg base 3 f UT (Am Z cS):=by
 refine D.fn qI λcdv A outer b5 H vs Q E J h=> ?_;obtain⟨p,i,a,n,j,n2,r1,r2,rfl,hp,a3,a4,h8,k⟩:=h;refine#[_,(ab (c8 (jX N J ∅ (c9 (v:= .ref C_House) ⋯ U rfl) (aa (pv 0) (aa (aB dJ (wfld K (pv 1)) (wfld K (pv 2))) af))))
   (ab (wsf K (pv 0) (pv 1))
   (ab (wsf K (pv 0) (pv 2))
   (ab (wsf K (pv 0) (wfld K (pv 1)))
   (aj (wsf K (pv 0) (fC O J ∅ (pv 1)))))))),6]
 obtain⟨C1,t,L⟩:=z.shown a3;obtain⟨s,ay,M⟩:=z.shown a4;have G:a≠p:=lR L;have bk:n≠p:=lR M;obtain⟨c,d,g1,bS,aD,m⟩:=L.ex;obtain⟨u,x,g2,bX,bN,a0⟩:=M.ex;have B:H a=some (.ins C1 c d):=(de (H:=H) G).symm.trans g1;have a6:H n=some (.ins s u x):=(de (H:=H) bk).symm.trans g2;obtain⟨l,q,_,_⟩:=y C1 t;obtain⟨ax,bM,_,_⟩:=y s ay;have b2:0<2^j:=Q9 ();have r:∀ {o:HO},upd H p o a=some (.ins C1 c d):=λ{o}=>by rw[aA G];exact B
 refine#[277,a,_,c,d,7,B,l,q,m,7,n,_,u,x,7,a6,ax,bM,a0,8,p,cS,i,7,hp,g,br,6];refine#[77,p,cS,i,7,ah,g,bt,Px (aG _ _ _) (by show 0+1<1000;decide),6];rw[fM];refine#[77,p,cS,i,7,ah,g,bu,Px (aG _ _ _) (Px (Qg (aG _ _ _)) (by show 0+1+1<1000;decide)),6];rw[fM];refine#[7,a,_,c,d,7,r,l,q,m,7,p,cS,i,7,ah,g,bA,Px (aG _ _ _) (Px (Qg (aG _ _ _)) (Px (Qg (Qg (aG _ _ _))) (by show 0+1+1+1<1000;decide))),6];rw[fM];refine#[7,a,_,c,d,2,r,t,aD,a,_,c,d,(j:Int),2,r,l,q,m,997,p,cS,i,7,ah,g,bB,66]
 .exact Px (aG _ _ _) (Px (Qg (aG _ _ _)) (Px (Qg (Qg (aG _ _ _))) (Px (Qg (Qg (Qg (aG _ _ _)))) (by show 0+1+1+1+1<1000;decide))))
 rw[fM];have ef:(1*2^((j:Nat):Int).toNat-1:Int)=((2^j-1:Nat):Int):=by rw[dO];lia
 rw[ef];refine k _ (λb o e hb=> ?_) ah;rw[aA hb];exact e
theorem yg:aE nS nS (aq ja):=aS
theorem yH{Z:Hs}(D:fK K Vm "Side.rank" ja nS f)(c:Cls K cS)(a3:aR K cS "first")(a4:aR K cS "second")(a5:aR K cS VL)(a6:aR K cS VM)(z:df Z)(hj:3<=j)(o:∀C,Z.dom C->bQ P w K mg base j C Vm nS (dX Z C)):gw P w K mg base (j+1) f nS (dX (LJ Z cS) cS):=by
 refine D.fn yg λcdv A outer b5 H vs Q E L h=> ?_;obtain⟨a,n,s,r,rfl,hX,⟨bM,b1,b2⟩,n8,M,k⟩:=h;refine#[_,(aj (aC (aB dJ (fo o L () (wfld K (pv 0)) (aa (aB gv (pv 1) (wfld K (pv 0))) af)) (fo o L () (wfld K (pv 0)) (aa (aB mD (pv 1) (wfld K (pv 0))) af))))),6];obtain⟨d,v,x,b,i,l,m,en,e,y,az,a0⟩:=hX;have p1:0<2^b:=Q9 ();have s1:s % 2^b<2^b:=SS _ p1;have s2:s/2^b<2^i:=by rw[Nat.div_lt_iff_lt_mul p1,<-Up,SK i b,<-en];exact M
 obtain⟨C1,O,br⟩:=z.shown y;obtain⟨p,t,G,ax,bN,bX⟩:=br.ex;have ea:Builtin.bitAnd (s:Int) ((2^b-1:Nat):Int)=((s % 2^b:Nat):Int):=by rw[iJ,Nat.and_two_pow_sub_one_eq_mod]
 have ed:((s:Int) /2^((b:Nat):Int).toNat)=((s/2^b:Nat):Int):=by rw[Pj];simp
 refine#[7,a,cS,d,17,e,c,a3,E2 _ _ _ _ _,v,_,p,t,2,G,O,ax,77,a,cS,d,17,e,c,a6,MO _ _ _ _ _,8,v,b,s % 2^b,l,(by(try dsimp only);rw[ea]),y,#[p,t,G],9,s1,λH1 g=> ?_];have B:=z.same g az;obtain⟨C2,U,bt⟩:=z.shown B;obtain⟨q,u,J,ay,bS,b0⟩:=bt.ex;refine#[7,a,cS,d,17,g.at e,c,a4,Cg _ _ _ _ _,x,_,q,u,2,J,U,ay,77,a,cS,d,17,g.at e,c,a5,MN _ _ _ _ _,89,x,i,s/2^b,m,(by(try dsimp only);rw[ed]),B,#[q,u,J],9,s2,λN bu=> ?_];refine#[86];have:=k N (g.trans bu);rw[a0 s M]at this;rwa[show((l (s % 2^b)+m (s/2^b):Nat):Int)=((l (s % 2^b):Nat):Int)+((m (s/2^b):Nat):Int) by lia]at this
def oh(p:Int)(b:Bool):List Int:=if b=true then(List.range' 1 (p.toNat-1)).map λi:Nat=>(i:Int)else [0]
def jS(p:Int)(found:List (List Int))(b:Bool):List (List Int):=found.flatMap λcol=>(oh p b).map λz=>col++[z]
def dZ(p:Int)(bs:List Bool):List (List Int):=bs.foldl (jS p) [[]]
theorem qb(h:p<=3)(b:Bool):(oh p b).length<=2:=by
 unfold oh;split
 .rw[My,List.length_range'];lia
 .decide
theorem uQ{b c:Type}{f:b->List c}(h:∀a,(f a).length<=k):∀l:List b,(l.flatMap f).length<=l.length*k
 | []=>by simp
 |a::l=>by rw[List.flatMap_cons,PK,PM,Nat.succ_mul];have:=h a;have:=uQ h l;lia
theorem Gs(h:p<=3)(bs:List Bool):(dZ p bs).length<=2^bs.length:=by
 have c:∀(bs:List Bool) (found:List (List Int)),(bs.foldl (jS p) found).length<=found.length*2^bs.length:=λbs=>by
  induction bs with
  |nil=>intro found;simp
  |cons b bs f=>
   intro found;rw[Rm,PM,Tv];have g:=f (jS p found b);have d:(jS p found b).length<=found.length*2:=uQ (λa=>by rw[My];exact qb h b) found;have e:=Nat.mul_le_mul_right (2^bs.length) d;rw[Uu,Nat.mul_comm 2]at e;lia
 have:=c bs [[]];unfold dZ;simpa using this
theorem uY(p:Int){bs:List Bool}(h:bs[i]?=some b):dZ p (bs.take (i+1))=jS p (dZ p (bs.take i)) b:=by unfold dZ;rw[QF,h,RA];rfl
theorem FU:x∈jS p found b↔∃col∈found,∃z∈oh p b,x=col++[z]:=by
 unfold jS;rw[Tc];constructor
 .rintro⟨col,a,h⟩;obtain⟨z,c,rfl⟩:=Pl.mp h;exact#[col,a,z,c,2]
 .rintro⟨col,a,z,c,rfl⟩;exact#[col,a,Pl.mpr #[z,c,2]]
theorem A8(d:0<p):z∈oh p b↔0<=z/\z<p/\(b=true↔¬z=0):=by
 unfold oh;cases b with
 |true=>
  rw[Pd rfl,Pl];constructor
  .rintro⟨i,c,rfl⟩;obtain⟨j,g,rfl⟩:=List.mem_range'.mp c;exact#[99,λ_=>(),λ_=>rfl]
  .rintro⟨e,f,a⟩;have a:=a.mp rfl;exact#[z.toNat,List.mem_range'.mpr #[z.toNat-1,99],9]
 |false=>
  rw[Pb PQ,PR];constructor
  .rintro rfl;exact#[9,d,λz=>(nomatch z),λz=>absurd rfl z]
  .rintro⟨_,_,a⟩;exact PU λz=>(nomatch a.mpr z)
theorem iG(m:0<p)(bs:List Bool)(x:List Int):x∈dZ p bs↔x.length=bs.length/\∀(i:Nat)(b:Bool),bs[i]?=some b->0<=x.getD i 0/\x.getD i 0<p/\(b=true↔¬x.getD i 0=0):=by
 have q:∀(k:Nat)(x:List Int),k<=bs.length->(x∈dZ p (bs.take k)↔x.length=k/\∀(i:Nat)(b:Bool),i<k->bs[i]?=some b->0<=x.getD i 0/\x.getD i 0<p/\(b=true↔¬x.getD i 0=0)):=λk=>by
  induction k with
  |zero=>
   intro x _;rw[List.take_zero];show x∈[[]]↔_;rw[PR];exact#[λe=>#[by rw[e];rfl,λi b h=>absurd h (Sl _)],λh=>Sr h.1]
  |succ k n=>
   intro x g;have a:bs[k]?=some bs[k]:=PF ();rw[uY p a,FU];constructor
   .rintro⟨col,r,z,j,rfl⟩;obtain⟨f,d⟩:=(n col ()).mp r;have j:=(A8 m).mp j;refine#[by rw[PK,f];rfl,λi b l c=> ?_];by_cases e:i=k
    .subst e;rw[a]at c;cases c;have:(col++[z]).getD i 0=z:=by rw[Ph,P2 (),f,Ue];rfl
     rw[this];exact j
    .have:(col++[z]).getD i 0=col.getD i 0:=by rw[Ph,P1 (),<-Ph]
     rw[this];exact d i b () c
   .rintro⟨f,d⟩;have s:x=x.take k++[x.getD k 0]:=by
     have g:k<x.length:=()
     have:x.getD k 0=x[k]:=by simp[g]
     rw[this];have o:x.take (k+1)=x:=RI ()
     conv=>lhs;rw[<-o,QF,PF g]
     rfl
    refine#[x.take k,(n _ ()).mpr #[by rw[P6];lia,λi b l c=> ?_],_,(A8 m).mpr (d k _ () a),s];have:(x.take k).getD i 0=x.getD i 0:=by rw[Ph,RC l,<-Ph]
    rw[this];exact d i b () c
 have:=q bs.length x (Pu _);rw[QG]at this;rw[this];refine and_congr_right λ_=>#[λh i b a=>h i b (Pn.mp a).1 a,λh i b _ a=>h i b a]
inductive B5(K:Frag)(vs:List V)(H:Hp)(Q:VK):Prop
 |mk(a:Addr) (bs:List Bool) (p:Int) (_:vs=[.ref a, .int p]) (_:SqL K H a (bs.map V.bl)) (_:bs.length<=8) (_:0<p) (_:p<=3) (_:∀l xs H',Same H H'->H l=none->H' l=some (.lst xs)->aQ H' xs (dZ p bs)->Q (.ref l) H'):B5 K vs H Q
def DR(K:Frag):Sp:=λvs H Q _=>B5 K vs H Q
theorem rz(h:aQ H xs M)(g:aQ H ys N):aQ H (xs++ys) (M++N):=by
 refine#[by rw[PK,PK,h.1,g.1],λi r b=> ?_];by_cases e:i<M.length
 .rw[P1 e]at b;obtain⟨a,c,d⟩:=h.2 i r b;exact#[a,by rw[P1 (by rw[h.1];exact e)];exact c,d]
 .rw[P2 ()]at b;obtain⟨a,c,d⟩:=g.2 _ r b;exact#[a,by rw[P2 (by rw[h.1];lia),h.1];exact c,d]
theorem cH:aE ["filled",Vr,"found","is_filled","numbers","longer",VE] U8 (aq fw):=aS
theorem se(T:Tb K mg)(D:bo K mg V0 fw U8):Cal P w K mg base 1 V0 U8 (DR K):=by
 refine D.cal cH λf cdv A outer d0 H vs Q E hr h=> ?_;obtain⟨a,bs,p,rfl,hf,b8,p0,p3,k⟩:=h;refine#[_,(ab (wset 2 cH.nd (cw (aa (cw af) af)))
   (ab (wfor (wil K (pv 0)) (wname 3 cH.nd)
     (ab (wset 4 cH.nd (pV (Ij (pv 3) (by intro _;rfl)) (eY (By ⋯) ⋯ T.list_ RJ (aa (Lb ⋯ T.range_ (aa ae (aa (pv 1) af))) af)) (cw (aa ae af))))
     (ab (wset 5 cH.nd (cw af))
     (ab (wfor (wil K (pv 2)) (wname 6 cH.nd)
       (aj (c8 (kh (K:=K) ⋯ QZ PySem.F.slot_list_extend PySem.F.type_list_extend FO (pv 5) (aa (wlc ["number"] [VE] [6] (wil K (pv 4)) (wnC 0) bW (aB um (pv 1) (cw (aa (pv 0) af)))) af)))))
     (aj (wset 2 cH.nd (pv 5)))))))
   (aj (aC (pv 2))))),6]
 refine#[4,λq0 b3=>#[Pr (Pu 1) ∅,λa0 az=> ?_]];have b9:Same H (upd (upd H q0 (.lst [])) a0 (.lst [.ref q0])):=(Same.new b3).trans (Same.new az);have dh:H a0=none:=(Same.new b3).free az;have dt:q0≠a0:=λz=>by rw[<-z,ah]at az;cases az
 refine#[7,a,2,#[_,b9.seq hf],6];have cl:∀j,(dZ p (bs.take j)).length<=256:=λj=>Pr (Gs p3 _) (show 2^(bs.take j).length<=2^8 from PJ ∅ (by rw[P6];lia));refine cY (K:=K) (a:=a) (xs:=bs.map V.bl) (λi s t=>∃(l:Addr)(xs:List V)(v3 v4 v5 q:Option V),Same H t/\H l=none/\t l=some (.lst xs)/\aQ t xs (dZ p (bs.take i))/\s=[xS a,yT p,xS l,v3,v4,v5,q])
  #[a0,[.ref q0],none,none,none,none,b9,dh,ah,aQ.of rfl (λj r y J L=>by
   cases j with
   |zero=>
    cases J;cases L;exact#[q0,2,by rw[aA dt,ah];rfl]
   |succ j=>simp at L),2] (λi s t _ h=>by obtain⟨_,_,_,_,_,_,M,_⟩:=h;exact M.seq hf) ?_ ?_
 .rintro i x s t hi ⟨l,xs,v3,v4,v5,q,M,hl,bA,hR,rfl⟩;rw[PB]at hi;obtain⟨b,hb,rfl⟩:=S4.mp hi;dsimp only[bC];refine kB (λcg H'=>∃n:Addr,Same t H'/\H' n=some (.lst ((oh p b).map V.int))/\cg=[xS a,yT p,xS l,some (.bl b),xS n,v5,q]) ?_ ?_
  .rintro cg H3 ⟨n,a4,hn,rfl⟩;refine#[4,λd bt=> ?_];have cb:Same H3 (upd H3 d (.lst [])):=Same.new bt;have b6:=a4.at bA;have bX:=hR.same a4;refine#[7,l,2,#[_,SqL.of (cb.at b6)],6];refine cY (K:=K) (a:=l) (xs:=xs) (λj s B=>∃(g:List V)(q:Option V),Same H3 B/\B d=some (.lst g)/\aQ (hide B d) g (jS p ((dZ p (bs.take i)).take j) b)/\s=[xS a,yT p,xS l,some (.bl b),xS n,xS d,q])
    #[[],q,cb,ah,#[2,λi r hr=>by simp[jS]at hr],2] (λj s B _ h=>by obtain⟨_,_,G,_⟩:=h;exact SqL.of (G.at b6)) ?_ ?_
   .rintro j x s B hj ⟨g,q,G,U,hY,rfl⟩;obtain⟨ca,col,br,rfl,c1⟩:=bX.at hj;have c2:=G.at c1;dsimp only[bC];refine#[7, .inl #[21,SqL.of U],6];have b2:=G.at hn;refine#[7,n,2,#[_,SqL.of b2],6];have jl:j<(dZ p (bs.take i)).length:=(Pn.mp br).1;have ct:col.length<=8:=by have:=((iG p0 _ col).mp (Pq br)).1;rw[this,P6];lia
    refine Bd (λm y Hh=>∃(c:Addr)(z:Int),y= .ref c/\B c=none/\(oh p b)[m]?=some z/\Hh c=some (.lst ((col++[z]).map V.int))) (λ_ y Hh H' e ⟨c,z,J,h0,h3,L⟩=>#[c,z,J,h0,h3,e.at L]) (SqL.of b2) (by rw[My];exact Pr (qb p3 b) ∅) (λm x vs D H6 R S hx hv N hD hk=> ?_) λD6 H6 O bS N c5 b7 dn=> ?_
    .obtain⟨v,rfl⟩:=bG hv;obtain⟨z,rfl,hz⟩:=bK hx;simp only[bC,jg,Pd];obtain⟨dl,cN⟩:=hD;refine#[77,Pr (Pu 1) ∅,λu hu=> ?_];have cT:=(Same.new (o:= .lst [.int z]) hu).at (N.at c2);refine#[ca,u,8,cT,ah,by rw[My];exact Pr (Nat.add_le_add_right ct 1) ∅,λc hc=> ?_];have bS:=(Same.new (o:= .lst [.int z]) hu).at cN;refine hk (.ref c) [some (.int z)] _ #[c,z,2,(N.trans (Same.new hu)).free hc,hz,6] rfl ((Same.new hu).trans (Same.new hc));rw[de (λz=>by rw[z,bS]at hc;cases hc),ah,Qs];rfl
    .have cO:aQ (hide H6 d) O ((oh p b).map λz=>col++[z]):=by
      refine aQ.of (by rw[b7,My,My]) λm r y J L=> ?_;obtain⟨c,z,rfl,h0,h3,h4⟩:=dn m y L;rw[PB,h3]at J;cases J;have nc:c≠d:=λz=>by rw[z,U]at h0;cases h0
      exact#[c,2,by rw[de nc];exact fc.at h4]
     have el:g.length+O.length<=sizeLine:=by have e1:=hY.1;have e2:(jS p ((dZ p (bs.take i)).take j) b).length<=((dZ p (bs.take i)).take j).length*2:=uQ (λa=>by rw[My];exact qb p3 b) _;have e3:=qb p3 b;have e4:=cl i;rw[P6]at e2;rw[My]at b7;exact Pr (show g.length+O.length<=1000 by lia) ∅
     refine#[d,D6,g,O,22,N.at U,c5,el,6];refine#[g++O,_,(G.trans N).upd bt,ah,62];rw[kN,QF,br];have e5:jS p ((dZ p (bs.take i)).take j++[col]) b=jS p ((dZ p (bs.take i)).take j) b++(oh p b).map λz=>col++[z]:=by unfold jS;rw[List.flatMap_append,List.flatMap_cons,List.flatMap_nil,Q0]
     show aQ (hide H6 d) (g++O) (jS p ((dZ p (bs.take i)).take j++[col]) b);rw[e5];exact rz (hY.same (ju N)) cO
   .rintro s B ⟨g,q,G,U,hY,rfl⟩;have da:H d=none:=M.free (a4.free bt);rw[bX.1,QG]at hY;refine#[7,d,g,1111,(M.trans a4).trans G,da,U,62];rw[uY p hb];exact hY.same fc
  .intro b5;refine#[7,b,26];cases b with
   |true=>
    refine lF ?_;refine#[7,(1),p,2,λr dj=>#[r,p.toNat-1,2,by rw[ah,show((p.toNat-1+1:Nat):Int)=p by lia],9,λn bu=> ?_]];exact b5 _ _ #[n,(Same.new dj).trans (Same.new bu),ah,2]
   |false=>
    refine dq ?_;exact#[Pr (Pu 1) ∅,λn bu=>b5 _ _ #[n,Same.new bu,ah,2]]
 .rintro s t ⟨l,xs,v3,v4,v5,q,M,hl,bA,hR,rfl⟩;rw[My,QG]at hR;exact#[7,k l xs t M hl bA hR]
def eS(r:Nat->Nat)(R B y:Nat):List Bool:=(bits B).map λz=>decide (r (qm B z.toNat y)=R)
inductive xF(Z:Hs)(vs:List V)(H:Hp)(Q:VK):Prop
 |mk(h d:Addr) (n R G B y:Nat) (p:Int) (r:Nat->Nat) (ks:List Nat) (q:Nat->Addr) (c:Nat->List Int) (_:vs=[.ref h, .int p, .ref d, .int (B:Int), .int (y:Int)]) (_:Z.ho H h n r) (_:n<=8) (_:r (2^n-1)=R) (_:R<=8) (_:bg p) (_:0<p) (_:p<=3) (_:jn H d ks q c) (_:zI p R G ks c) (_:G<2^n) (_:y<n) (_:G.testBit y=false) (_:B<2^n) (_:sz B=R) (_:(∀q' col H',Same H H'->H' q'=some (.lst (col.map V.int))->col∈dZ p (eS r R B y)->oU p R r (dI c y col) G y->Q (.ref q') H')) (_:(∀H',Same H H'->(∀col∈dZ p (eS r R B y),¬oU p R r (dI c y col) G y)->Q .non H')):xF Z vs H Q
def Ao(Z:Hs):Sp:=λvs H Q _=>xF Z vs H Q
theorem JJ(a:B<2^n)(b:y<n):qm B t y<2^n:=aM (Px (iQ _ _) a) b
theorem iL:aE [Vq,Vr,VV,"base",VF,"whole","filled",VE] UD (aq gQ):=aS
theorem vE{Z:Hs}(T:Tb K mg)(a3:df Z)(hc:∀C,Z.dom C->HC K C_House C)(D:bo K mg "column_for" gQ UD)(ay:∀C,Z.dom C->bQ P w K mg base 4 C Vm nS (dX Z C))(ai:Cal P w K mg base 5 Vu Uv (iY Z))(ax:Cal P w K mg base 2 VD UZ gK)(ar:Cal P w K mg base 2 "exchanged" U1 rq)(ag:Cal P w K mg base 1 V0 U8 (DR K))(az:Cal P w K mg base 6 "fits" UC (Hu Z)):
  Cal P w K mg base 7 "column_for" UD (Ao Z):=by
 refine D.cal iL λf cdv A outer ea H vs Q E k h=> ?_;obtain⟨h,d,n,R,G,B,y,p,r,ks,q,c,rfl,L,s,rR,R8,pm,p0,p3,hC,hK,hG,yn,c2,hB,zB,k1,k2⟩:=h;refine#[_,(ab (wset 5 iL.nd (wcal ai k (aa (pv 0) af)))
   (ab (wls 6 iL.nd ["old"] ["whole",Vq,"base",VF] [5,0,3,4] (wil K (wcal ax k (aa (pv 3) af))) (wnC 0) bW (wpe a7 (fo ay k ∅ (pv 2) (aa (wcal ar k (aa (pv 3) (aa (pv 0) (aa (pv 4) af)))) af)) (pv 1)))
   (ab (wfor (wil K (wcal ag k (aa (pv 6) (aa (pv 1) af)))) (wname 7 iL.nd)
     (aj (aZ (di (wcal az k (aa (pv 0) (aa (pv 1) (aa (pv 2) (aa (pv 4) (aa (pv 7) af)))))))
       (aj (aC (pv 7)))
       aO)))
   (aj (aC fi))))),6]
 have B8:B<256:=mh s hB;refine#[7,h,n,r,2,L,s,λH1 b3=> ?_];rw[rR];refine#[7,(B:Int),299,λpt H2 b4 d5 M=>#[pt,2,#[_,SqL.of M],6]];rw[Pj]at M;refine cf (λx=>(λ_=>true) (bJ x)) (λx=>V.bl ((λz:Int=>decide (r (qm B z.toNat y)=R)) (bJ x))) (SqL.of M) (by rw[My];exact Pr (aW _) ∅) (λj x vs H' R' S' hx hv O hk=> ?_) λD3 H3 d3 dn N=> ?_
 .obtain⟨v,rfl⟩:=bG hv;obtain⟨z,rfl,c4⟩:=bK hx;obtain⟨t,t8,tb,rfl⟩:=cQ.mp (Pq c4);simp only[bC,jg,Pd];have bt:=a3.same (b3.trans (b4.trans O)) L;obtain⟨C,dm,cS⟩:=a3.shown bt;obtain⟨dx,fs,hh,fr,fe,fm⟩:=cS.ex;refine#[7,h,C,dx,fs,2,hh,dm,fr,777,B,t,y,2,t8,96];refine#[h,n,qm B t y,r,2,bt,#[dx,fs,hh],s,JJ hB yn,λg e=> ?_];have q1:=hk [some (.int (t:Int))] g rfl e;rw[Pd rfl]at q1;refine#[726];rw[a8];exact q1
 replace N:=N.trans (Qd (λl=>some (HO.lst l)) (qQ (λz:Int=>decide (r (qm B z.toNat y)=R)) (bits B)));refine#[77,D3,eS r R B y,p,2,SqL.of N,by unfold eS;rw[My];exact aW _,p0,p3,λl xs H4 dp hl bX hR=> ?_];refine#[l,2,#[_,SqL.of bX],6];have b5:Same H H4:=b3.trans (b4.trans (dn.trans dp));have fl:(eS r R B y).length=R:=by unfold eS;rw[My];exact zB
 refine cY (K:=K) (a:=l) (xs:=xs) (λi u g=>∃v7:Option V,Same H4 g/\(∀col∈(dZ p (eS r R B y)).take i,¬oU p R r (dI c y col) G y)/\u=[xS h,yT p,xS d,yS B,yS y,yS R,xS D3,v7]) #[none,Same.refl _,λS hS=>absurd hS P7,2] (λi u g _ h=>by obtain⟨_,O,_⟩:=h;exact SqL.of (O.at bX)) ?_ ?_
 .rintro i x u g hi ⟨v7,e,o,rfl⟩;obtain⟨a,col,bM,rfl,ha⟩:=hR.at hi;have mc:=Pq bM;obtain⟨m1,m2⟩:=(iG p0 _ col).mp mc;dsimp only[bC];have U:=b5.trans e;refine#[77777,h,d,a,n,R,G,y,p,r,ks,q,c,col,2,a3.same U L,s,rR,R8,pm,p0,hC.same U,hK,hG,yn,c2,e.at ha,m1.trans fl,λz hz=> ?_,λb H6 aD hb=> ?_]
  .obtain⟨j,hj⟩:=Qm hz;have jl:j<(eS r R B y).length:=by rw[<-m1];exact(Pn.mp hj).1
   have:=m2 j _ (PF jl);rw[Ph,hj]at this;exact#[this.1,this.2.1]
  .refine#[b,2,cC (λJ=> ?_) λJ=> ?_]
   .exact#[7,k1 a col H6 (U.trans aD) (aD.at (e.at ha)) mc (hb.mp J)]
   .refine#[some (.ref a),e.trans aD,λa6 bB=> ?_,2];rw[QF,bM]at bB;rcases Pz.mp bB with m|m
    .exact o a6 m
    .have m:a6=col:=#[5,m]
     rw[m];exact λz=>J (hb.mpr z)
 .rintro u g ⟨v7,e,o,rfl⟩;rw[hR.1,QG]at o;exact k2 g (b5.trans e) o
def lq(R p:Nat):List Int:=(List.range R).map λj=>if j=p then 1 else 0
theorem oX(a:j<R):(lq R p).getD j 0=if j=p then 1 else 0:=by unfold lq;rw[Ph,PB,QD a];rfl
theorem kX(l:List Nat):(List.range l.length).map (λi=>l.getD i 0)=l:=by refine List.ext_getElem (by rw[My,Pw]) λi b a=> ?_;rw[T9,List.getElem_range];simp[a]
theorem mV(S:Nat):(ao S).Nodup:=PZ.filter _
structure lA(p:Int)(R B G:Nat)(r:Nat->Nat)(c:Nat->List Int):Prop where
 sub:Sub B G
 unit:∀i t:Nat,(ao B)[i]?=some t->c t=lq R i
 fill:∀t,G.testBit t=true->B.testBit t=false->c t∈dZ p (eS r R B t)
 good:∀S,Sub S G->sz S=R->(bE p (bz (gG c) (List.range R)) S=R↔r S=R)
theorem EK(g:bg p)(r:sz B=R)(unit:∀i t:Nat,(ao B)[i]?=some t->c t=lq R i):bE p (bz (gG c) (List.range R)) B=R:=by
 have f:(ao B).length=R:=(aP B).trans r;obtain⟨b,s,m,n⟩:=nj g (gG c) (λi=>(ao B).getD i 0) (List.range R) (List.range R) PZ PZ (λi h=>h) λi o j q=>by
  have d:i<(ao B).length:=by rw[f];exact Pf.mp o
  have e:(ao B).getD i 0=(ao B)[i]:=by simp[d]
  show(c ((ao B).getD i 0)).getD j 0=_;rw[e,unit i _ (PF d),oX (Pf.mp q)]
 have e:b=[]:=by
  cases b with
  |nil=>rfl
  |cons a l=>
   have:=(m a).mp Pt;exact absurd this.1 this.2
 have:=n [];have k:(List.range R).map (λi=>(ao B).getD i 0)=ao B:=by have:=kX (ao B);rwa[f]at this
 rwa[e,iO g,Q0,Pw,RE,k]at this
theorem KQ(d:bg p){R S y:Nat}(l:sz S=R)(k:S.testBit y=false):bE p (bz (gG (dI c y col)) (List.range R)) S=R↔bE p (bz (gG c) (List.range R)) S=R:=by
 have a:∀f:Nat->Nat->Int,(bz f (List.range R)).length=R:=λf=>by unfold bz;rw[My,Pw]
 have b:(ao S).length=R:=(aP S).trans l;show rho p _ (ao S)=R↔rho p _ (ao S)=R;rw[cI d (a _) b,cI d (a _) b,gE (ao S) (bz (gG (dI c y col)) (List.range R)) (bz (gG c) (List.range R)) (by rw[a,a]) λi j h=> ?_];by_cases g:i<R
 .have e:∀f:Nat->Nat->Int,(bz f (List.range R)).getD i rw0 j=f j i:=λf=>by unfold bz;rw[Ph,PB,QD g];rfl
  rw[e,e];have ne:¬j=y:=λz=>by have:=(aJ.mp h).2;rw[z,k]at this;cases this
  show(dI c y col j).getD i 0=(c j).getD i 0;unfold dI;rw[Pb ne]
 .rw[Ph,Ph,RN (by rw[a];lia),RN (by rw[a];lia)]
theorem lA.start(j:bg p)(a:B<256)(f:sz B=R)(l:r B=R)(unit:∀i t:Nat,(ao B)[i]?=some t->c t=lq R i):lA p R B B r c:=by refine#[Sub.refl _,unit,λt g b=>(by rw[g]at b;cases b),λS d m=> ?_];have e:S=B:=wb (d.lt (n:=8) a) a (λk _ h=>d k h) (m.trans f.symm);rw[e,EK j f unit,l]
theorem lA.put(A:bg p){R B G y:Nat}(h:lA p R B G r c)(m:G<256)(k:y<8)(g:G.testBit y=false)(s:col∈dZ p (eS r R B y))(u:oU p R r (dI c y col) G y):lA p R B (G|||2^y) r (dI c y col):=by
 have x:B.testBit y=false:=by
  cases e:B.testBit y with
  |false=>rfl
  |true=>rw[h.sub y e]at g;cases g
 have b:∀t,(G|||2^y).testBit t=true->t≠y->G.testBit t=true:=λt a ne=>by
  rw[a9,P0]at a;rcases a with z|z
  .exact z
  .exact absurd (PH z).symm ne
 refine#[λt a=>by rw[a9,h.sub t a];rfl,λi t a=> ?_,λt o q=> ?_,λS d l=> ?_]
 .have j:=(aJ.mp (Pq a)).2;have ne:¬t=y:=λz=>by rw[z,x]at j;cases j
  show dI c y col t=_;unfold dI;rw[Pb ne];exact h.unit i t a
 .show dI c y col t∈_;unfold dI;by_cases e:t=y
  .rw[Pd e,e];exact s
  .rw[Pb e];exact h.fill t (b t o e) q
 .cases e:S.testBit y with
  |false=>
   have f:Sub S G:=λt a=>b t (d t a) λz=>by rw[z,e]at a;cases a
   exact(KQ A l e).trans (h.good S f l)
  |true=>
   have f:Sub (S^^^2^y) G:=λt a=>by
    rw[c6 e,PX]at a;exact b t (d t a.1) λz=>by have:=a.2;rw[z]at this;simp at this
   have v:S<256:=Sub.lt (n:=8) d (QB (n:=8) m (RR ∅ k));have H:=gh S v y k e;have:=u (S^^^2^y) f ();rwa[fR e]at this
def uN(n:Nat)(r:Nat->Nat):List Nat:=(List.range (2^n)).filter λs=>decide (r s=sz s)
def oT(n:Nat)(r:Nat->Nat):List Nat:=(uN n r).filter λs=>decide (sz s=r (2^n-1))
inductive xE(Z:Hs)(vs:List V)(H:Hp)(Q:VK):Prop
 |mk(a:Addr) (n:Nat) (r:Nat->Nat) (_:vs=[.ref a]) (_:Z.ho H a n r) (_:n<=8) (_:∀p H',Same H H'->H p=none->H' p=some (.lst ((cB (uN n r)).map V.int))->Q (.ref p) H'):xE Z vs H Q
def An(Z:Hs):Sp:=λvs H Q _=>xE Z vs H Q
inductive xG(Z:Hs)(vs:List V)(H:Hp)(Q:VK):Prop
 |mk(a:Addr) (n:Nat) (r:Nat->Nat) (_:vs=[.ref a]) (_:Z.ho H a n r) (_:n<=8) (_:∀p H',Same H H'->H p=none->H' p=some (.lst ((cB (oT n r)).map V.int))->Q (.ref p) H'):xG Z vs H Q
def Ap(Z:Hs):Sp:=λvs H Q _=>xG Z vs H Q
theorem C8(a:n<=8)(r:Nat->Nat):(uN n r).length<=256:=Pr (QU _ _) (by rw[Pw];exact qN a)
theorem HE:aE Uv Uv (aq pH):=aS
theorem IL{Z:Hs}(t:df Z)(b:∀C,Z.dom C->HC K C_House C)(D:bo K mg "frees" pH Uv)(ar:∀C,Z.dom C->bQ P w K mg base 4 C Vm nS (dX Z C))(ag:∀C,Z.dom C->bQ P w K mg base 2 C Vj U0 (d8 K))(ai:Cal P w K mg base 3 "parts" UZ sy)(ax:Cal P w K mg base 3 V5 UZ kU):Cal P w K mg base 5 "frees" Uv (An Z):=by
 refine D.cal HE λf cdv A outer b8 H vs Q E c h=> ?_;obtain⟨a,n,r,rfl,J,O,k⟩:=h;refine#[_,(aj (aC (wlc UZ Uv [0] (wil K (wcal ai c (aa (fC ag c ∅ (pv 0)) af))) (wnC 0) (ee (wpt a7 (fo ar c ∅ (pv 1) (aa (pv 0) af)) (wcal ax c (aa (pv 0) af)))) (pv 0)))),6];obtain⟨C,u,bB⟩:=t.shown J;obtain⟨y,fs,M,fr,fe,fm⟩:=bB.ex;obtain⟨cl,nM,_,_⟩:=b C u;have hp:=qN O;refine#[7,a,C,y,fs,2,M,u,fe,a,C,y,fs,n,2,M,cl,nM,fm,996];rw[je];refine#[799,λp H1 o b7 j=>#[p,2,#[_,SqL.of j],6]];rw[Pj,qP n ()]at j;refine cf (λx=>(λz:Int=>decide (r z.toNat=sz z.toNat)) (bJ x)) (λx=> .int ((λz:Int=>z) (bJ x))) (SqL.of j) (by rw[My,My,Pw];exact Pr hp ∅) (λi x vs H' R S hx hv m hk=> ?_) λD H' hD m hl=> ?_
 .obtain⟨v,rfl⟩:=bG hv;obtain⟨z,rfl,hz⟩:=bK hx;obtain⟨s,hs,rfl⟩:=Pl.mp (Pq hz);have bA:=Pf.mp hs;have L:=t.same (o.trans m) J;obtain⟨U,a4,bM⟩:=t.shown L;obtain⟨B,G,N,bk,b5,b6⟩:=bM.ex;refine#[7,a,U,B,G,2,N,a4,bk,7,a,n,s,r,2,L,#[B,G,N],O,bA,λH2 b1=> ?_];refine#[7799,λg b2=>#[276]];have q:=hk [some (.int (s:Int))] g rfl (b1.trans b2);rw[Pj,a8];have d:if decide (r s=sz s)=true then R (.int (s:Int)) _ g else S _ g:=q;show if decide (r s=sz s)=true then _ else _;by_cases b:decide (r s=sz s)=true
  .rw[Pd b]at d⊢;exact#[7,d]
  .rw[Pb b]at d⊢;exact d
 replace hl:=hl.trans (Qd (λl=>some (HO.lst l)) (bO (λz:Int=>decide (r z.toNat=sz z.toNat)) (λz:Int=>z) ((List.range (2^n)).map λk:Nat=>(k:Int))));rw[show(λz:Int=>z)=id from rfl,RX]at hl;refine k D H' (o.trans m) (o.free hD) (hl.trans ?_);have e:=fQ (List.range (2^n)) (λz:Int=>decide (r z.toNat=sz z.toNat));exact Qd (λl:List Int=>some (HO.lst (l.map V.int))) e
theorem Au:aE [Vq,"whole"] Uv (aq pI):=aS
theorem IM(ay:df Z)(D:bo K mg "bases" pI Uv)(y:Cal P w K mg base 5 Vu Uv (iY Z))(B:Cal P w K mg base 5 "frees" Uv (An Z))(G:Cal P w K mg base 3 V5 UZ kU):Cal P w K mg base 6 "bases" Uv (Ap Z):=by
 refine D.cal Au λf cdv A outer a4 H vs Q E e h=> ?_;obtain⟨a,n,r,rfl,j,b,k⟩:=h;refine#[_,(ab (wset 1 Au.nd (wcal y e (aa (pv 0) af)))
   (aj (aC (wlc UZ ["whole"] [1] (wil K (wcal B e (aa (pv 0) af))) (wnC 0) (ee (wpt a7 (wcal G e (aa (pv 0) af)) (pv 1))) (pv 0))))),6]
 have hp:=qN b;refine#[7,a,n,r,2,j,b,λH0 g=> ?_];refine#[7,a,n,r,2,ay.same g j,b,λp H1 u a0 o=>#[p,2,#[_,SqL.of o],6]];refine cf (λx=>(λz:Int=>decide (sz z.toNat=r (2^n-1))) (bJ x)) (λx=> .int ((λz:Int=>z) (bJ x))) (SqL.of o) (by rw[My,cq];exact Pr (C8 b r) ∅) (λi x vs H' R S O N t L=> ?_) λD H' J t hl=> ?_
 .obtain⟨v,rfl⟩:=bG N;obtain⟨z,rfl,U⟩:=bK O;obtain⟨s,M,rfl⟩:=eZ (Pq U);have a3:=Pf.mp (PV.mp M).1;refine#[7799,λd ax=>#[7276]];have q:=L [some (.int (s:Int))] d rfl ax;rw[Pj,a8];have c:if decide (sz s=r (2^n-1))=true then R (.int (s:Int)) _ d else S _ d:=q;show if decide (sz s=r (2^n-1))=true then _ else _;by_cases m:decide (sz s=r (2^n-1))=true
  .rw[Pd m]at c⊢;exact#[7,c]
  .rw[Pb m]at c⊢;exact c
 replace hl:=hl.trans (Qd (λl=>some (HO.lst l)) (bO (λz:Int=>decide (sz z.toNat=r (2^n-1))) (λz:Int=>z) (cB (uN n r))));rw[show(λz:Int=>z)=id from rfl,RX,fQ]at hl;exact k D H' (g.trans (u.trans t)) (g.free (u.free J)) hl
theorem oK:B∈oT n r↔B<2^n/\r B=sz B/\sz B=r (2^n-1):=by unfold oT uN;rw[PV,PV,Pf,PD,PD,and_assoc]
theorem rO(M:Mat n r):∃B,B∈oT n r:=by obtain⟨g,_,c,a,d⟩:=M.extend (s:=0) (t:=2^n-1) (λk b=>by rw[P4]at b;cases b) (aH n) (by rw[M.zero,c7]);exact#[g,oK.mpr #[c.lt (aH n),a,a.symm.trans d]]
theorem jn.put{f:List Nat}(h:jn H d f q c){col:List Int}(l:t∉f)(y:f.length<=8)(i:H a=some (.lst (col.map V.int))):
  ∃o,GL H d (.int (t:Int)) (.ref a) (upd H d o)/\jn (upd H d o) d (f++[t]) (λs=>if s=t then a else q s) (dI c t col):=by
 have n:K3 (f.map λt:Nat=>((t:Int),V.ref (q t))) (t:Int) (.ref a)=(f++[t]).map λs:Nat=>((s:Int),V.ref (if s=t then a else q s)):=by
  unfold K3;rw[Pb (λz=>by
   obtain⟨x,u,e⟩:=RV.mp z;obtain⟨s,g,rfl⟩:=Pl.mp u;have A:(s:Int)=(t:Int):=PH e;have p:s=t:=()
   exact l (p▸g)),Qs]
  have r:f.map (λt:Nat=>((t:Int),V.ref (q t)))=f.map λs:Nat=>((s:Int),V.ref (if s=t then a else q s)):=Qt λs g=>by have:¬s=t:=λz=>l (z▸g);rw[Pb this]
  rw[r];show _=_++[((t:Int),V.ref (if t=t then a else q t))];rw[Pd rfl]
 have p1:=GL.k (v:= .ref a) (k:=Sum.inl (t:Int)) h.dict (by unfold nU;rw[My,My];exact Px y ∅);rw[MX,n]at p1;have m:∀b xs,H b=some (.lst xs)->b≠d:=λb xs e=>jK e h.dict (λz=>by cases z);refine#[_,p1,ah,λs g=> ?_];show upd H d _ (if s=t then a else q s)=some (.lst ((dI c t col s).map V.int));unfold dI;by_cases e:s=t
 .rw[Pd e,Pd e,aA (m a _ i)];exact i
 .have j:s∈f:=by
   rcases Pz.mp g with z|z
   .exact z
   .exact absurd (PR.mp z) e
  rw[Pb e,Pb e,aA (m _ _ (h.cols s j))];exact h.cols s j
def iz(c:Nat->List Int)(n R:Nat):List (List Int):=(List.range R).map λi=>(List.range n).map λt=>(c t).getD i 0
inductive xh(vs:List V)(H:Hp)(Q:VK):Prop
 |mk(n p:Nat) (_:vs=[.int (n:Int), .int (p:Int)]) (_:n<=8) (_:∀q H',Same H H'->H q=none->H' q=some (.lst ((lq n p).map V.int))->Q (.ref q) H'):xh vs H Q
def Ai:Sp:=λvs H Q _=>xh vs H Q
inductive xf(Z:Hs)(vs:List V)(H:Hp)(Q:VK):Prop
 |mk(h:Addr) (n R:Nat) (p:Int) (r:Nat->Nat) (_:vs=[.ref h, .int p]) (_:Z.ho H h n r) (_:Mat n r) (_:r (2^n-1)=R) (_:bg p) (_:0<p) (_:p<=3) (_:(∀B c l xs H',Same H H'->H l=none->H' l=some (.lst xs)->aQ (hide H' l) xs (iz c n R)->(∀x∈xs,∃a,x= .ref a/\H a=none)->B<2^n->sz B=R->r B=R->lA p R B (2^n-1) r c->(∀t,t<n->(c t).length=R/\∀z∈c t,0<=z/\z<p)->Q (.ref l) H')) (_:(∀B G y c H',Same H H'->B<2^n->sz B=R->r B=R->G<2^n->y<n->G.testBit y=false->lA p R B G r c->(∀col∈dZ p (eS r R B y),¬oU p R r (dI c y col) G y)->Q .non H')):xf Z vs H Q
def Ag(Z:Hs):Sp:=λvs H Q _=>xf Z vs H Q
theorem dA:aE [Vq,Vr,"base","whole",VV,"place",VF,VE] Vb (aq i6):=aS
theorem yC{Z:Hs}(T:Tb K mg)(bu:df Z)(hc:∀C,Z.dom C->HC K C_House C)(D:bo K mg "table_for" i6 Vb)(ag:∀C,Z.dom C->bQ P w K mg base 2 C Vj U0 (d8 K))(ai:Cal P w K mg base 5 Vu Uv (iY Z))(ar:Cal P w K mg base 2 VD UZ gK)(aD:Cal P w K mg base 1 "less" UW qH)(az:Cal P w K mg base 6 "bases" Uv (Ap Z))(ay:Cal P w K mg base 1 "single" U5 Ai)(ax:Cal P w K mg base 7 "column_for" UD (Ao Z)):
  Cal P w K mg base 8 "table_for" Vb (Ag Z):=by
 refine D.cal dA λf cdv A outer j1 H vs Q E J h=> ?_;obtain⟨h,n,R,p,r,rfl,hX,M,rR,pm,p0,p3,k1,k2⟩:=h;refine#[_,(ab (wset 2 dA.nd (cG K (wcal az J (aa (pv 0) af)) ae))
   (ab (wset 3 dA.nd (wcal ai J (aa (pv 0) af)))
   (ab (wset 4 dA.nd Iu)
   (ab (wfor (ue (K:=K) ⋯ ⋯ T.enumerate_ (aa (wcal ar J (aa (pv 2) af)) af)) (sI (K:=K) (n:=2) ⋯ ⋯ (jd (wname 5 dA.nd) (jd (wname 6 dA.nd) sH)))
     (aj (D1 (Px (SG ∅ _) J.units) (pv 4) (pv 6) (wcal ay J (aa (pv 3) (aa (pv 5) af))) ⋯)))
   (ab (wfor (wil K (wcal ar J (aa (wcal aD J (aa (fC ag J ∅ (pv 0)) (aa (pv 2) af))) af))) (wname 6 dA.nd)
     (ab (wset 7 dA.nd (wcal ax J (aa (pv 0) (aa (pv 1) (aa (pv 4) (aa (pv 2) (aa (pv 6) af)))))))
     (ab (aZ (wpt Nk (pv 7) fi)
       (aj (aC fi))
       aO)
     (aj (D1 (Px (SG ∅ _) J.units) (pv 4) (pv 6) (pv 7) ⋯)))))
   (aj (aC (wlc [Wf] [VV,Vq] [4,0] (wrng T.range_ (pv 3)) (wnC 0) bW (wlc [VF] [Wf,VV] [0,1] (wrng T.range_ (wfld K (pv 2))) (wnC 0) bW (cG K (Eb (Px (SG ∅ _) J.units) (pv 2) (pv 0) (by intro _ _;rfl)) (pv 1))))))))))),6]
 have n8:=M.n8;have hp:=qN n8;have R8:R<=8:=by have:=M.lu (2^n-1) (aH n);have h2:sz (2^n-1)<=8:=aW _;lia
 refine#[7,h,n,r,2,hX,n8,λpb H1 c1 iW gi=> ?_];obtain⟨B,Bs,eB⟩:∃B Bs,oT n r=B::Bs:=by
  obtain⟨g,hg⟩:=rO M;cases e:oT n r with
  |nil=>rw[e]at hg;exact absurd hg P7
  |cons B Bs=>exact#[B,Bs,2]
 obtain⟨hB,hP,hZ⟩:=oK.mp (eB▸Pt:B∈oT n r);have zB:sz B=R:=hZ.trans rR;have rB:r B=R:=hP.trans zB;have B8:B<256:=mh n8 hB;refine#[pb,3,SqL.of gi,by rw[eB];exact mE (j:=0) rfl,6];refine#[7,h,n,r,2,bu.same c1 hX,n8,λH2 bB=> ?_];rw[rR];intro d hd;have hQ:Same H (upd H2 d (.dK [])):=c1.trans (bB.trans (Same.new hd));have d0:H d=none:=c1.free (bB.free hd);refine#[7,(B:Int),299,λpt H3 ei i1 cK=>#[pt,2,#[_,cK],6]];rw[Pj]at cK;refine Bl (K:=K) (a:=pt) (xs:=(bits B).map V.int) (λi U H4=>∃(q:Nat->Addr)(c:Nat->List Int)(O v6:Option V),Same H H4/\H4 pt=some (.lst ((bits B).map V.int))/\jn H4 d ((ao B).take i) q c/\(∀j t:Nat,j<i->(ao B)[j]?=some t->c t=lq R j)/\U=[xS h,yT p,yS B,yS R,xS d,O,v6,none])
  #[λ_=>0,λ_=>[],none,none,hQ.trans ei,cK,#[ei.at ah,λt k=>absurd k P7],λj t l=>absurd l (Sl _),2] (λi U H4 _ h=>by obtain⟨_,_,_,_,_,e,_⟩:=h;exact SqL.of e) ?_ ?_
 .rintro i x t0 U H4 N ho ⟨q,c,O,v6,cm,d5,b7,hu,rfl⟩;obtain⟨z,rfl,m⟩:=bK N;obtain⟨t,k,rfl⟩:∃t:Nat,(ao B)[i]?=some t/\z=(t:Int):=by unfold bits at m;rw[PB]at m;obtain⟨t,k,e⟩:=S4.mp m;exact#[t,k,e.symm]
  have c2:Same H4 (upd H4 t0 (.tup [.int (i:Int), .int (t:Int)])):=Same.new ho;refine#[t0,7,SqT.of ah,21786];refine#[77,R,i,2,R8,λqa H5 bM hq b1=> ?_];have dt:=b7.same (c2.trans bM);have nd:=mV B;have il:i<(ao B).length:=(Pn.mp k).1;have tn:t∉ (ao B).take i:=λhm=>by
   obtain⟨j,l⟩:=Qm hm;have jl:j<i:=by have:=(Pn.mp l).1;rw[P6]at this;lia
   rw[RC jl]at l;have:=(SY () nd).mp (l.trans k.symm);lia
  obtain⟨o,g1,g2⟩:=dt.put tn (by rw[P6,aP];lia) b1;refine#[77,d,7,g1,6];have d7:=bM.at (c2.at d5);refine#[11,some (.int (i:Int)),some (.int (t:Int)),(cm.trans (c2.trans bM)).upd d0,6,by rw[QF,k];exact g2,λj s l hs=> ?_,2]
  .rw[aA (jK d7 dt.dict λz=>by cases z)];exact d7
  .unfold dI;by_cases e:j=i
   .subst e;rw[k]at hs;cases hs;rw[Pd rfl]
   .have ne:¬s=t:=λz=>by rw[z]at hs;exact e ((SY (by have:=(Pn.mp hs).1;lia) nd).mp (hs.trans k.symm))
    rw[Pb ne];exact hu j s () hs
 .rintro U H4 ⟨q,c,O,v6,cm,d5,b7,hu,rfl⟩;have el:((bits B).map V.int).length=(ao B).length:=by rw[My];unfold bits ao;rw[My]
  rw[el,QG]at b7;have lB:(ao B).length=R:=(aP B).trans zB;have cN:∀i t:Nat,(ao B)[i]?=some t->c t=lq R i:=λi t k=>hu i t (by rw[el];exact(Pn.mp k).1) k;have hR:lA p R B B r c:=lA.start pm B8 zB rB cN;have ul:∀i,(lq R i).length=R:=λi=>by unfold lq;rw[My,Pw]
  have hM:zI p R B (ao B) c:=#[λt=>#[λk=>(aJ.mp k).2,λk=>aJ.mpr #[by have:=bw hB k;lia,k]],mV B,λt k=>by
   obtain⟨i,N⟩:=Qm k;rw[cN i t N,ul],λt k z m=>by
   obtain⟨i,N⟩:=Qm k;rw[cN i t N]at m;unfold lq at m;obtain⟨j,_,rfl⟩:=Pl.mp m;have:1<p:=by
    by_cases e:p=1
    .exact absurd (by rw[e];exact Int.dvd_refl 1) pm.one
    .lia
   split<;>lia]
  have fI:=bu.same cm hX;obtain⟨C,dm,gz⟩:=bu.shown fI;obtain⟨dx,fs,hh,fr,fe,fm⟩:=gz.ex;obtain⟨eN,nM,_,_⟩:=hc C dm;refine#[7,h,C,dx,fs,2,hh,dm,fe,h,C,dx,fs,n,2,hh,eN,nM,fm,996];rw[je];have ll:aw (2^n-1) B<2^n:=j5;refine#[7,2^n-1,B,2,((aw (2^n-1) B:Nat):Int),299,λpl H5 bM i0 b1=>#[pl,2,#[_,SqL.of b1],6]];rw[Pj]at b1;have lb:∀t,(aw (2^n-1) B).testBit t=true↔t<n/\B.testBit t=false:=λt=>by rw[aI,PY];cases B.testBit t<;>simp
  refine cY (K:=K) (a:=pl) (xs:=(bits (aw (2^n-1) B)).map V.int) (λi U H6=>∃(G:Nat)(L:List Nat)(q:Nat->Addr)(c:Nat->List Int)(O v6 v7:Option V),Same H H6/\H6 pl=some (.lst ((bits (aw (2^n-1) B)).map V.int))/\jn H6 d L q c/\zI p R G L c/\lA p R B G r c/\(∀t:Nat,G.testBit t=true↔B.testBit t=true\/(t:Int)∈(bits (aw (2^n-1) B)).take i)/\U=[xS h,yT p,yS B,yS R,xS d,O,v6,v7])
   #[B,ao B,q,c,O,v6,none,cm.trans bM,b1,b7.same bM,hM,hR,λt=>#[5],2] (λi U H6 _ h=>by obtain⟨_,_,_,_,_,_,_,_,e,_⟩:=h;exact SqL.of e) ?_ ?_
  .rintro i x U H6 N ⟨G,L,q,c,O,v6,v7,a3,d3,b8,u,cn,gb,rfl⟩;obtain⟨z,rfl,m⟩:=bK N;obtain⟨y,y8,yb,rfl⟩:=cQ.mp (Pq m);obtain⟨yn,yB⟩:=(lb y).mp yb;have hG:G<2^n:=RO _ λt k=>by
    cases e:G.testBit t with
    |false=>rfl
    |true=>
     rcases(gb t).mp e with g|g
     .have:=bw hB g;lia
     .obtain⟨t',_,tb,e2⟩:=cQ.mp (R6 g);have:t=t':=()
      have:=((lb t).mp (this▸tb)).1;lia
   have il:i<(bits (aw (2^n-1) B)).length:=(Pn.mp m).1;have yG:G.testBit y=false:=by
    cases e:G.testBit y with
    |false=>rfl
    |true=>
     rcases(gb y).mp e with g|g
     .rw[yB]at g;cases g
     .obtain⟨j,l⟩:=Qm g;have jl:j<i:=by have:=(Pn.mp l).1;rw[P6]at this;lia
      rw[RC jl]at l;have:=(SY () (ve _)).mp (l.trans m.symm);lia
   dsimp only[bC];refine#[77777,h,d,n,R,G,B,y,p,r,L,q,c,2,bu.same a3 hX,n8,rR,R8,pm,p0,p3,b8,u,hG,yn,yG,hB,zB,λqa col H7 b3 hq dE fW=> ?_,λH7 b3 gy=> ?_]
   .refine#[727,cC (λhn=>(nomatch PH hn)) λ_=> ?_];have dv:=b8.same b3;have tn:y∉L:=λz=>by rw[(u.keys y).mp z]at yG;cases yG
    have kl:L.length<=8:=by have:=dM (a:=L) (b:=List.range 8) u.nod (λt k=>Pf.mpr (by have:=bw hG ((u.keys t).mp k);lia));rwa[Pw]at this
    obtain⟨o,g1,g2⟩:=dv.put tn kl hq;refine#[777,d,7,g1,6];have d4:=b3.at d3;obtain⟨m1,m2⟩:=(iG p0 _ col).mp dE;have fl:(eS r R B y).length=R:=by unfold eS;rw[My];exact zB
    refine#[G|||2^y,L++[y],_,dI c y col,O,some (.int (y:Int)),some (.ref qa),(a3.trans b3).upd d0,6,g2,6,cn.put pm (mh n8 hG) y8 yG dE fW,λt=> ?_,2]
    .rw[aA (jK d4 dv.dict λz=>by cases z)];exact d4
    .refine#[λt=> ?_,6,λt k=> ?_,λt k=> ?_]
     .rw[Pz,PR,a9,P0,PD,u.keys t];exact Sx TK
     .rw[RB];exact#[u.nod,#[5],λa ha b hb e=>by rw[PR]at hb;exact tn (hb▸e▸ha)]
     .unfold dI;by_cases e:t=y
      .rw[Pd e];exact m1.trans fl
      .rw[Pb e];exact u.len t (by rcases Pz.mp k with z|z;exact z;exact absurd (PR.mp z) e)
     .unfold dI;by_cases e:t=y
      .rw[Pd e];intro z m;obtain⟨j,l⟩:=Qm m;have jl:j<(eS r R B y).length:=by rw[<-m1];exact(Pn.mp l).1
       have:=m2 j _ (PF jl);rw[Ph,l]at this;exact#[this.1,this.2.1]
      .rw[Pb e];exact u.num t (by rcases Pz.mp k with z|z;exact z;exact absurd (PR.mp z) e)
    .rw[a9,P0,PD,gb t,QF,m,Pz,or_assoc];refine Sx (Sx ?_);show y=t↔(t:Int)∈[(y:Int)];rw[PR];lia
   .exact#[727,cC (λ_=>k2 B G y c H7 (a3.trans b3) hB zB rB hG yn yG cn gy) λhn=>absurd (Pe rfl) hn]
  .rintro U H6 ⟨G,L,q,c,O,v6,v7,a3,d3,b8,u,cn,gb,rfl⟩;have eG:G=2^n-1:=PC λt=>by
    rw[PY];have:=gb t;rw[My,QG]at this;cases e:G.testBit t with
    |true=>
     rcases this.mp e with g|g
     .exact(Pe (bw hB g)).symm
     .obtain⟨t',_,tb,e2⟩:=cQ.mp g;have e3:t=t':=()
      exact(Pe ((lb t).mp (e3▸tb)).1).symm
    |false=>
     by_cases tn:t<n
     .exfalso;have:G.testBit t=true:=this.mpr (by
       cases e4:B.testBit t with
       |true=>exact .inl rfl
       |false=>exact .inr ((qd ()).mpr ((lb t).mpr #[tn,e4])))
      rw[e]at this;cases this
     .rw[Pc tn]
   subst eG;have cO:∀t,t<n->t∈L:=λt k=>(u.keys t).mpr (by rw[PY];exact Pe k);have fU:=bu.same a3 hX;refine#[77996];rw[Pj];refine F4 (λi y Hh=>∃a,y= .ref a/\H6 a=none/\Hh a=some (.lst (((List.range n).map λt=>(c t).getD i 0).map V.int))) (λi y Ha Hb e ⟨a,h1,h0,h2⟩=>#[a,h1,h0,e.at h2]) (Pr R8 ∅) (λi vs D H' Rk S N hv sm hD hk=> ?_) λD H' ys hD sm hl eb ec=> ?_
   .obtain⟨v,rfl⟩:=bG hv;simp only[bC,jg,Pd];have fB:=bu.same sm fU;obtain⟨C',eR,gN⟩:=bu.shown fB;obtain⟨eW,fu,f3,iv,ij,fp⟩:=gN.ex;obtain⟨eP,hL,_,_⟩:=hc C' eR;refine#[7,h,C',eW,fu,7,f3,eP,hL,fp,7996];rw[Pj];obtain⟨dl,fy⟩:=hD;refine gC (λ_=>true) (λt=> .int ((c t).getD i 0)) (Pr n8 ∅) (λt j0 ep R2 S2 k hA bB gd=> ?_) λD2 es cE bB gj=> ?_
    .obtain⟨v2,rfl⟩:=bG hA;simp only[bC,jg,Pd];have q2:=gd [some (.int (0+(t:Nat)))] ep rfl (Same.refl _);rw[Pd rfl]at q2;have tk:=cO t k;have dr:=b8.same (sm.trans bB);have ci:i<(c t).length:=by rw[u.len t tk];exact N
     refine#[77,d,7,by have:=dr.get tk;rw[QO];exact this,6];refine#[7,q t,3,SqL.of (dr.cols t tk),by rw[QO];exact cj ci,q2]
    .refine hk (.ref D2) [some (.int (0+(i:Nat)))] es #[D2,2,sm.free cE,6] rfl bB;have nD:D2≠D:=λz=>by rw[z,fy]at cE;cases cE
     rw[de nD,gj];unfold ik;rw[QW.mpr (λ_ _=>rfl),P8];rfl
   .refine k1 B c D ys H' (a3.trans sm) (a3.free hD) hl ?_ (λx hx=> ?_) hB zB rB cn λt k=>#[u.len t (cO t k),u.num t (cO t k)]
    .refine aQ.of (by rw[eb];unfold iz;rw[My,Pw]) λj rr y h1 h2=> ?_;obtain⟨a,rfl,h0,h3⟩:=ec j y h2;have jl:j<R:=by rw[<-eb];exact(Pn.mp h2).1
     unfold iz at h1;rw[PB,QD jl]at h1;cases h1;exact#[a,2,h3]
    .obtain⟨j,l⟩:=Qm hx;obtain⟨a,rfl,h0,_⟩:=ec j x l;exact#[a,2,a3.free h0]
theorem HP{n:Nat}{r:Nat->Nat}(M:Mat n r):Dv n r where
 le:=M.lu
 mono:=λs t _ ht h=>M.mono (o5.mp h) ht
 unit:=λs c=>by have d:=M.yR (x:=aw (2^n-1) s) (b:=2^n-1) (λk a=>by rw[aI,PX]at a;exact a.1) (aH n);have e:=oZ M.n8 c;have f:=oZ M.n8 (aH n);lia
theorem Ek{n k w:Nat}(g:k<2^n)(h:Sub w (aw (2^n-1) k)):aw (2^n-1) (aw (aw (2^n-1) k) w|||w)=k:=PC λt=>by
 have a:=h t;rw[aI]at a;rw[aI,PN,aI,aI];by_cases c:t<n
 .have e:(2^n-1).testBit t=true:=by rw[PY];exact Pe c
  rw[e]at a⊢;cases f:k.testBit t<;>cases d:w.testBit t<;>rw[f]at a<;>first|rfl|exact absurd (a d) ∅
 .have e:(2^n-1).testBit t=false:=by rw[PY];exact Pc c
  have b:k.testBit t=false:=by
   cases b:k.testBit t with
   |false=>rfl
   |true=>exact absurd (bw g b) c
  rw[e,b];rfl
inductive EF(Z:Hs)(vs:List V)(H:Hp)(Q:VK):Prop
 |mk(h:Addr) (n m d:Nat) (kd:Str) (r:Nat->Nat) (_:vs=[.ref h, .str kd, .int (m:Int), .int (d:Int)]) (_:Z.ho H h n r) (_:Mat n r) (_:(∀k w t H',Same H H'->H t=none->H' t=some (.tup [.str V8, .int (aw (aw (2^n-1) k) w:Nat), .int (w:Int), .str kd])->k<2^n->Sub w (aw (2^n-1) k)->eQ (sz k) (cJ r k w)= .str kd->Q (.ref t) H')) (_:(∀H',Same H H'->(∀k w,k<2^n->sz k=m->Sub w (aw (2^n-1) k)->((sz w:Nat):Int)=(r (2^n-1):Nat) - (d:Nat)->¬eQ (sz k) (cJ r k w)= .str kd)->Q .non H')):EF Z vs H Q
def Hq(Z:Hs):Sp:=λvs H Q _=>EF Z vs H Q
theorem fv:aE [Vq,"kind",Vi,Vm,"kept","rest",Wc,"out"] UQ (aq f6):=aS
theorem ur{Z:Hs}(T:Tb K mg)(L:df Z)(hc:∀C,Z.dom C->HC K C_House C)(D:bo K mg "left_barred" f6 UQ)(hj:5<=j)(ag:∀C,Z.dom C->bQ P w K mg base 2 C Vj U0 (d8 K))(ar:Cal P w K mg base 5 Vu Uv (iY Z))(ai:Cal P w K mg base 4 VW Ve kA)(ax:Cal P w K mg base 1 "less" UW qH)(az:kR P w K mg base 5 "Minor" cM UJ (tR Z cM))(ay:Cal P w K mg base (j+1) "kind_of" Uv (Ak (qi Z cM))):
  Cal P w K mg base (j+2) "left_barred" UQ (Hq Z):=by
 refine D.cal fv λf cdv A outer ej H vs Q E p h=> ?_;obtain⟨h,n,m,d,kd,r,rfl,hX,M,k1,k2⟩:=h;refine#[_,(ab (wfor (wil K (wcal ai p (aa (fC ag p () (pv 0)) (aa (pv 2) af)))) (wname 4 fv.nd)
     (ab (wset 5 fv.nd (wcal ax p (aa (fC ag p () (pv 0)) (aa (pv 4) af))))
     (aj (wfor (wil K (wcal ai p (aa (pv 5) (aa (aB gs (wcal ar p (aa (pv 0) af)) (pv 3)) af)))) (wname 6 fv.nd)
       (ab (wset 7 fv.nd (wcal ax p (aa (pv 5) (aa (pv 6) af))))
       (aj (aZ (wpt a7 (wcal ay p (aa (iF az p () ⋯ (aa (pv 0) (aa (pv 7) (aa (pv 6) af)))) af)) (pv 1))
         (aj (aC (kg (aa dU (aa (pv 7) (aa (pv 6) (aa (pv 1) af)))))))
         aO)))))))
   (aj (aC fi))),6]
 have U:=M.n8;have hp:=qN U;have eh:0<2^n:=Q9 ();obtain⟨C,dm,dE⟩:=L.shown hX;obtain⟨O,fs,hh,fr,fe,fm⟩:=dE.ex;obtain⟨cb,nM,_,_⟩:=hc C dm;refine#[7,h,C,O,fs,2,hh,dm,fe,h,C,O,fs,n,2,hh,cb,nM,fm,996];rw[je];refine#[7,((2^n-1:Nat):Int),(m:Int),299,λpc H1 c4 ec bB=>#[pc,2,#[_,SqL.of bB],6]];rw[Pj]at bB;refine cY (K:=K) (a:=pc) (xs:=(fH (2^n-1) (m:Int)).map V.int) (λi v y=>∃v4 v5 q u:Option V,Same H1 y/\(∀k w:Nat,(k:Int)∈(fH (2^n-1) (m:Int)).take i->Sub w (aw (2^n-1) k)->((sz w:Nat):Int)=(r (2^n-1):Nat) - (d:Nat)->¬eQ (sz k) (cJ r k w)= .str kd)/\v=[xS h,some (.str kd),yS m,yS d,v4,v5,q,u])
  #[none,none,none,none,Same.refl _,λk w G=>absurd G P7,2] (λi v y _ h=>by obtain⟨_,_,_,_,sm,_⟩:=h;exact SqL.of (sm.at bB)) ?_ ?_
 .rintro i x v y hi ⟨v4,v5,q,u,aD,bt,rfl⟩;obtain⟨z,rfl,hz⟩:=bK hi;obtain⟨k,rfl,G,zk⟩:=(gB ()).mp (Pq hz);have J:k<2^n:=G.lt (aH n);have ei:sz k=m:=()
  dsimp only[bC];have b2:=c4.trans aD;have ct:=b2.at hh;refine#[7,h,C,O,fs,2,ct,dm,fe,h,C,O,fs,n,2,ct,cb,nM,fm,996];rw[je];have ll:aw (2^n-1) k<2^n:=j5;refine#[7,2^n-1,k,26];refine#[77,h,n,r,2,L.same b2 hX,U,λH3 c5=> ?_];refine#[78,((aw (2^n-1) k:Nat):Int),(r (2^n-1):Nat) - (d:Nat),299,λpd H4 da ed bM=>#[pd,2,#[_,SqL.of bM],6]];rw[Pj]at bM;have d3:=b2.trans (c5.trans da);have l8:aw (2^n-1) k<256:=()
  refine cY (K:=K) (a:=pd) (xs:=(fH (aw (2^n-1) k) ((r (2^n-1):Nat) - (d:Nat):Int)).map V.int) (λi' v B=>∃q u:Option V,Same H4 B/\(∀w:Nat,(w:Int)∈(fH (aw (2^n-1) k) ((r (2^n-1):Nat) - (d:Nat):Int)).take i'->¬eQ (sz k) (cJ r k w)= .str kd)/\v=[xS h,some (.str kd),yS m,yS d,yS k,some (.int (aw (2^n-1) k:Nat)),q,u])
   #[q,u,Same.refl _,λw g=>absurd g P7,2] (λi' v B _ h=>by obtain⟨_,_,sm,_⟩:=h;exact SqL.of (sm.at bM)) ?_ ?_
  .rintro i' x v B dy ⟨q,u,a0,bu,rfl⟩;obtain⟨z,rfl,cO⟩:=bK dy;obtain⟨c,rfl,g,N⟩:=(gB l8).mp (Pq cO);have wl:c<2^n:=g.lt ll;dsimp only[bC];refine#[77,aw (2^n-1) k,c,26];have b3:=d3.trans a0;have cp:=L.same b3 hX;refine#[777,λpo cg bX c1 ef=>#[po,cg,h,n,aw (aw (2^n-1) k) c,c,r,2,ah,L.same (fN bX c1) cp,U,wl,λH6 d2 cE=>#[26]]];rw[Ek J g]at cE;have a3:Same B H6:=λb o e=>d2 b o (by rw[aA (au e bX),aA (au e c1)];exact e) (au e bX);have hM:OK cM H6 (Z.ho H6) po (sz k) (cJ r k c):=#[cg,h,n,k,c,r,cE,L.same a3 cp,2,U,J,wl,λs _=>M.min_int J wl s];refine#[po,sz k,cJ r k c,2,hM,aW _,HP (M.minor J wl),λH7 b4=> ?_];have fl:scal (eQ (sz k) (cJ r k c)) (.str kd)=true:=by
    unfold eQ;split
    .rfl
    split
    .rfl
    split
    .rfl
    split
    .rfl
    split<;>rfl
   refine#[7,fl,7,cC (λh1=> ?_) λh1=> ?_]
   .have e1:eQ (sz k) (cJ r k c)= .str kd:=PH h1;refine#[777,Pr (Pu 4) ∅,λt ht=> ?_];exact k1 k c t _ ((b3.trans (a3.trans b4)).trans (Same.new ht)) ((b3.trans (a3.trans b4)).free ht) ah J g e1
   .have e1:¬eQ (sz k) (cJ r k c)= .str kd:=λz=>h1 (Pe z);refine#[11,a0.trans (a3.trans b4),λw cL=> ?_,2];rw[QF,cO]at cL;rcases Pz.mp cL with l|l
    .exact bu w l
    .have l:(w:Int)=(c:Int):=#[5,l]
     have e:w=c:=()
     rw[e];exact e1
  .rintro v B ⟨q,u,a0,bu,rfl⟩;refine#[some (.int (k:Int)),some (.int (aw (2^n-1) k:Nat)),q,u,aD.trans (c5.trans (da.trans a0)),λk' w cy g N=> ?_,2];rw[QF,hz]at cy;rcases Pz.mp cy with l|l
   .exact bt k' w l g N
   .have l:(k':Int)=(k:Int):=#[5,l]
    have e:k'=k:=()
    subst e;refine bu w ?_;rw[My,QG];exact(gB l8).mpr #[w,2,g,N]
 .rintro v y ⟨v4,v5,q,u,aD,bt,rfl⟩;refine k2 y (c4.trans aD) λk w G zk g N=>bt k w ?_ g N;rw[My,QG];exact(gB ()).mpr #[k,2,bD G,9]
def sY(H:Hp)(xs:List V):Prop:=∀x∈xs,∃a,x= .ref a/\H a=none
def sZ(H:Hp)(a:Addr)(c:List (Str×Nat×Nat)):Prop:=∃xs,H a=some (.lst xs)/\xs.length=c.length/\∀(i:Nat)(k:Str×Nat×Nat),c[i]?=some k->∃b,xs[i]?=some (.ref b)/\H b=some (.tup [.str k.1, .int (k.2.1:Int), .int (k.2.2:Int)])
theorem sZ.same(h:sZ H a ks)(e:Same H H'):sZ H' a ks:=by obtain⟨xs,c,d,f⟩:=h;exact#[xs,e.at c,d,λi k g=>by obtain⟨b,g1,g2⟩:=f i k g;exact#[b,g1,e.at g2]]
structure jO(p:Int)(n R:Nat)(r:Nat->Nat)(c:Nat->List Int):Prop where
 ex:∃B,B<2^n/\sz B=R/\r B=R/\lA p R B (2^n-1) r c
 len:∀t,t<n->(c t).length=R
 num:∀t,t<n->∀z∈c t,0<=z/\z<p
def w6(p:Int)(n R:Nat)(r:Nat->Nat):Prop:=∃B G y c,B<2^n/\sz B=R/\r B=R/\G<2^n/\y<n/\G.testBit y=false/\lA p R B G r c/\∀col∈dZ p (eS r R B y),¬oU p R r (dI c y col) G y
def zF(n R:Nat)(r:Nat->Nat)(k:Str×Nat×Nat):Prop:=∀s w,s<2^n->sz s=k.2.1->Sub w (aw (2^n-1) s)->((sz w:Nat):Int)=(R:Nat) - (k.2.2:Nat)->¬eQ (sz s) (cJ r s w)= .str k.1
inductive rV(Z:Hs)(vs:List V)(H:Hp)(Q:VK):Prop
 |mk(h a:Addr) (n R:Nat) (p:Int) (r:Nat->Nat) (ks:List (Str×Nat×Nat)) (_:vs=[.ref h, .int p, .ref a]) (_:Z.ho H h n r) (_:Mat n r) (_:r (2^n-1)=R) (_:bg p) (_:0<p) (_:p<=3) (_:sZ H a ks) (_:(∀c l xs t H',Same H H'->H t=none->H' t=some (.tup [.str Wa, .ref l])->H l=none->H' l=some (.lst xs)->aQ (hide H' l) xs (iz c n R)->sY H xs->jO p n R r c->Q (.ref t) H')) (_:(∀k s w t H',Same H H'->H t=none->H' t=some (.tup [.str V8, .int (aw (aw (2^n-1) s) w:Nat), .int (w:Int), .str k])->(∃m d,(k,m,d)∈ks)->s<2^n->Sub w (aw (2^n-1) s)->eQ (sz s) (cJ r s w)= .str k->w6 p n R r->Q (.ref t) H')) (_:(∀H',Same H H'->w6 p n R r->(∀k∈ks,zF n R r k)->Q .non H')):rV Z vs H Q
def oA(Z:Hs):Sp:=λvs H Q _=>rV Z vs H Q
theorem gL:aE [Vq,Vr,"kinds","known",VZ,"kind","found"] UO (aq i5):=aS
theorem yA(T:Tb K mg)(dy:df Z)(zK:df (hsN O))(D:bo K mg V2 i5 UO)(hj:8<=j)(ar:kR P w K mg base 8 "Known" O UG (DP Z O))(ai:Cal P w K mg base 8 "table_for" Vb (Ag (hsN O)))(ag:Cal P w K mg base j "left_barred" UQ (Hq (hsN O))):
  Cal P w K mg base (j+2) V2 UO (oA Z):=by
 refine D.cal gL λf cdv A outer d3 H vs Q E hr h=> ?_;obtain⟨h,a,n,R,p,r,ks,rfl,hX,M,rR,pm,p0,p3,c1,k1,k2,k3⟩:=h;refine#[_,(ab (wset 3 gL.nd (iF ar hr () ⋯ (aa (pv 0) af)))
   (ab (wset 4 gL.nd (wcal ai hr (aa (pv 3) (aa (pv 1) af))))
   (ab (aZ (wpt yy (pv 4) fi)
     (aj (aC (kg (aa dU (aa (pv 4) af)))))
     aO)
   (ab (wfor (wil K (pv 2)) (wname 5 gL.nd)
     (ab (wset 6 gL.nd (wcal ag hr (aa (pv 3) (aa (ky K (pv 5) ae) (aa (ky K (pv 5) ae) (aa (ky K (pv 5) ae) af))))))
     (aj (aZ (wpt yy (pv 6) fi)
       (aj (aC (pv 6)))
       aO))))
   (aj (aC fi)))))),6]
 have n8:=M.n8;refine#[7,λpo bS br b8 d2=>#[po,bS,h,n,r,2,ah,dy.same (fN br b8) hX,n8,λtt H1 d1 dn c4 c3=>#[26]]];have v:Same H H1:=λb o e=>dn b o (by rw[aA (au e br),aA (au e b8)];exact e) (au e br);have b1:(hsN O).ho H1 po n r:=#[bS,tt,c3,c4];refine#[77,po,n,R,p,r,2,b1,M,rR,pm,p0,p3,λB c l xs H2 z hl U hR hN hB zB rB st lc=> ?_,λB G y c H2 z hB zB rB hG yn yG st no=> ?_]
 .refine#[727,cC (λ_=> ?_) λu=>absurd rfl u];refine#[7,Pr (Pu 2) ∅,λt g=> ?_];have tl:t≠l:=λe=>by rw[e,U]at g;cases g
  refine k1 c l xs t _ (v.trans (z.trans (Same.new g))) (v.free (z.free g)) ah (v.free hl) (by rw[aA tl.symm];exact U) (hR.same λb o e=> ?_) (λx hx=>by obtain⟨a,h1,q⟩:=hN x hx;exact#[a,h1,v.free q]) #[#[B,hB,zB,rB,st],λt g=>(lc t g).1,λt g=>(lc t g).2];by_cases e2:b=l
  .subst e2;unfold hide at e;rw[Pd rfl]at e;cases e
  .rw[de e2]at e⊢;rw[aA (au e g)];exact e
 .refine#[727,cC (λu=>(nomatch u)) λ_=> ?_];have cS:=c1.same (v.trans z);obtain⟨xs,U,xl,cO⟩:=cS;refine#[7,a,2,#[_,SqL.of U],6];refine cY (K:=K) (a:=a) (xs:=xs) (λi σ N=>∃v5 v6:Option V,Same H2 N/\(∀k∈ks.take i,zF n R r k)/\σ=[xS h,yT p,xS a,xS po,some .non,v5,v6])
   #[none,none,Same.refl _,λk J=>absurd J P7,2] (λi σ N _ h=>by obtain⟨_,_,sm,_⟩:=h;exact SqL.of (sm.at U)) ?_ ?_
  .rintro i x σ N hi ⟨v5,v6,L,az,rfl⟩;have il:i<ks.length:=by rw[<-xl];exact(Pn.mp hi).1
   have J:=PF il;obtain⟨b,hb,b5⟩:=cO i _ J;rw[hi]at hb;cases hb;generalize ks[i]=k at J b5;obtain⟨kd,m,d⟩:=k;have a6:=L.at b5;dsimp only[bC];refine#[77,b,3,SqT.of a6,27,b,3,SqT.of a6,27,b,3,SqT.of a6,26];refine#[po,n,m,d,kd,r,2,zK.same (z.trans L) b1,M,λs w t H4 bt g c5 hs hw cT=> ?_,λH4 bt c2=> ?_]
   .refine#[727,cC (λ_=> ?_) λu=>absurd rfl u];have cb:=v.trans (z.trans L);exact#[7,k2 kd s w t H4 (cb.trans bt) (cb.free g) c5 #[m,d,Pq J] hs hw cT #[B,G,y,c,hB,zB,rB,hG,yn,yG,st,no]]
   .refine#[727,cC (λu=>(nomatch u)) λ_=> ?_];refine#[11,L.trans bt,λk' b4=> ?_,2];rw[QF,J]at b4;rcases Pz.mp b4 with q|q
    .exact az k' q
    .have q:k'=(kd,m,d):=#[5,q]
     rw[q];exact λs w hs zs hw zw=>c2 s w hs zs hw (by rw[rR];exact zw)
  .rintro σ N ⟨v5,v6,L,az,rfl⟩;rw[xl,QG]at az;exact k3 N (v.trans (z.trans L)) #[B,G,y,c,hB,zB,rB,hG,yn,yG,st,no] az
theorem NG(C:Addr):df (hsN C) where
 same:=λe h=>h.same e
 shown:=λh=>by obtain⟨a,t,b,c⟩:=h;exact#[C,2,a,_,b,Jv _ _,F7 _ _,Jx _ _]
theorem MM(vs:List V)(H:Hp)(Q:VK)(E:XK)(h:dX (hsN C) C vs H Q E):DI C vs H Q E:=by obtain⟨a,n,s,r,e,b,_,d,c,k⟩:=h;exact#[a,n,s,r,e,b,d,c,k H (Same.refl _)]
theorem OB{B t y:Nat}(h:B.testBit t=true):qm B t y=exB B t y:=by
 unfold qm exB;refine Qd (· |||2^y) (PC λj=> ?_);rw[aI,Qx,Py];by_cases e:t=j
 .subst e;simp[h]
 .simp[e]
theorem Fq(k:B<256)(p:sz B=R):vg B R (λi=>(ao B).getD i 0):=by
 have h:(ao B).length=R:=(aP B).trans p;have b:∀i,i<R->(ao B)[i]?=some ((ao B).getD i 0):=λi a=>by
  have d:i<(ao B).length:=by rw[h];exact a
  rw[PF d];simp[d]
 refine#[λi a=>(aJ.mp (Pq (b i a))).2,λi j a o e=> ?_,λt f=> ?_]
 .have c:=b i a;have m:=b j o;have l:(ao B).getD i 0=(ao B).getD j 0:=e;rw[l]at c;exact(SY () (mV B)).mp (c.trans m.symm)
 .obtain⟨i,a⟩:=Qm (aJ.mpr #[bw (n:=8) k f,f]);have g:i<R:=by rw[<-h];exact(Pn.mp a).1
  exact#[i,g,Qq ((b i g).symm.trans a)]
theorem yW(d:sz B=R)(b:i<R):(eS r R B y)[i]?=some (decide (r (exB B ((ao B).getD i 0) y)=R)):=by
 have c:(ao B).length=R:=(aP B).trans d;have a:i<(ao B).length:=by rw[c];exact b
 have e:(ao B).getD i 0=(ao B)[i]:=by simp[a]
 unfold eS;rw[show bits B=(ao B).map λt:Nat=>(t:Int)from rfl,P8,PB,PF a,e];show some (decide (r (qm B ((ao B)[i]:Int).toNat y)=R))=_;rw[Pj,OB (aJ.mp (QP a)).2]
theorem rJ(M:Mat n r)(O:r (2^n-1)=R)(h:w6 2 n R r):∃G,G<2^n/\¬ix r G R:=by
 obtain⟨B,G,y,c,L,a,rB,s,yn,g,st,no⟩:=h;have v:=M.n8;have A:B<256:=mh v L;have u:G|||2^y<2^n:=aM s yn;have P:=Fq A a;have lB:(ao B).length=R:=(aP B).trans a;have fl:(eS r R B y).length=R:=by unfold eS;rw[My];exact a
 have m0:(eS r R B y).map (λb=>if b=true then(1:Int)else 0)∈dZ 2 (eS r R B y):=(iG ∅ _ _).mpr #[My _,λi b N=>by rw[Ph,PB,N];cases b<;>exact#[444]]
 generalize (eS r R B y).map (λb=>if b=true then(1:Int)else 0)=col at m0;have nB:B.testBit y=false:=by
  cases e:B.testBit y with
  |false=>rfl
  |true=>rw[st.sub y e]at g;cases g
 have J:∀t,(G|||2^y).testBit t=true->B.testBit t=false->dI c y col t∈dZ 2 (eS r R B t):=λt d k=>by
  unfold dI;by_cases e:t=y
  .rw[Pd e,e];exact m0
  .rw[Pb e];rw[a9,P0]at d;exact st.fill t (by rcases d with z|z;exact z;exact absurd (PH z).symm e) k
 have H:L7 r (G|||2^y) B R (λi=>(ao B).getD i 0) (gG (dI c y col)):=by
  refine#[λi j m Q=> ?_,λt i d k m=> ?_]
  .have o:i<(ao B).length:=by rw[lB];exact m
   have e:(ao B).getD i 0=(ao B)[i]:=by simp[o]
   have x:=(aJ.mp (QP o)).2;have ne:¬(ao B)[i]=y:=λz=>by rw[z,nB]at x;cases x
   show(dI c y col ((ao B).getD i 0)).getD j 0=_;unfold dI;rw[e,Pb ne,st.unit i _ (PF o),oX Q]
  .have:=((iG ∅ _ _).mp (J t d k)).2 i _ (yW a m);show(dI c y col t).getD i 0=_;obtain⟨a1,a2,q⟩:=this;by_cases e:r (exB B ((ao B).getD i 0) t)=R
   .rw[Pd e];have:=q.mp (Pe e);lia
   .rw[Pb e];exact PU λz=>e (PH (q.mpr z))
 have p:¬ix r (G|||2^y) R:=λp=>no col m0 λS l zS=>by
  have U:S.testBit y=false:=by
   cases e:S.testBit y with
   |false=>rfl
   |true=>rw[l y e]at g;cases g
  have z1:=gp (mh v (l.lt s)) (show y<8 by lia) U;refine(qC M O u (λt f=>by rw[a9,st.sub t f];rfl) a rB P H p (Z:=S|||2^y) (λt f=> ?_) ()).symm;rw[a9,P0]at f⊢;rcases f with z|z
  .exact .inl (l t z)
  .exact .inr z
 exact#[_,u,p]
theorem CL(M:Mat n r)(c:r (2^n-1)=R)(h:w6 2 n R r)(b:Bi2 n r):False:=by obtain⟨G,a,f⟩:=rJ M c h;exact f λC x z y v e g d=>b.noFour M c C x z y v (e.trans (bD a)) g λt h=>#[bD a t (d t h).1,(d t h).2]
theorem CK(M:Mat n r)(b:r (2^n-1)=R)(h:w6 2 n R r)(g:zF n R r (aX,4,2)):False:=by
 obtain⟨G,f,l⟩:=rJ M b h;obtain⟨k,w,i,j,c,d,m,ev⟩:=Gi M f b l;refine g k w i c (λt a=> ?_) (show((sz w:Nat):Int)=(R:Nat) - ((2:Nat):Int) by lia) ?_
 .rw[aI,PY,Pe (bw j a),Qy];cases e:k.testBit t with
  |false=>rfl
  |true=>rw[d t e]at a;cases a
 .rw[c];unfold eQ;rw[Pd ev]
inductive vi(Z:Hs)(vs:List V)(H:Hp)(Q:VK):Prop
 |mk(h:Addr) (n R:Nat) (r:Nat->Nat) (_:vs=[.ref h]) (_:Z.ho H h n r) (_:Mat n r) (_:r (2^n-1)=R) (_:(∀c l xs t H',Same H H'->H t=none->H' t=some (.tup [.str Wa, .ref l])->H l=none->H' l=some (.lst xs)->aQ (hide H' l) xs (iz c n R)->sY H xs->jO 2 n R r c->Q (.ref t) H')) (_:(∀s w t H',Same H H'->H t=none->H' t=some (.tup [.str V8, .int (aw (aw (2^n-1) s) w:Nat), .int (w:Int), .str aX])->s<2^n->Sub w (aw (2^n-1) s)->eQ (sz s) (cJ r s w)= .str aX->¬Bi2 n r->Q (.ref t) H')):vi Z vs H Q
def qG(Z:Hs):Sp:=λvs H Q _=>vi Z vs H Q
theorem As:aE Uv Uv (aq jD):=aS
theorem AR(bu:df Z)(D:bo K mg Wb jD Uv)(J:mg "TWO_OF_FOUR"=some (.str aX t1))(L:Cal P w K mg base j V2 UO (oA Z)):Cal P w K mg base (j+1) Wb Uv (qG Z):=by
 refine D.cal As λf cdv A outer bA H vs Q E hr h=> ?_;obtain⟨h,n,R,r,rfl,hX,M,G,k1,k2⟩:=h;refine#[_,(aj (aC (wcal L hr (aa (pv 0) (aa ae (aa (cw (aa (kg (aa (c9 (v:= .str aX) ⋯ J #[7]) (aa ae (aa ae af)))) af)) af)))))),6];refine#[7,Pr (Pu 3) ∅,λb hb=>#[Pr (Pu 1) ∅,λa u=> ?_]];have sb:Same H (upd H b (.tup [.str aX, .int 4, .int 2])):=Same.new hb;have g:=sb.trans (Same.new (o:= .lst [.ref b]) u);have ne:b≠a:=λe=>by rw[<-e,ah]at u;cases u
 refine#[h,a,n,R,(2),r,[(aX,4,2)],2,bu.same g hX,M,G,bR,44,#[[.ref b],ah,2,λi k p=> ?_],λc l xs t H' q y z hl a6 hR U ho=> ?_,λk s w t H' q y z p hs hw az B=> ?_,λH' q B nk=> ?_]
 .cases i with
  |zero=>cases p;exact#[b,2,by rw[aA ne,ah];rfl]
  |succ i=>simp at p
 .exact k1 c l xs t H' (g.trans q) (g.free y) z (g.free hl) a6 hR (λx hx=>by obtain⟨a,N,O⟩:=U x hx;exact#[a,N,g.free O]) ho
 .obtain⟨m,d,p⟩:=p;cases PR.mp p;exact k2 s w t H' (g.trans q) (g.free y) z hs hw az (CL M G B)
 .exact(CK M G B (nk _ Pt)).elim
def kr:List (Str×Nat×Nat):=[(ba,5,2),(aU,5,3),(d6,7,3),(bb,7,4)]
theorem BD(M:Mat n r)(h:zJ n R r)(i:∀k∈kr,zF n R r k):False:=by
 obtain⟨s,w,f,g,h⟩:=h;have ev:∀ {q:Nat->Nat} {a b:Nat} {x y:Nat},a≠x->dg a q x y=false:=λ{q a b x y} h=>by unfold dg;rw[Pc h];rfl
 rcases h with ⟨c,j,d⟩|⟨c,j,d⟩|⟨c,j,d⟩|⟨c,j,d⟩
 .refine i (ba,5,2) (by simp[kr]) s w f c g (by show((sz w:Nat):Int)=(R:Nat) - ((2:Nat):Int);lia) ?_;rw[c];unfold eQ;rw[ev (b:=0) ∅,Pb ∅,Pd d]
 .refine i (aU,5,3) (by simp[kr]) s w f c g (by show((sz w:Nat):Int)=(R:Nat) - ((3:Nat):Int);lia) ?_;have top:cJ r s w (2^5-1)=3:=by unfold dg at d;rw[PX,PX,PD,PD]at d;exact d.1.2
  have l:dg 5 (cJ r s w) 5 2=false:=by unfold dg;rw[top];rfl
  rw[c];unfold eQ;rw[ev (b:=0) ∅,Pb ∅,l,Pb ∅,Pd d]
 .refine i (d6,7,3) (by simp[kr]) s w f c g (by show((sz w:Nat):Int)=(R:Nat) - ((3:Nat):Int);lia) ?_;rw[c];unfold eQ;rw[ev (b:=0) ∅,Pb ∅,ev (b:=0) ∅,Pb ∅,ev (b:=0) ∅,Pb ∅,Pd d]
 .refine i (bb,7,4) (by simp[kr]) s w f c g (by show((sz w:Nat):Int)=(R:Nat) - ((4:Nat):Int);lia) ?_;have Mk:=M.minor f (g.lt ((cR _ _).lt (aH n)));rw[c]at Mk;have no:cc 7 (cJ r s w)=false:=by
   unfold cc at d⊢;rw[PX,PX,PD,PD]at d;have o:=Mk.dD (aH 7);have z:sz (2^7-1)=7:=∅
   have e:aw (2^7-1) (2^7-1)=0:=∅
   rw[e,Mk.zero,z]at o;have:¬cJ r s w (2^7-1)=3:=()
   rw[Pc this];rfl
  rw[c];unfold eQ;rw[ev (b:=0) ∅,Pb ∅,ev (b:=0) ∅,Pb ∅,ev (b:=0) ∅,Pb ∅,no,Pb ∅];have m:cc 7 (iC 7 (cJ r s w))=true:=d;rw[Pd m]
theorem qc(M:Mat n r)(A:r (2^n-1)=R)(h:w6 3 n R r)(T:Tern n r):False:=by
 obtain⟨B,G,y,c,z,k,N,g,x,o,st,no⟩:=h;have m:=M.n8;have L:(ao B).length=R:=(aP B).trans k;have q:(eS r R B y).length=R:=by unfold eS;rw[My];exact k
 have O:jf (gG c) B R:=λi j a H=>by
  have s:i<(ao B).length:=by rw[L];exact a
  have e:bAt B i=(ao B)[i]:=by unfold bAt;simp[s]
  show(c (bAt B i)).getD j 0=_;rw[e,st.unit i _ (PF s),oX H]
 obtain⟨v,u,Q,U⟩:=GW M T A z k N g st.sub O (λS d l=>by rw[<-qu (mh m (d.lt g)) l];exact st.good S d l) x o;have p:∀i,i<R->((List.range R).map v).getD i 0=v i:=λi a=>by rw[Ph,PB,QD a];rfl
 refine no ((List.range R).map v) ((iG ∅ _ _).mpr #[by rw[My,Pw,q],λi b f=> ?_]) λS d l=> ?_
 .have a:i<R:=by rw[<-q];exact(Pn.mp f).1
  rw[yW k a]at f;have f:=Qq f;rw[p i a,<-f,PD];exact#[(u i a).1,(u i a).2,(Q i a).symm]
 .have J:S.testBit y=false:=by
   cases e:S.testBit y with
   |false=>rfl
   |true=>rw[d y e]at o;cases o
  have z1:=gp (mh m (d.lt g)) (show y<8 by lia) J;rw[qu (mh m (aM (d.lt g) x)) (),<-U S d l];refine xI λt _ i a=> ?_;show(3:Int)∣(dI c y ((List.range R).map v) t).getD i 0-D0 (gG c) y v t i;unfold dI D0;by_cases e:t=y
  .rw[Pd e,Pd e,p i a,QH];exact Qa _
  .rw[Pb e,Pb e];show(3:Int)∣(c t).getD i 0- (c t).getD i 0;rw[QH];exact Qa _
inductive qw(Z:Hs)(vs:List V)(H:Hp)(Q:VK):Prop
 |mk(h:Addr) (n R:Nat) (r:Nat->Nat) (_:vs=[.ref h]) (_:Z.ho H h n r) (_:Mat n r) (_:r (2^n-1)=R) (_:Cl3 n r) (_:(∀c l xs t H',Same H H'->H t=none->H' t=some (.tup [.str Wa, .ref l])->H l=none->H' l=some (.lst xs)->aQ (hide H' l) xs (iz c n R)->sY H xs->jO 3 n R r c->Q (.ref t) H')) (_:(∀k s w t H',Same H H'->H t=none->H' t=some (.tup [.str V8, .int (aw (aw (2^n-1) s) w:Nat), .int (w:Int), .str k])->(∃m d,(k,m,d)∈kr)->s<2^n->Sub w (aw (2^n-1) s)->eQ (sz s) (cJ r s w)= .str k->¬Tern n r->Q (.ref t) H')):qw Z vs H Q
def lQ(Z:Hs):Sp:=λvs H Q _=>qw Z vs H Q
theorem nZ:aE [Vq,"kinds"] Uv (aq gP):=aS
theorem vD(ct:df Z)(D:bo K mg VT gP Uv)(U:mg "TWO_OF_FIVE"=some (.str ba t2))(O:mg "THREE_OF_FIVE"=some (.str aU t3))(ay:mg "SEVEN"=some (.str d6 t4))(ar:mg "OTHER_SEVEN"=some (.str bb t5))(ax:Cal P w K mg base j V2 UO (oA Z)):Cal P w K mg base (j+1) VT Uv (lQ Z):=by
 refine D.cal nZ λf cdv A outer cE H vs Q E hr h=> ?_;obtain⟨h,n,R,r,rfl,hX,M,y,cl,k1,k2⟩:=h;refine#[_,(ab (wset 1 nZ.nd (cw (aa (kg (aa (c9 (v:= .str ba) ⋯ U #[7]) (aa ae (aa ae af)))) (aa (kg (aa (c9 (v:= .str aU) ⋯ O #[7]) (aa ae (aa ae af)))) (aa (kg (aa (c9 (v:= .str d6) ⋯ ay #[7]) (aa ae (aa ae af)))) (aa (kg (aa (c9 (v:= .str bb) ⋯ ar #[7]) (aa ae (aa ae af)))) af))))))
   (aj (aC (wcal ax hr (aa (pv 0) (aa ae (aa (pv 1) af))))))),6]
 refine#[Pr (Pu 3) ∅,λe bN=>#[Pr (Pu 3) ∅,λg bS=>#[Pr (Pu 3) ∅,λm bX=>#[Pr (Pu 3) ∅,λp b0=>#[Pr (Pu 4) ∅,λa ha=> ?_]]]]];have c1:=Same.new (o:= .tup [.str ba, .int 5, .int 2]) bN;have N:=Same.new (o:= .tup [.str aU, .int 5, .int 3]) bS;have B:=Same.new (o:= .tup [.str d6, .int 7, .int 3]) bX;have u:=Same.new (o:= .tup [.str bb, .int 7, .int 4]) b0;have q:=Same.new (o:= .lst [V.ref e,V.ref g,V.ref m,V.ref p]) ha;have d4:=q.at ah;have d3:=(u.trans q).at ah;have d2:=(B.trans (u.trans q)).at ah;have d1:=(N.trans (B.trans (u.trans q))).at ah;have d5:=ah (H:=upd (upd (upd (upd H e (.tup [.str ba, .int 5, .int 2])) g (.tup [.str aU, .int 5, .int 3])) m (.tup [.str d6, .int 7, .int 3])) p (.tup [.str bb, .int 7, .int 4])) (a:=a) (o:= .lst [V.ref e,V.ref g,V.ref m,V.ref p]);have d:=c1.trans (N.trans (B.trans (u.trans q)));generalize upd (upd (upd (upd (upd H e (.tup [.str ba, .int 5, .int 2])) g (.tup [.str aU, .int 5, .int 3])) m (.tup [.str d6, .int 7, .int 3])) p (.tup [.str bb, .int 7, .int 4])) a (.lst [V.ref e,V.ref g,V.ref m,V.ref p])=H1 at*;refine#[77,h,a,n,R,(3),r,kr,2,ct.same d hX,M,y,aN,44,#[_,d5,2,λi k b=> ?_],λc l xs t H' z G J hl cg hR hN ho=> ?_,λk s w t H' z G J b hs hw b5 L=> ?_,λH' z L nk=> ?_]
 .match i,b with
  |0,b=>cases b;exact#[e,2,d1]
  |1,b=>cases b;exact#[g,2,d2]
  |2,b=>cases b;exact#[m,2,d3]
  |3,b=>cases b;exact#[p,2,d4]
  |i+4,b=>exact absurd b (by simp[kr])
 .exact k1 c l xs t H' (d.trans z) (d.free G) J (d.free hl) cg hR (λx hx=>by obtain⟨a,h1,h2⟩:=hN x hx;exact#[a,h1,d.free h2]) ho
 .exact k2 k s w t H' (d.trans z) (d.free G) J b hs hw b5 (qc M y L)
 .rcases cl with cl|cl
  .exact(qc M y L cl).elim
  .exact(BD M (y▸cl) nk).elim
def IV(c:Nat->List Int):Nat->List Int:=λt=>(c t).map sg3
theorem Ef(c:Nat->List Int)(t i:Nat):(IV c t).getD i 0=sg3 ((c t).getD i 0):=by
 show((c t).map sg3).getD i 0=_;rw[Ph,Ph,PB];cases (c t)[i]? with
 |none=>rfl
 |some z=>rfl
structure zu(n R:Nat)(r:Nat->Nat)(c:Nat->List Int):Prop where
 ex:∃B,BG n R r B (gG c)
 len:∀t,t<n->(c t).length=R
theorem jO.bi2(h:jO 2 n R r c)(M:Mat n r)(b:r (2^n-1)=R):Bi2 n r:=by obtain⟨⟨B,e,g,f,st⟩,_,_⟩:=h;exact J9 (L:=bz (gG c) (List.range R)) M b (by unfold bz;rw[My,Pw]) λS a d=>st.good S (bD a) d
theorem jO.tern(h:jO 3 n R r c)(M:Mat n r)(b:r (2^n-1)=R):Tern n r:=by
 obtain⟨⟨B,f,i,g,st⟩,_,_⟩:=h;refine xO M b #[bz (gG c) (List.range R),λs=> ?_,λS a d=>st.good S a d];have:=mr aN (bz (gG c) (List.range R)) (ao s);have e:(bz (gG c) (List.range R)).length=R:=by unfold bz;rw[My,Pw]
 rwa[e]at this
theorem jO.all(h:jO 3 n R r c)(M:Mat n r)(x:r (2^n-1)=R)(b:Bi2 n r):zu n R r (IV c):=by
 obtain⟨⟨B,m,f,v,st⟩,k,u⟩:=h;have s:(ao B).length=R:=(aP B).trans f;have z:jf (gG c) B R:=λi j a p=>by
  have g:i<(ao B).length:=by rw[s];exact a
  have e:bAt B i=(ao B)[i]:=by unfold bAt;simp[g]
  show(c (bAt B i)).getD j 0=_;rw[e,st.unit i _ (PF g),oX p]
 have e:gG (IV c)=λt i=>sg3 (gG c t i):=funext λt=>funext λi=>Ef c t i;refine#[#[B,6],λt d=>by rw[<-k t d];exact My ..];rw[e];refine Ko M x b m f v z (λt d i a=> ?_) (λy q A i a=> ?_) λS o G=>st.good S (bD o) G
 .have l:i<(c t).length:=by rw[k t d];exact a
  have:=u t d ((c t).getD i 0) (by simp[l]);show(c t).getD i 0=0\/(c t).getD i 0=1\/(c t).getD i 0=2;lia
 .have:=((iG ∅ _ _).mp (st.fill y (by rw[PY];exact Pe q) A)).2 i _ (yW f a);rw[PD]at this;exact this.2.2.symm
theorem F8(h:eQ n q= .str k)(g:k=ba\/k=aU):dg n q 5 2=true\/dg n q 5 3=true:=by
 have ne:∀x, .str x=V.str k->x∉ [aX,d6,bb]:=λx e i=>by have:=V.str.inj e;subst this;rcases g with rfl|rfl<;>revert i<;>decide+kernel
 unfold eQ at h;by_cases a:dg n q 4 2=true
 .rw[Pd a]at h;exact absurd #[5] (ne _ h)
 rw[Pb a]at h;by_cases b:dg n q 5 2=true
 .exact .inl b
 rw[Pb b]at h;by_cases c:dg n q 5 3=true
 .exact .inr c
 rw[Pb c]at h;by_cases d:cc n q=true
 .rw[Pd d]at h;exact absurd #[5] (ne _ h)
 rw[Pb d]at h;by_cases f:cc n (iC n q)=true
 .rw[Pd f]at h;exact absurd #[5] (ne _ h)
 rw[Pb f]at h;cases h
def uE:List Str:=[aX,d6,bb]
inductive vj(Z:Hs)(vs:List V)(H:Hp)(Q:VK):Prop
 |mk(h:Addr) (n R:Nat) (r:Nat->Nat) (_:vs=[.ref h]) (_:Z.ho H h n r) (_:Mat n r) (_:r (2^n-1)=R) (_:(Bi2 n r->Cl3 n r)) (_:(∀c l xs t H',Same H H'->H t=none->H' t=some (.tup [.str Wa, .ref l])->H l=none->H' l=some (.lst xs)->aQ (hide H' l) xs (iz c n R)->sY H xs->zu n R r c->Bi2 n r->Tern n r->Q (.ref t) H')) (_:(∀k s w t H',Same H H'->H t=none->H' t=some (.tup [.str V8, .int (aw (aw (2^n-1) s) w:Nat), .int (w:Int), .str k])->k∈uE->s<2^n->Sub w (aw (2^n-1) s)->eQ (sz s) (cJ r s w)= .str k->¬(Bi2 n r/\Tern n r)->Q (.ref t) H')):vj Z vs H Q
def wg(Z:Hs):Sp:=λvs H Q _=>vj Z vs H Q
theorem lY:aE [Vq,"two","three"] Uv (aq jE):=aS
theorem AS(dn:df Z)(D:bo K mg "over_all" jE Uv)(ai:Cal P w K mg base j Wb Uv (qG Z))(ag:Cal P w K mg base j VT Uv (lQ Z)):Cal P w K mg base (j+1) "over_all" Uv (wg Z):=by
 refine D.cal lY λf cdv A outer ed H vs Q E hr h=> ?_;obtain⟨h,n,R,r,rfl,hX,M,q,cl,k1,k2⟩:=h;refine#[_,(ab (wset 1 lY.nd (wcal ai hr (aa (pv 0) af)))
   (ab (aZ (wpt a7 (ky K (pv 1) ae) dU)
     (aj (aC (pv 1)))
     aO)
   (ab (wset 2 lY.nd (wcal ag hr (aa (pv 0) af)))
   (ab (aZ (wpt a7 (ky K (pv 2) ae) dU)
     (aj (aC (pv 2)))
     aO)
   (aj (aC (kg (aa dU (aa (wlc [Wf] [] [] (wil K (ky K (pv 2) ae)) (wnC 0) bW (wlc ["number"] [] [] (wil K (pv 0)) (wnC 0) bW (pV (wpt a7 (pv 0) ae) (jW iE ae) (pv 0)))) af))))))))),6]
 have n8:=M.n8;refine#[7,h,n,R,r,2,hX,M,q,λc2 l2 ec t2 H1 G d1 cN d0 d2 dV dE cL=> ?_,λs w t H1 G ht g N hw ax nb=> ?_]
 .refine#[7,t2,3,SqT.of cN,227,cC (λp=>absurd (V.str.inj (PH p)) #[9]) λ_=> ?_];have b:=cL.bi2 M q;refine#[7,h,n,R,r,2,dn.same G hX,M,q,cl b,λc l xs t H2 bt ht g hl b3 hR hN ho=> ?_,λk s w t H2 bt ht g B N hw ax nb=> ?_]
  .refine#[7,t,3,SqT.of g,227,cC (λp=>absurd (V.str.inj (PH p)) #[9]) λ_=> ?_];have xl:xs.length=R:=by rw[hR.1];unfold iz;rw[My,Pw]
   have R8:R<=8:=by have:=M.lu (2^n-1) (aH n);have L:sz (2^n-1)<=8:=aW _;lia
   have sm:=G.trans bt;refine#[7,t,3,SqT.of g,2,l,2,#[_,SqL.of b3],6];refine Bd (λi y Hh=>∃a,y= .ref a/\H2 a=none/\Hh a=some (.lst (((List.range n).map λt=>(IV c t).getD i 0).map V.int))) (λ_ y Hh H' e ⟨a,J,h0,L⟩=>#[a,J,h0,e.at L]) (SqL.of b3) (by rw[xl];exact Pr R8 ∅) (λi x vs D H' Rk Sk hx hv U hD B=> ?_) λD H' ys hD U bX b4 b5=> ?_
   .obtain⟨v,rfl⟩:=bG hv;have iR:i<R:=by rw[<-xl];exact(Pn.mp hx).1
    obtain⟨a,d5,b2,rfl,ha⟩:=(hR.same fc).at hx;have cM:(iz c n R)[i]?=some ((List.range n).map λt=>(c t).getD i 0):=by unfold iz;rw[PB,QD iR];rfl
    rw[cM]at b2;cases b2;simp only[bC,jg,Pd];have bS:=U.at ha;obtain⟨dl,cp⟩:=hD;refine#[7,a,2,#[_,SqL.of bS],6];refine cf (λx=>(λ_=>true) (bJ x)) (λx=> .int (sg3 (bJ x))) (SqL.of bS) (by rw[My,My,Pw];exact Pr n8 ∅) (λj x eb dp R2 S2 cT cS d7 cE=> ?_) λD2 b8 bp dc cK=> ?_
    .obtain⟨v2,rfl⟩:=bG cS;obtain⟨z,rfl,hz⟩:=bK cT;simp only[bC,jg,Pd];have o:=cE [some (.int z)] _ rfl (Same.refl _);rw[Pd rfl]at o;replace o:R2 (V.int (sg3 z)) _ _:=o;unfold sg3 at o;refine#[727,cC (λp=> ?_) λp=> ?_]
     .rw[Pd (V.int.inj (PH p))]at o;exact#[(1),2,o]
     .rw[Pb (λz=>p (Pe (by rw[z])))]at o;exact#[7,o]
    .refine B (.ref D2) [some (.ref a)] b8 #[D2,2,U.free bp,6] rfl dc;have nD:D2≠D:=λz=>by rw[z,cp]at bp;cases bp
     rw[de nD,cK,show gf _ _ _=_ from bO (λ_=>true) sg3 _,QW.mpr (λ_ _=>rfl),P8,P8,P8];exact Qd (λl=>some (HO.lst l)) (Qt λt _=>Qd V.int (Ef c t i).symm)
   .refine#[Pr (Pu 2) ∅,λtt O=> ?_];have tD:tt≠D:=λe=>by rw[e,bX]at O;cases O
    have dh:Same H (upd H' tt (.tup [.str Wa, .ref D])):=sm.trans (U.trans (Same.new O));refine k1 (IV c) D ys tt _ dh (sm.free (U.free O)) ah (sm.free hD) (by rw[aA tD.symm];exact bX) ?_ (λx hx=> ?_) (ho.all M q b) b (ho.tern M q)
    .refine aQ.of (by rw[b4,xl];unfold iz;rw[My,Pw]) λj rr y J L=> ?_;obtain⟨a,rfl,h0,u⟩:=b5 j y L;have jl:j<R:=by rw[<-xl,<-b4];exact(Pn.mp L).1
     unfold iz at J;rw[PB,QD jl]at J;cases J;refine#[a,26];have aD:a≠D:=λe=>by rw[e]at u;unfold hide at u;rw[Pd rfl]at u;cases u
     rw[de aD]at u⊢;exact(Same.new O).at u
    .obtain⟨j,hj⟩:=Qm hx;obtain⟨a,rfl,h0,_⟩:=b5 j x hj;exact#[a,2,sm.free h0]
  .refine#[7,t,3,SqT.of g,227,lF ?_];refine#[7,k2 k s w t H2 (G.trans bt) (G.free ht) g ?_ N hw ax λz=>nb z.2];have wl:=hw.lt (j5 (n:=n) (s:=s));have no:¬(k=ba\/k=aU):=λz=>by
    rcases F8 ax z with e|e
    .exact b.five M q N wl (.inl rfl) e
    .exact b.five M q N wl (.inr rfl) e
   obtain⟨m,d,B⟩:=B;simp only[kr,Pk,P7,RH,Prod.mk.injEq]at B;rcases B with h|h|h|h
   .exact absurd (.inl h.1) no
   .exact absurd (.inr h.1) no
   .simp[uE,h.1]
   .simp[uE,h.1]
 .refine#[7,t,3,SqT.of g,227,lF ?_];exact#[7,k2 aX s w t H1 G ht g (by simp[uE]) N hw ax λz=>nb z.1]
theorem sD:aE [Vq,Vr,VV,VF,VE,"whole",We,Wa] UC (aq tZ):=aS
theorem Lo{Z:Hs}(T:Tb K mg)(cT:df Z)(hc:∀C,Z.dom C->HC K C_House C)(D:bo K mg "fits" tZ UC)(az:∀C,Z.dom C->bQ P w K mg base 4 C Vm nS (dX Z C))(ag:Cal P w K mg base 5 Vu Uv (iY Z))(ai:Cal P w K mg base 4 VW Ve kA)(ax:Cal P w K mg base 1 "set_of" [We] (xR K))(ay:Cal P w K mg base 2 VD UZ gK)(ar:Cal P w K mg base 3 "rank_of" U4 (tO K)):
  Cal P w K mg base 6 "fits" UC (Hu Z):=by
 refine D.cal sD λf cdv A outer e2 H vs Q E J h=> ?_;obtain⟨h,d,a,n,R,G,y,p,r,m,q,c,col,rfl,hX,n8,rR,R8,pm,p0,hC,M,hG,yn,ct,ha,cl,cn,k⟩:=h;refine#[_,(ab (wset 5 sD.nd (wcal ag J (aa (pv 0) af)))
   (ab (wfor (wil K (wcal ai J (aa (wcal ax J (aa (eY (Bz ⋯) ⋯ T.list_ RJ (aa (pv 2) af)) af)) (aa (aB gs (pv 5) ae) af)))) (wname 6 sD.nd)
     (ab (wset 7 sD.nd (aB um (wlc ["before"] [VV] [2] (wil K (wcal ay J (aa (pv 6) af))) (wnC 0) bW (Eb (Px (SG ∅ _) J.units) (pv 1) (pv 0) (by intro _ _;rfl))) (cw (aa (pv 4) af))))
     (aj (aZ (wpt iB (wpe a7 (wcal ar J (aa (pv 7) (aa (pv 1) af))) (pv 5)) (wpe a7 (fo az J ∅ (pv 0) (aa (aB pW (pv 6) (aB gu ae (pv 3))) af)) (pv 5)))
       (aj (aC fD))
       aO))))
   (aj (aC fD)))),6]
 have hp:=qN n8;have G8:G<256:=mh n8 hG;refine#[7,h,n,r,2,hX,n8,λH1 a0=> ?_];rw[rR];have bA:=hC.same a0;refine#[7,d,7,bA.dict,λl hl=> ?_];have ek:(List.map (λt:Nat=>((t:Int),V.ref (q t))) m).map (·.1)=cB m:=by rw[P8];rfl
 rw[ek];have es:Same H1 (upd H1 l (.lst ((cB m).map V.int))):=Same.new hl;have kb:∀t∈m,t<8:=λt g=>by have:=bw hG ((M.keys t).mp g);lia
 refine#[l,cB m,2,SqL.of ah,λz N=>by obtain⟨s,hs,rfl⟩:=eZ N;have:=kb s hs;lia,6];rw[Jz M.keys];refine#[786];refine#[(G:Int),(R:Int) -1,299,λpc H3 et eR bN=> ?_];rw[Pj]at bN;have O:Same H1 H3:=es.trans et;refine#[pc,2,#[_,SqL.of bN],6];refine cY (K:=K) (a:=pc) (xs:=(fH G ((R:Int) -1)).map V.int) (λi σ U=>∃v6 v7:Option V,Same H3 U/\(∀S:Nat,(S:Int)∈(fH G ((R:Int) -1)).take i->(bE p (bz (gG (dI c y col)) (List.range R)) (S|||2^y)=R↔r (S|||2^y)=R))/\σ=[xS h,yT p,xS d,yS y,xS a,yS R,v6,v7]) #[none,none,Same.refl _,λS b=>absurd b P7,2] (λi σ U _ h=>by obtain⟨_,_,sm,_⟩:=h;exact SqL.of (sm.at bN)) ?_ ?_
 .rintro i x σ U hi ⟨v6,v7,a3,bM,rfl⟩;obtain⟨z,rfl,N⟩:=bK hi;obtain⟨S,rfl,b,zS⟩:=(gB G8).mp (Pq N);have S8:S<256:=b.lt (n:=8) G8;have zR:sz S+1=R:=()
  dsimp only[bC];have d0:=bA.same (O.trans a3);refine#[7,(S:Int),299,λpt H5 b1 eW bS=>#[pt,2,#[_,SqL.of bS],6]];rw[Pj]at bS;refine cf (λx=>(λ_=>true) (bJ x)) (λx=>V.ref (q (bJ x).toNat)) (SqL.of bS) (by rw[My];exact Pr (aW _) ∅) (λj x vs H' R' S' hx hv sm hk=> ?_) λD6 L eM cL cp=> ?_
  .obtain⟨v,rfl⟩:=bG hv;obtain⟨z,rfl,el⟩:=bK hx;obtain⟨t,t8,o,rfl⟩:=cQ.mp (Pq el);simp only[bC,jg,Pd];have tk:t∈m:=(M.keys t).mpr (b t o);have q1:=hk [some (.int (t:Int))] H' rfl (Same.refl _);rw[Pd rfl]at q1;exact#[77,d,7,(d0.same (b1.trans sm)).get tk,q1]
  have d4:=(a0.trans (O.trans (a3.trans (b1.trans cL)))).at ha;have e6:gf (λx=>(λ_=>true) (bJ x)) (λx=>V.ref (q (bJ x).toNat)) ((bits S).map V.int)=(ao S).map λt=>V.ref (q t):=by unfold gf bits ao;rw[QW.mpr (λ_ _=>rfl),P8,P8];rfl
  rw[e6]at cp;refine#[7,Pr (Pu 1) ∅,λu hu=> ?_];have l8:(ao S).length<=8:=by rw[aP];lia
  have cO:Same L (upd L u (.lst [.ref a])):=Same.new hu;refine#[D6,u,8,cO.at cp,ah,by rw[My];exact Pr (Nat.add_le_add_right l8 1) ∅,λo ed=> ?_];have cM:Same L (upd (upd L u (.lst [.ref a])) o (.lst ((ao S).map (λt=>V.ref (q t))++[.ref a]))):=cO.trans (Same.new ed);have a6:=a3.trans (b1.trans (cL.trans cM));have d1:=bA.same (O.trans a6);have ts:∀t∈ao S,t∈m:=λt g=>(M.keys t).mpr (b t (aJ.mp g).2);have rows:=Fg (H:=upd (upd L u (.lst [.ref a])) o (.lst ((ao S).map (λt=>V.ref (q t))++[.ref a]))) (q:=q) (c:=c) (col:=col) (a:=a) (y:=y) (cs:=ao S) (λt g=>#[d1.cols t (ts t g),λz=>by rw[<-z,b t (aJ.mp g).2]at ct;cases ct]) (cM.at d4);generalize d2:upd (upd L u (.lst [.ref a])) o (.lst ((ao S).map (λt=>V.ref (q t))++[.ref a]))=H7 at*;have ef:H7 o=some (.lst ((ao S).map (λt=>V.ref (q t))++[.ref a])):=by rw[<-d2];exact ah
  have cy:(ao S++[y]).length=R:=by rw[PK,aP];exact zR
  refine#[77,o,_,(ao S++[y]).map (dI c y col),R,p,2,ef,rows,by rw[My,cy];exact R8,R8,λrr ea=> ?_,pm,λkk H8 b2 hV hM=> ?_]
  .obtain⟨t,g,rfl⟩:=Pl.mp ea;have key:(dI c y col t).length=R/\∀z∈dI c y col t,0<=z/\z<p:=by
    unfold dI;by_cases e:t=y
    .rw[Pd e];exact#[cl,cn]
    .rw[Pb e];have tk:t∈m:=ts t (by rcases Pz.mp g with z|z;exact z;exact absurd (PR.mp z) e);exact#[M.len t tk,M.num t tk]
   refine#[key.1,λz N=> ?_];have:=key.2 z N;have:=pm.lt;exact Pg (show z.natAbs<2^7 by lia) (PJ ∅ ∅)
  have cg:=cT.same (a0.trans (O.trans (a6.trans b2))) hX;obtain⟨C,dm,ec⟩:=cT.shown cg;obtain⟨dx,fs,hh,fr,fe,fm⟩:=ec.ex;have sl:S|||2^y<2^n:=aM (b.lt hG) yn;refine#[726];refine#[7,h,C,dx,fs,2,hh,dm,fr,778,#[994],86];refine#[h,n,S|||2^y,r,6,cg,⟨dx,fs,hh⟩,n8,sl,λH9 cN=> ?_]
  ·(try dsimp only);rw[o9,gF]
  refine#[726];rw[P8]at hV hM;have sq:=Ac pm (gG (dI c y col)) cy hV hM;have e8:rho p (bz (gG (dI c y col)) (List.range R)) (ao S++[y])=bE p (bz (gG (dI c y col)) (List.range R)) (S|||2^y):=fO pm λj=>by rw[iu (),Pz,PR,Pk];exact Or.comm
  rw[e8]at sq;rw[a8,a8];refine#[27,cC (λh1=> ?_) λh1=> ?_]
  .have ne:¬(bE p (bz (gG (dI c y col)) (List.range R)) (S|||2^y)=R↔r (S|||2^y)=R):=λz=>by have:decide (kk=R)=decide (r (S|||2^y)=R):=Q1.mpr (sq.trans z);rw[this]at h1;simp at h1
   exact k false H9 (a0.trans (O.trans (a6.trans (b2.trans cN)))) #[λz=>(nomatch z),λz=>absurd (z S b zR) ne]
  .have e9:decide (kk=R)=decide (r (S|||2^y)=R):=by cases h3:decide (kk=R)<;>cases h4:decide (r (S|||2^y)=R)<;>rw[h3,h4]at h1<;>first|rfl|exact absurd rfl h1
   refine#[some (.int (S:Int)),some (.ref o),a6.trans (b2.trans cN),λS2 B=> ?_,2];rw[QF,N]at B;rcases Pz.mp B with B|B
   .exact bM S2 B
   .have B:(S2:Int)=(S:Int):=#[5,B]
    have:S2=S:=()
    rw[this];exact sq.symm.trans (Q1.mp e9)
 .rintro σ U ⟨v6,v7,a3,bM,rfl⟩;refine k true U (a0.trans (O.trans a3)) #[λ_ S b zS=> ?_,λ_=>rfl];refine bM S ?_;rw[My,QG];exact(gB G8).mpr #[S,2,b,9]
theorem Fd:aE U5 U5 (aq md):=aS
theorem FH(T:Tb K mg)(D:bo K mg "single" md U5):Cal P w K mg base 1 "single" U5 Ai:=by
 refine D.cal Fd λf cdv A outer s H vs Q E o h=> ?_;obtain⟨n,p,rfl,j,k⟩:=h;refine#[_,(aj (aC (wlc [Wf] ["place"] [1] (wrng T.range_ (pv 0)) (wnC 0) bW (pV (wpt a7 (pv 0) (pv 1)) ae ae)))),6];refine#[77996];rw[Pj];refine gC (λ_=>true) (λi=> .int (if i=p then 1 else 0)) (Pr j ∅) (λi vs H' R S m g r b=> ?_) λq a d l c=> ?_
 .obtain⟨v,rfl⟩:=bG g;simp only[bC,jg,Pd];refine#[77276];have:=b [some (.int (0+(i:Nat)))] H' rfl (Same.refl _);rw[Pd rfl]at this;by_cases e:i=p
  .subst e;rw[Pd (Pe (by rw[QO]))];rwa[Pd rfl]at this
  .rw[Pb (λz=>e (by have:=V.int.inj (PH z);lia))];rwa[Pb e]at this
 .refine k q a l d (c.trans ?_);unfold ik lq;rw[QW.mpr (λ_ _=>rfl),P8];rfl
theorem jU:aE ["self",Vq,"out",Wc,"kept"] UJ (aq dQ):=aS
theorem jZ{Z:Hs}(D:fK K Vk "Minor.__init__" dQ UJ f)(M:mg V4=some (.ref C_House))(c:Cls K cM)(n1:aR K cM Vi)(n2:aR K cM Vq)(n3:aR K cM "kept")(n4:aR K cM Wc)(n5:aR K cM VN)(z:df Z)(hc:∀C,Z.dom C->HC K C_House C)(hj:3<=j)(J:vW P w K mg base 1 C_House Vk UP (iK K))(N:Cal P w K mg base 1 "less" UW qH)(O:Cal P w K mg base 3 V5 UZ kU)(L:∀C,Z.dom C->bQ P w K mg base 2 C Vj U0 (d8 K))(U:∀C,Z.dom C->bQ P w K mg base j C Vm nS (dX Z C)):
  gw P w K mg base (j+1) f UJ (tR Z cM):=by
 refine D.fn jU λcdv A outer b8 H vs Q E g h=> ?_;obtain⟨p,d,h,n,o,i,r,rfl,hp,u,B,hw,k⟩:=h;refine#[_,(ab (wset 4 jU.nd (wcal N g (aa (fC L g () (pv 1)) (aa (aB pW (pv 2) (pv 3)) af))))
   (ab (c8 (jX J g () (c9 (v:= .ref C_House) ⋯ M rfl) (aa (pv 0) (aa (wcal O g (aa (pv 4) af)) af))))
   (ab (wsf K (pv 0) (pv 1))
   (ab (wsf K (pv 0) (pv 4))
   (ab (wsf K (pv 0) (pv 3))
   (aj (wsf K (pv 0) (fo U g () (pv 1) (aa (pv 3) af))))))))),6]
 obtain⟨C,q,y⟩:=z.shown u;have x:h≠p:=lR y;obtain⟨a,fs,bk,a5,a3,a4⟩:=y.ex;have s:H h=some (.ins C a fs):=(de (H:=H) x).symm.trans bk;obtain⟨aD,bS,b7,b2⟩:=hc C q;have b6:0<2^n:=Q9 ();have p8:=rD B;have ef:(1*2^((n:Nat):Int).toNat-1:Int)=((2^n-1:Nat):Int):=by rw[dO];lia
 have kl:aw (2^n-1) (o|||i)<2^n:=j5;refine#[7,h,C,a,fs,2,s,q,a3,h,C,a,fs,(n:Int),2,s,aD,bS,a4,99778,2^n-1,o|||i,66]
 ·(try dsimp only);rw[ef,gF];rfl
 generalize aw (2^n-1) (o|||i)=kp at*;refine#[277,(kp:Int),299,λt m=> ?_];refine#[p,cM,d,7,m.at hp,c,n1,6];rw[Pj];have up:∀ {o:HO},upd t p o h=some (.ins C a fs):=λ{o}=>by rw[aA x];exact m.at s
 refine#[77,p,cM,d,7,ah,c,n2,Px (aG _ _ _) (by show 0+1<1000;decide),6];rw[fM];refine#[77,p,cM,d,7,ah,c,n3,Px (aG _ _ _) (Px (Qg (aG _ _ _)) (by show 0+1+1<1000;decide)),6];rw[fM];refine#[77,p,cM,d,7,ah,c,n4,Px (aG _ _ _) (Px (Qg (aG _ _ _)) (Px (Qg (Qg (aG _ _ _))) (by show 0+1+1+1<1000;decide))),6];rw[fM];have bX:∀ {o:HO},Same (hide H p) (upd t p o):=λ{o} b o' e=>by
  unfold hide at e;split at e
  .cases e
  .rename_i l;rw[aA l];exact m.at e
 refine#[7,h,C,a,fs,2,up,q,a5,7,h,n,i,r,2,z.same bX u,#[a,fs,up],B,hw,λH5 G=> ?_];refine#[7,p,cM,d,7,G.at ah,c,n5,66]
 .exact Px (aG _ _ _) (Px (Qg (aG _ _ _)) (Px (Qg (Qg (aG _ _ _))) (Px (Qg (Qg (Qg (aG _ _ _)))) (by show 0+1+1+1+1<1000;decide))))
 refine k _ (λb o e l=> ?_) ah;rw[aA l];exact G.at (by rw[aA l];exact m.at e)
theorem vB:aE nS nS (aq ia):=aS
theorem og{Z:Hs}(D:fK K Vm "Minor.rank" ia nS f)(c:Cls K cM)(n2:aR K cM Vq)(n3:aR K cM "kept")(n4:aR K cM Wc)(n5:aR K cM VN)(z:df Z)(hj:3<=j)(B:Cal P w K mg base 3 "spread" Vh Ah)(G:∀C,Z.dom C->bQ P w K mg base j C Vm nS (dX Z C)):
  gw P w K mg base (j+1) f nS (dX (qi Z cM) cM):=by
 refine D.fn vB λcdv A outer bB H vs Q E q h=> ?_;obtain⟨a,n,s,r,rfl,L,⟨a5,bp,br⟩,n8,t,k⟩:=h;refine#[_,(aj (aC (aB gs (fo G q () (wfld K (pv 0)) (aa (aB pW (wcal B q (aa (pv 1) (aa (wfld K (pv 0)) af))) (wfld K (pv 0))) af)) (wfld K (pv 0))))),6];obtain⟨d,h,u,g,i,r',e,m,en,v,p,U,N⟩:=L;have s2:=mh n8 t;have k2:=mh v p;obtain⟨C,J,O⟩:=z.shown m;obtain⟨l,fs,o,fr,fe,fm⟩:=O.ex;have sl:aT s g|||i<2^u:=QB ((fq s g).lt p) U;refine#[7,a,cM,d,17,e,c,n2,FQ _ _ _ _ _,h,C,l,fs,2,o,J,fr,6];refine#[77,a,cM,d,17,e,c,n3,Je _ _ _ _ _,(s:Int),(g:Int),2999,λH1 b=> ?_];have M:=z.same b m;refine#[7,a,cM,d,17,b.at e,c,n4,FR _ _ _ _ _,8,h,u,aT s g|||i,r',6,M,⟨l,fs,b.at o⟩,v,sl,λy x=> ?_]
 ·(try dsimp only);rw[Pj,Pj,gF]
 refine#[7,a,cM,d,17,x.at (b.at e),c,n5,Nr _ _ _ _ _,86];have:=k y (b.trans x);rwa[N s t]at this
theorem pA:aE UG UG (aq dP):=aS
theorem jY{Z:Hs}(D:fK K Vk "Other.__init__" dP UG f)(M:mg V4=some (.ref C_House))(d:Cls K cO)(n1:aR K cO Vi)(n2:aR K cO Vq)(y:aR K cO "full")(n4:aR K cO VR)(hc:∀C,Z.dom C->HC K C_House C)(G:df Z)(hj:2<=j)(J:vW P w K mg base 1 C_House Vk UP (iK K))(L:∀C,Z.dom C->bQ P w K mg base 2 C Vj U0 (d8 K))(N:∀C,Z.dom C->bQ P w K mg base j C Vm nS (dX Z C)):
  gw P w K mg base (j+1) f UG (tQ Z cO):=by
 refine D.fn pA λcdv A outer bN H vs Q E l h=> ?_;obtain⟨p,a,h,n,r,rfl,hp,s,n8,k⟩:=h;refine#[_,(ab (c8 (jX J l () (c9 (v:= .ref C_House) ⋯ M rfl) (aa (pv 0) (aa (wfld K (pv 1)) af))))
   (ab (wsf K (pv 0) (pv 1))
   (ab (wsf K (pv 0) (fC L l () (pv 1)))
   (aj (wsf K (pv 0) (fo N l () (pv 1) (aa (wfld K (pv 0)) af))))))),6]
 obtain⟨C,i,x⟩:=G.shown s;have u:h≠p:=lR x;obtain⟨c,fs,aD,ay,U,q⟩:=x.ex;have t:H h=some (.ins C c fs):=(de (H:=H) u).symm.trans aD;obtain⟨m,z,bM,bu⟩:=hc C i;have bB:0<2^n:=Q9 ();refine#[277,h,C,c,fs,7,t,m,z,q,p,cO,a,7,hp,d,n1,6];have up:∀ {o:HO},upd H p o h=some (.ins C c fs):=λ{o}=>by rw[aA u];exact t
 have a3:upd H p (.ins cO a (aY Vi (.int (n:Int)) [])) p=some (.ins cO a (aY Vi (.int (n:Int)) [])):=ah;refine#[77,p,cO,a,7,a3,d,n2,Px (aG _ _ _) (by show 0+1<1000;decide),6];rw[fM];refine#[7,h,C,c,fs,2,up,i,U,h,C,c,fs,(n:Int),2,up,m,z,q,997,p,cO,a,7,ah,d,y,66]
 .exact Px (aG _ _ _) (Px (Qg (aG _ _ _)) (by show 0+1+1<1000;decide))
 rw[fM];have O:(1*2^((n:Nat):Int).toNat-1:Int)=((2^n-1:Nat):Int):=by rw[dO];lia
 rw[O];have lk:(aY "full" (V.int ((2^n-1:Nat):Int)) (aY Vq (V.ref h) (aY Vi (V.int (n:Int)) []))).lookup ("full":Str)=some (.int ((2^n-1:Nat):Int)):=aF _ _ _;have bp:∀ {o:HO},Same (hide H p) (upd H p o):=λ{o} b o' e=>by
  unfold hide at e;split at e
  .cases e
  .rename_i g;rw[aA g];exact e
 refine#[7,h,C,c,fs,2,up,i,ay,7,p,cO,a,17,ah,d,y,lk,h,n,2^n-1,r,2,G.same bp s,#[c,fs,up],n8,9,λH5 B=> ?_];refine#[7,p,cO,a,7,B.at ah,d,n4,66]
 .exact Px (aG _ _ _) (Px (Qg (aG _ _ _)) (Px (Qg (Qg (aG _ _ _))) (by show 0+1+1+1<1000;decide)))
 refine k _ (λb o e g=> ?_) ah;rw[aA g];exact B.at (by rw[aA g];exact e)
theorem oa:aE ["self","s","outside"] nS (aq hU):=aS
theorem oe{f C_House cO:Addr}{Z:Hs}(D:fK K Vm "Other.rank" hU nS f)(c:Cls K cO)(U:aR K cO Vq)(n3:aR K cO "full")(n4:aR K cO VR)(o:df Z)(N:∀C,Z.dom C->cO≠C)(hj:3<=j)(z:Cal P w K mg base 1 "less" UW qH)(B:Cal P w K mg base 3 V5 UZ kU)(G:∀C,Z.dom C->bQ P w K mg base j C Vm nS (dX Z C)):
  gw P w K mg base (j+1) f nS (dX (hsO Z cO) cO):=by
 refine D.fn oa λcdv A outer bt H vs Q E l h=> ?_;obtain⟨a,n,s,r,rfl,g,⟨a3,bk,M⟩,v,u,k⟩:=h;refine#[_,(ab (wset 2 oa.nd (wcal z l (aa (wfld K (pv 0)) (aa (pv 1) af))))
   (aj (aC (aB gs (aB dJ (wcal B l (aa (pv 1) af)) (fo G l () (wfld K (pv 0)) (aa (pv 2) af))) (wfld K (pv 0)))))),6]
 rcases g with g|⟨e,h,r',i,J,O⟩
 .obtain⟨C,d,m⟩:=o.shown g;obtain⟨a0,a6,L,_⟩:=m.ex;exact absurd (yN M L) (N C d)
 .have s2:=mh v u;refine#[7,a,cO,e,17,i,c,n3,IB _ _ _ _,7,2^n-1,s,26];refine#[7,(s:Int),299,λH1 b=> ?_];rw[Pj];have q:=o.same b J;obtain⟨C,d,m⟩:=o.shown q;obtain⟨p,fs,t,fr,fe,fm⟩:=m.ex;refine#[7,a,cO,e,17,b.at i,c,U,FA _ _ _ _,h,C,p,fs,2,t,d,fr,7,h,n,aw (2^n-1) s,r',2,q,#[p,fs,t],v,j5,λy x=> ?_];refine#[87,a,cO,e,17,x.at (b.at i),c,n4,Nj _ _ _ _,86];have:=k y (b.trans x);rwa[O s u]at this
theorem Co:aE Ve Ve (aq kI):=aS
theorem CJ(T:Tb K mg)(D:bo K mg VW kI Ve)(o:Cal P w K mg base 3 "parts" UZ sy)(r:Cal P w K mg base 3 V5 UZ kU):Cal P w K mg base 4 VW Ve kA:=by
 refine D.cal Co λf cdv A outer az H vs Q E j h=> ?_;obtain⟨s,a,rfl,t,u,k⟩:=h;refine#[_,(aj (aC (wlc ["part"] ["k"] [1] (wil K (wcal o j (aa (pv 0) af))) (wnC 0) (ee (wpt a7 (wcal r j (aa (pv 0) af)) (pv 1))) (pv 0)))),6];refine#[7,s,2,t,u,λp H1 n ay g=>#[p,2,#[_,SqL.of g],6]];have G:=Fv s.toNat;have J:=AL (show s.toNat<256 by lia);refine cf (λx=>(λz:Int=>decide ((((bits z.toNat).length:Nat):Int)=a)) (bJ x)) (λx=> .int ((λz:Int=>z) (bJ x))) (SqL.of g) (by rw[My];exact Pr G ∅) (λi x vs H' R S M L m B=> ?_) λD H' y m hl=> ?_
 .obtain⟨v,rfl⟩:=bG L;obtain⟨z,rfl,N⟩:=bK M;obtain⟨U,z1⟩:=J z (Pq N);refine#[7,z,2,U,z1,λc O=>#[7276]];have q:=B [some (.int z)] c rfl O;have b:if decide ((((bits z.toNat).length:Nat):Int)=a)=true then R (.int z) _ c else S _ c:=q;have e:decide (V.int (((bits z.toNat).length:Nat):Int)=V.int a)=decide ((((bits z.toNat).length:Nat):Int)=a):=Q1.mpr #[λz=>V.int.inj z,λz=>by rw[z]];rw[e];show if decide ((((bits z.toNat).length:Nat):Int)=a)=true then _ else _;by_cases d:decide ((((bits z.toNat).length:Nat):Int)=a)=true
  .rw[Pd d]at b⊢;exact#[7,b]
  .rw[Pb d]at b⊢;exact b
 replace hl:=hl.trans (Qd (λl=>some (HO.lst l)) (bO (λz:Int=>decide ((((bits z.toNat).length:Nat):Int)=a)) (λz:Int=>z) (ki s.toNat)));rw[show(λz:Int=>z)=id from rfl,RX]at hl;exact k D H' (n.trans m) (n.free y) hl
theorem Cm:aE Vg Vg (aq kF):=aS
theorem CI(T:Tb K mg)(D:bo K mg "holders" kF Vg)(g:Cal P w K mg base 1 "within" UW Af):Cal P w K mg base 2 "holders" Vg (wm K):=by
 refine D.cal Cm λf cdv A outer B H vs Q E o h=> ?_;obtain⟨a,p,L,rfl,c,m,k⟩:=h;refine#[_,(aj (aC (wlc ["t"] UZ [1] (wil K (pv 0)) (wnC 0) (ee (di (wcal g o (aa (pv 1) (aa (pv 0) af))))) (pv 0)))),6];refine#[7,a,2,#[_,c],6];refine cf (λx=>(λz:Int=>decide (p&&&z.toNat=p)) (bJ x)) (λx=> .int ((λz:Int=>z) (bJ x))) c (by rw[My,cq];exact Pr m ∅) (λi x vs H' R S s r e n=> ?_) λD H' j e hl=> ?_
 .obtain⟨v,rfl⟩:=bG r;obtain⟨z,rfl,u⟩:=bK s;obtain⟨t,y,rfl⟩:=eZ (Pq u);have q:=n [some (.int (t:Int))] H' rfl (Same.refl _);refine#[77,(p:Int),(t:Int),29976];rw[Pj,Pj];have b:if decide (p&&&t=p)=true then R (.int (t:Int)) _ H' else S _ H':=q;show if decide (p&&&t=p)=true then _ else _;by_cases d:decide (p&&&t=p)=true
  .rw[Pd d]at b⊢;exact#[7,b]
  .rw[Pb d]at b⊢;exact b
 replace hl:=hl.trans (Qd (λl=>some (HO.lst l)) (bO (λz:Int=>decide (p&&&z.toNat=p)) (λz:Int=>z) (cB L)));rw[show(λz:Int=>z)=id from rfl,RX,fQ]at hl;exact k D H' e j hl
theorem vx:aE Uv Uv (aq gO):=aS
theorem km{Z:Hs}(v:df Z)(s:∀C,Z.dom C->HC K C_House C)(D:bo K mg Vu gO Uv)(x:2<=j)(l:∀C,Z.dom C->bQ P w K mg base 2 C Vj U0 (d8 K))(m:∀C,Z.dom C->bQ P w K mg base j C Vm nS (dX Z C)):Cal P w K mg base (j+1) Vu Uv (iY Z):=by refine D.cal vx λf cdv A outer B H vs Q E g h=> ?_;obtain⟨a,n,r,rfl,e,i,k⟩:=h;refine#[_,(aj (aC (fo m g () (pv 0) (aa (fC l g () (pv 0)) af)))),6];obtain⟨C,d,t⟩:=v.shown e;obtain⟨b,fs,c,fr,p,q⟩:=t.ex;obtain⟨o,u,_,_⟩:=s C d;have y:=qN i;have z:0<2^n:=Q9 ();refine#[7,a,C,b,fs,2,c,d,fr,7,a,C,b,fs,2,c,d,p,a,C,b,fs,n,2,c,o,u,q,996];rw[je];exact#[a,n,2^n-1,r,2,e,#[b,fs,c],i,9,k]
theorem Ck:aE U2 U2 (aq kE):=aS
theorem CH{Z:Hs}(T:Tb K mg)(g:df Z)(hc:∀C,Z.dom C->HC K C_House C)(D:bo K mg "is_even" kE U2)(hj:4<=j)(ag:∀C,Z.dom C->bQ P w K mg base 2 C Vj U0 (d8 K))(ax:∀C,Z.dom C->bQ P w K mg base j C Vm nS (dX Z C))(ai:Cal P w K mg base (j+1) Vu Uv (iY Z))(ar:Cal P w K mg base 4 VW Ve kA):Cal P w K mg base (j+2) "is_even" U2 (Al Z):=by
 refine D.cal Ck λf cdv A outer c4 H vs Q E o h=> ?_;obtain⟨a,n,m,b,r,rfl,t,e,k⟩:=h;refine#[_,(ab (aZ (PW.pt (iA (wpt iB (wfld K (pv 0)) (pv 1)) (ie (wpt iB (wcal ai o (aa (pv 0) af)) (pv 2)))))
     (aj (aC fD))
     aO)
   (aj (aC (eO (vc (K:=K) ⋯ ⋯) ⋯ T.all_ PyProof.Rows.boot_all (aa (wlc UZ ["k",Vq] [2,0] (wil K (wcal ar o (aa (fC ag o () (pv 0)) (aa (pv 2) af)))) (wnC 0) bW (wpe a7 (fo ax o () (pv 2) (aa (pv 0) af)) (pv 1))) af))))),6]
 obtain⟨C,dm,b7⟩:=g.shown t;obtain⟨dx,fs,ha,fr,fe,fm⟩:=b7.ex;obtain⟨cl,nM,_,_⟩:=hc C dm;have hp:=qN e;have c2:0<2^n:=Q9 ();refine#[7,a,C,dx,fs,7,ha,cl,nM,fm,727,cC (λc=>lF ?_) λc=> ?_]
 .rw[a8]at c;have y:¬n=m:=#[5,c]
  have:=k H (Same.refl _);unfold dg at this;rwa[Pc y,Qv,Qv]at this
 rw[a8]at c;have y:n=m:=#[5,c]
 refine#[7,a,n,r,2,t,e,λH1 G=>#[727,cC (λd=> ?_) λd=> ?_]]
 .rw[a8]at d;have b5:¬r (2^n-1)=b:=#[5,d]
  have:=k H1 G;unfold dg at this;rwa[Pc b5,Qw,Qv]at this
 rw[a8]at d;have b4:r (2^n-1)=b:=#[5,d]
 have ay:=g.same G t;obtain⟨C1,J,b9⟩:=g.shown ay;obtain⟨M,O,aD,cN,bS,b0⟩:=b9.ex;obtain⟨bA,cp,_,_⟩:=hc C1 J;refine#[7,a,C1,M,O,2,aD,J,bS,a,C1,M,O,n,2,aD,bA,cp,b0,996];rw[je];refine#[7,((2^n-1:Nat):Int),(b:Int),299,λp H2 a3 c1 u=>#[p,2,#[_,SqL.of u],6]];rw[Pj,mX e]at u;refine cf (λx=>(λ_=>true) (bJ x)) (λx=>V.bl ((λz:Int=>decide (r z.toNat=b)) (bJ x))) (SqL.of u) (by rw[My,cq];exact Pr (sX n b e) ∅) (λi x vs H' R S hx hv B hk=> ?_) λD H' hD B hl=> ?_
 .obtain⟨v,rfl⟩:=bG hv;obtain⟨z,rfl,hz⟩:=bK hx;obtain⟨s,hs,rfl⟩:=eZ (Pq hz);obtain⟨s1,s2⟩:=iP.mp hs;have U:=g.same (a3.trans B) ay;obtain⟨C',bM,b8⟩:=g.shown U;obtain⟨L,N,az,b1,cL,cM⟩:=b8.ex;simp only[bC,jg,Pd];refine#[7,a,C',L,N,2,az,bM,b1,7,a,n,s,r,2,U,#[L,N,az],e,s1,λH3 cy=>#[726]];have q:=hk [some (.int (s:Int))] H3 rfl cy;rw[Pd rfl]at q;rw[a8];exact q
 replace hl:=hl.trans (Qd (λl=>some (HO.lst l)) (qQ (λz:Int=>decide (r z.toNat=b)) (cB (dW n b))));refine#[D,7,SqL.of hl,6];rw[BF];have:=k H' (G.trans (a3.trans B));unfold dg at this;rwa[Pe y,Pe b4,Qy,Qy]at this
theorem lZ:aE [Vq,Vj,"lines"] Uv (aq jF):=aS
theorem AU{Z:Hs}(T:Tb K mg)(y:df Z)(m:∀C,Z.dom C->HC K C_House C)(D:bo K mg "is_seven" jF Uv)(hj:4<=j)(ai:∀C,Z.dom C->bQ P w K mg base 2 C Vj U0 (d8 K))(ay:∀C,Z.dom C->bQ P w K mg base j C Vm nS (dX Z C))(ar:Cal P w K mg base (j+1) Vu Uv (iY Z))(ag:Cal P w K mg base 4 VW Ve kA)(az:Cal P w K mg base 3 V5 UZ kU)(ax:Cal P w K mg base 2 "holders" Vg (wm K)):Cal P w K mg base (j+2) "is_seven" Uv (wk Z):=by
 refine D.cal lZ λf cdv A outer d7 H vs Q E c h=> ?_;obtain⟨a,n,r,rfl,N,b,k⟩:=h;refine#[_,(ab (aZ (PW.pt (iA (wpt iB (wfld K (pv 0)) ae) (ie (wpt iB (wcal ar c (aa (pv 0) af)) ae))))
     (aj (aC fD))
     aO)
   (ab (wset 1 lZ.nd (fC ai c () (pv 0)))
   (ab (wset 2 lZ.nd (wlc UZ Uv [0] (wil K (wcal ag c (aa (pv 1) (aa ae af)))) (wnC 0) (ee (wpt rF (fo ay c () (pv 1) (aa (pv 0) af)) (wcal az c (aa (pv 0) af)))) (pv 0)))
   (aj (aC (eO (vc (K:=K) ⋯ ⋯) ⋯ T.all_ PyProof.Rows.boot_all (aa (wlc ["pair"] ["lines"] [2] (wil K (wcal ag c (aa (pv 1) (aa ae af)))) (wnC 0) bW (wpe a7 (wlen K T.len_ (wcal ax c (aa (pv 1) (aa (pv 0) af)))) ae)) af))))))),6]
 obtain⟨C,dm,c3⟩:=y.shown N;obtain⟨dx,fs,ha,fr,fe,fm⟩:=c3.ex;obtain⟨cl,nM,_,_⟩:=m C dm;have hp:=qN b;have d4:0<2^n:=Q9 ();refine#[7,a,C,dx,fs,7,ha,cl,nM,fm,27,cC (λL=>lF ?_) λL=> ?_]
 .have d:(!decide (V.int (n:Int)=V.int ((7:Nat):Int)))=true:=L;rw[a8]at d;have hn:¬n=7:=#[5,d]
  have:=k H (Same.refl _);unfold cc at this;rwa[Pc hn,Qv,Qv]at this
 have d:¬(!decide (V.int (n:Int)=V.int ((7:Nat):Int)))=true:=L;rw[a8]at d;have hn:n=7:=#[5,d]
 refine#[7,a,n,r,2,N,b,λH1 a6=>#[27,cC (λM=> ?_) λM=> ?_]]
 .have g:(!decide (V.int ((r (2^n-1):Nat):Int)=V.int ((3:Nat):Int)))=true:=M;rw[a8]at g;have c2:¬r (2^n-1)=3:=#[5,g]
  have:=k H1 a6;unfold cc at this;rwa[Pc c2,Qw,Qv]at this
 have g:¬(!decide (V.int ((r (2^n-1):Nat):Int)=V.int ((3:Nat):Int)))=true:=M;rw[a8]at g;have cT:r (2^n-1)=3:=#[5,g]
 have bN:=y.same a6 N;obtain⟨C1,br,c5⟩:=y.shown bN;obtain⟨bu,bB,bX,dw,cL,cN⟩:=c5.ex;obtain⟨cn,dh,_,_⟩:=m C1 br;refine#[7,a,C1,bu,bB,2,bX,br,cL,a,C1,bu,bB,n,2,bX,cn,dh,cN,996];rw[je];refine#[7,((2^n-1:Nat):Int),((3:Nat):Int),299,λp H2 b2 d0 U=>#[p,2,#[_,SqL.of U],6]];rw[Pj,mX b]at U;refine cf (λx=>(λz:Int=>decide (r z.toNat<sz z.toNat)) (bJ x)) (λx=> .int ((λz:Int=>z) (bJ x))) (SqL.of U) (by rw[My,cq];exact Pr (sX n 3 b) ∅) (λi x vs H' R S hx hv u O=> ?_) λpl H3 d2 bk o=> ?_
 .obtain⟨v,rfl⟩:=bG hv;obtain⟨z,rfl,hz⟩:=bK hx;obtain⟨s,hs,rfl⟩:=eZ (Pq hz);obtain⟨s1,s2⟩:=iP.mp hs;have bM:=y.same (b2.trans u) bN;obtain⟨C',ct,c4⟩:=y.shown bM;obtain⟨bt,bA,bS,cO,dt,dv⟩:=c4.ex;refine#[7,a,C',bt,bA,2,bS,ct,cO,7,a,n,s,r,2,bM,#[bt,bA,bS],b,s1,λH3 bk=>#[7,(s:Int),299,λB J=>#[876]]];rw[Pj];have q:=O [some (.int (s:Int))] B rfl (bk.trans J);have G:if decide (r s<sz s)=true then R (.int (s:Int)) _ B else S _ B:=q;have e:decide (((r s:Nat):Int)<(((bits s).length:Nat):Int))=decide (r s<sz s):=Q1.mpr #[λz=>by show r s<(bits s).length;lia,λz=>by have:r s<(bits s).length:=z;lia];rw[e];show if decide (r s<sz s)=true then _ else _;by_cases m:decide (r s<sz s)=true
  .rw[Pd m]at G⊢;exact#[7,G]
  .rw[Pb m]at G⊢;exact G
 replace o:=o.trans (Qd (λl=>some (HO.lst l)) (bO (λz:Int=>decide (r z.toNat<sz z.toNat)) (λz:Int=>z) (cB (dW n 3))));rw[show(λz:Int=>z)=id from rfl,RX,fQ]at o;have eL:((dW n 3).filter λs:Nat=>decide (r (s:Int).toNat<sz (s:Int).toNat))=iH n r:=rfl;rw[eL]at o;have lL:(iH n r).length<=1000:=Pr (QU _ _) (Pr (sX n 3 b) ∅);refine#[7,((2^n-1:Nat):Int),((2:Nat):Int),299,λp4 B J d1 aD=>#[p4,2,#[_,SqL.of aD],6]];rw[Pj,mX b]at aD;refine cf (λx=>(λ_=>true) (bJ x)) (λx=>V.bl ((λz:Int=>decide (((iH n r).filter λt=>decide (z.toNat&&&t=z.toNat)).length=1)) (bJ x))) (SqL.of aD) (by rw[My,cq];exact Pr (sX n 2 b) ∅) (λi x vs H' R S hx hv u O=> ?_) λD H' hD u hl=> ?_
 .obtain⟨v,rfl⟩:=bG hv;obtain⟨z,rfl,hz⟩:=bK hx;obtain⟨s,hs,rfl⟩:=eZ (Pq hz);simp only[bC,jg,Pd];refine#[77,pl,s,iH n r,2,SqL.of ((J.trans u).at o),lL,λq H5 dn d3 c1=>#[q,7, .inl (SqL.of c1),26]];have qq:=O [some (.int (s:Int))] H5 rfl dn;rw[Pd rfl]at qq;rw[My,cq];have e:=a8 ((iH n r).filter λt=>decide (s&&&t=s)).length 1;have e':decide (V.int ((((iH n r).filter λt=>decide (s&&&t=s)).length:Nat):Int)=V.int 1)=decide (((iH n r).filter λt=>decide (s&&&t=s)).length=1):=e;rw[e'];exact qq
 replace hl:=hl.trans (Qd (λl=>some (HO.lst l)) (qQ (λz:Int=>decide (((iH n r).filter λt=>decide (z.toNat&&&t=z.toNat)).length=1)) (cB (dW n 2))));refine#[D,7,SqL.of hl,6];rw[BF];have:=k H' (a6.trans (b2.trans (bk.trans (J.trans u))));unfold cc at this;rwa[Pe hn,Pe cT,Qy,Qy]at this
theorem Cj:aE Uv Uv (aq kD):=aS
theorem CG{cO C_House:Addr}(i:df Z)(D:bo K mg "kind_of" kD Uv)(hj:4<=j)(ax:mg "TWO_OF_FOUR"=some (.str aX t1))(ay:mg "TWO_OF_FIVE"=some (.str ba t2))(ai:mg "THREE_OF_FIVE"=some (.str aU t3))(aD:mg "SEVEN"=some (.str d6 t4))(az:mg "OTHER_SEVEN"=some (.str bb t5))(q:Cal P w K mg base (j+2) "is_even" U2 (Al Z))(a0:kR P w K mg base (j+1) "Other" cO UG (tQ Z cO))(O:Cal P w K mg base (j+3) "is_seven" Uv (wk (hsO Z cO))):Cal P w K mg base (j+4) "kind_of" Uv (Ak Z):=by
 refine D.cal Cj λf cdv A outer b9 H vs Q E c h=> ?_;obtain⟨a,n,r,rfl,hX,d,rk,k⟩:=h;refine#[_,(ab (aZ (di (wcal q c (aa (pv 0) (aa ae (aa ae af)))))
     (aj (aC (c9 (v:= .str aX) ⋯ ax #[7])))
     aO)
   (ab (aZ (di (wcal q c (aa (pv 0) (aa ae (aa ae af)))))
     (aj (aC (c9 (v:= .str ba) ⋯ ay #[7])))
     aO)
   (ab (aZ (di (wcal q c (aa (pv 0) (aa ae (aa ae af)))))
     (aj (aC (c9 (v:= .str aU) ⋯ ai #[7])))
     aO)
   (ab (aZ (di (wcal O c (aa (pv 0) af)))
     (aj (aC (c9 (v:= .str d6) ⋯ aD #[7])))
     aO)
   (ab (aZ (di (wcal O c (aa (iF a0 c () ⋯ (aa (pv 0) af)) af)))
     (aj (aC (c9 (v:= .str bb) ⋯ az #[7])))
     aO)
   (aj (aC fi))))))),6]
 unfold eQ at k;refine#[7,a,n,(4),(2),r,2,hX,d,λH1 g=>#[7,cC (λt=> ?_) λt=> ?_]]
 .have:=k H1 g;rwa[Pd t]at this
 rw[Pb t]at k;have a4:=i.same g hX;refine#[7,a,n,(5),(2),r,2,a4,d,λH2 l=>#[7,cC (λu=> ?_) λu=> ?_]]
 .have:=k H2 (g.trans l);rwa[Pd u]at this
 rw[Pb u]at k;have a5:=i.same l a4;refine#[7,a,n,(5),(3),r,2,a5,d,λH3 m=>#[7,cC (λx=> ?_) λx=> ?_]]
 .have:=k H3 (g.trans (l.trans m));rwa[Pd x]at this
 rw[Pb x]at k;have a6:=i.same m a5;refine#[7,a,n,r,2, .inl a6,d,λM J=>#[7,cC (λy=> ?_) λy=> ?_]]
 .have:=k M (g.trans (l.trans (m.trans J)));rwa[Pd y]at this
 rw[Pb y]at k;have bk:=i.same J a6;have bt:=g.trans (l.trans (m.trans J));refine#[7,λG U B bp b8=>#[G,U,a,n,r,2,ah,i.same (fN B bp) bk,d,λp b5 b3=>#[26]]];have L:Same M p:=λb o e=>b5 b o (by rw[aA (au e B),aA (au e bp)];exact e) (au e B);have hO:OI cO p (Z.ho p) G n (iC n r):=#[U,a,r,b3,i.same L bk,λs hs=>by have:=rk.unit s hs;unfold iC;lia]
 refine#[G,n,iC n r,2, .inr hO,d,λN br=>#[7,cC (λz=> ?_) λz=> ?_]]
 .have:=k N (bt.trans (L.trans br));rwa[Pd z]at this
 .have:=k N (bt.trans (L.trans br));rwa[Pb z]at this
theorem vC:aE nS nS (aq ic):=aS
theorem vP(D:fK K Vm "Known.rank" ic nS f)(b:Cls K C)(i:aR K C "told"):gw P w K mg base 1 f nS (DI C):=by refine D.fn vC λcdv A outer m H vs Q E j h=> ?_;obtain⟨a,n,s,r,rfl,⟨c,t,d,g⟩,l,e,k⟩:=h;refine#[_,(aj (aC (ky K (wfld K (pv 0)) (pv 1)))),6];refine#[7,a,C,c,17,d,b,i,Ju _ _,6];exact#[7,t,3,SqT.of g,mE (by unfold jw;rw[PB,QD e];rfl),k]
theorem pB:aE UG UG (aq dR):=aS
theorem pY{Z:Hs}(T:Tb K mg)(D:fK K Vk "Known.__init__" dR UG f)(L:mg V4=some (.ref C_House))(m:Cls K C)(n1:aR K C Vi)(n2:aR K C "told")(z:df Z)(hc:∀C,Z.dom C->HC K C_House C)(J:vW P w K mg base 1 C_House Vk UP (iK K))(M:Cal P w K mg base 7 "ranks" Uv (tM Z)):
  gw P w K mg base 8 f UG (DP Z C):=by
 refine D.fn pB λcdv A outer bS H vs Q E y h=> ?_;obtain⟨p,i,h,n,r,rfl,hp,u,n8,k⟩:=h;refine#[_,(ab (c8 (jX J y ∅ (c9 (v:= .ref C_House) ⋯ L rfl) (aa (pv 0) (aa (wfld K (pv 1)) af))))
   (aj (wsf K (pv 0) (eY (fJ (K:=K) ⋯) ⋯ T.tuple_ RG (aa (wcal M y (aa (pv 1) af)) af))))),6]
 obtain⟨g,O,B⟩:=z.shown u;have aD:h≠p:=lR B;obtain⟨s,fs,az,bu,bt,U⟩:=B.ex;have hh:H h=some (.ins g s fs):=(de (H:=H) aD).symm.trans az;obtain⟨N,bk,bN,bB⟩:=hc g O;refine#[277,h,g,s,fs,7,hh,N,bk,U,p,C,i,7,hp,m,n1,6];have bp:∀ {o:HO},Same (hide H p) (upd H p o):=λ{o} b o' e=>by
  unfold hide at e;split at e
  .cases e
  .rename_i c;rw[aA c];exact e
 refine#[7,h,n,r,2,z.same bp u,n8,λq H2 j hq a0=> ?_];refine#[q,7, .inl #[SqL.of a0,λt d=> ?_]];have x:=j.at (ah (H:=H) (a:=p) (o:= .ins C i (aY Vi (.int (n:Int)) [])));have l:t≠p:=λe=>by rw[e,x]at d;cases d
 have G:H t=none:=by
  cases e:H t with
  |none=>rfl
  |some o=>rw[j.at (by rw[aA l];exact e)]at d;cases d
 refine#[7,p,C,i,7,(by rw[aA l.symm];exact x),m,n2,66]
 .exact Px (aG _ _ _) (by show 0+1<1000;decide)
 refine k t _ G (λb o e c=> ?_) (by rw[aA l,ah]) ah;rw[aA c,aA (au e G)];exact j.at (by rw[aA c];exact e)
theorem Hz:aE Uv Uv (aq pE):=aS
theorem II{Z:Hs}(z:df Z)(D:bo K mg "ranks" pE Uv)(hc:∀C,Z.dom C->HC K C_House C)(J:∀C,Z.dom C->bQ P w K mg base 6 C Vm nS (dX Z C))(B:∀C,Z.dom C->bQ P w K mg base 2 C Vj U0 (d8 K))(G:Cal P w K mg base 3 "parts" UZ sy):Cal P w K mg base 7 "ranks" Uv (tM Z):=by
 refine D.cal Hz λf cdv A outer bB H vs Q E o h=> ?_;obtain⟨a,n,r,rfl,t,u,k⟩:=h;refine#[_,(aj (aC (wlc UZ Uv [0] (wil K (wcal G o (aa (fC B o ∅ (pv 0)) af))) (wnC 0) bW (fo J o ∅ (pv 1) (aa (pv 0) af))))),6];have p8:=rD u;have bA:0<2^n:=Q9 ();obtain⟨C,j,a0⟩:=z.shown t;obtain⟨d,fs,g,fr,M,N⟩:=a0.ex;obtain⟨L,nM,ty,bu⟩:=hc C j;refine#[7,a,_,d,fs,2,g,j,M,a,_,d,fs,(n:Int),2,g,L,nM,N,996];rw[je];refine#[799,λp H1 c bt m=>#[p,2,#[_,SqL.of m],6]];rw[Pj,qP n ()]at m;refine cf (λx=>(λ_=>true) (bJ x)) (λx=> .int ((λz:Int=>((r z.toNat:Nat):Int)) (bJ x))) (SqL.of m) (by rw[My,My,Pw];exact Pr p8 ∅) (λi x vs H' R S hx hv b hk=> ?_) λD H' U b hl=> ?_
 .obtain⟨v,rfl⟩:=bG hv;obtain⟨z,rfl,hz⟩:=bK hx;obtain⟨s,hs,rfl⟩:=Pl.mp (Pq hz);have aD:=Pf.mp hs;simp only[bC,jg,Pd];have O:=z.same b (z.same c t);refine#[7,a,_,d,fs,2,b.at (c.at g),j,fr,7,a,n,s,r,2,O,#[d,fs,b.at (c.at g)],u,aD,λy bp=> ?_];have q:=hk [some (.int (s:Int))] y rfl bp;rwa[Pd rfl]at q
 replace hl:=hl.trans (Qd (λl=>some (HO.lst l)) (bO (λ_=>true) (λz:Int=>((r z.toNat:Nat):Int)) ((List.range (2^n)).map λk:Nat=>(k:Int))));have e:List.map (λz:Int=>((r z.toNat:Nat):Int)) (List.map (λk:Nat=>(k:Int)) (List.range (2^n)))=jw n r:=by unfold jw;rw[P8];rfl
 rw[QW.mpr (λ_ _=>rfl),e]at hl;exact k D H' (c.trans b) (c.free U) hl
inductive BS(K:Frag)(cN:Addr)(vs:List V)(H:Hp)(Q:VK):Prop
 |mk(c:Addr) (cs:List Int) (n:Nat) (_:vs=[.ref c, .int (n:Int)]) (_:SqL K H c (cs.map V.int)) (_:0<cs.length) (_:n<=6) (_:∀(h:Addr)(p:Nat) (ts:List (Nat×Nat)) H',Same H H'->OL cN H' h n (rkC (ts.map eT))->ts.length=n->ri p ts->Q (.ref h) H'):BS K cN vs H Q
def DK(K:Frag)(cN:Addr):Sp:=λvs H Q _=>BS K cN vs H Q
inductive BJ(K:Frag)(cT:Addr)(vs:List V)(H:Hp)(Q:VK):Prop
 |mk(c:Addr) (cs:List Int) (n:Nat) (m:Int) (_:vs=[.ref c, .int (n:Int), .int m]) (_:SqL K H c (cs.map V.int)) (_:0<cs.length) (_:n<=6) (_:bg m) (_:∀(h:Addr) (M:List (List Int)) H',Same H H'->NT cT H' h n (bE m (M.map cu))->Q (.ref h) H'):BJ K cT vs H Q
def sx(K:Frag)(cT:Addr):Sp:=λvs H Q _=>BJ K cT vs H Q
inductive B2(K:Frag)(Z:Hs)(vs:List V)(H:Hp)(Q:VK):Prop
 |mk(c:Addr) (cs:List Int) (n:Nat) (way:Int) (_:vs=[.ref c, .int (n:Int), .int way]) (_:SqL K H c (cs.map V.int)) (_:0<cs.length) (_:cs.length<=64) (_:n<=6) (_:0<=way) (_:way<7) (_:∀(h:Addr)(r:Nat->Nat) H',Same H H'->Z.ho H' h n r->Mat n r->(way=0\/way=1->Rep 2 n r)->(way=0\/way=2->Rep 3 n r)->Q (.ref h) H'):B2 K Z vs H Q
def DQ(K:Frag)(Z:Hs):Sp:=λvs H Q _=>B2 K Z vs H Q
structure LZ(word:Int)(n R:Nat)(r:Nat->Nat)(c:Nat->List Int):Prop where
 num:∀t,t<n->∀i,i<R->(if word=0 then-1 else 0)<=(c t).getD i 0/\(c t).getD i 0<=(if word=0 then 1 else word-1)
 pos:0<word->∀S,S<2^n->sz S=R->(¬word∣aK (bz (gG c) (List.range R)) (ao S)↔r S=R)
 all:word=0->∀S,S<2^n->sz S=R->(r S=R->Pm (aK (bz (gG c) (List.range R)) (ao S)))/\(r S≠R->aK (bz (gG c) (List.range R)) (ao S)=0)
def jP(word:Int)(n:Nat)(r:Nat->Nat):Prop:=(word≠3->Rep 2 n r)/\(word≠2->Rep 3 n r)
theorem Ax:jP 2 n r↔Rep 2 n r:=#[λh=>h.1 ∅,λh=>#[λ_=>h,λz=>absurd rfl z]]
theorem Aw:jP 3 n r↔Rep 3 n r:=#[λh=>h.2 ∅,λh=>#[λz=>absurd rfl z,λ_=>h]]
theorem HF:jP 0 n r↔Rep 2 n r/\Rep 3 n r:=#[λh=>#[h.1 ∅,h.2 ∅],λh=>#[λ_=>h.1,λ_=>h.2]]
def jM(word:Int):List Str:=if word=2 then ["two of four"]else if word=3 then ["two of five","three of five","seven","other seven"]else ["two of four","seven","other seven"]
def Word(word:Int):Prop:=word=2\/word=3\/word=0
inductive B6(Z:Hs)(vs:List V)(H:Hp)(Q:VK):Prop
 |mk(h:Addr) (word:Int) (n R:Nat) (r:Nat->Nat) (_:vs=[.int word, .ref h]) (_:Word word) (_:Z.ho H h n r) (_:Mat n r) (_:r (2^n-1)=R) (_:Cl3 n r) (_:(∀c l xs t H',Same H H'->H' t=some (.tup [.str Wa, .ref l])->H' l=some (.lst xs)->aQ (hide H' l) xs (iz c n R)->LZ word n R r c->jP word n r->Q (.ref t) H')) (_:(∀k s w t H',Same H H'->H' t=some (.tup [.str V8, .int (aw (aw (2^n-1) s) w:Nat), .int (w:Int), .str k])->k∈jM word->s<2^n->Sub w (aw (2^n-1) s)->eQ (sz s) (cJ r s w)= .str k->¬jP word n r->Q (.ref t) H')):B6 Z vs H Q
def DS(Z:Hs):Sp:=λvs H Q _=>B6 Z vs H Q
inductive BI(Z:Hs)(vs:List V)(H:Hp)(Q:VK):Prop
 |mk(h:Addr) (word:Int) (n:Nat) (r:Nat->Nat) (_:vs=[.int word, .ref h]) (_:Word word) (_:Z.ho H h n r) (_:Mat n r) (_:Cl3 n r) (_:∀(b:Bool) H',Same H H'->(b=true↔jP word n r)->Q (.bl b) H'):BI Z vs H Q
def DG(Z:Hs):Sp:=λvs H Q _=>BI Z vs H Q
theorem vy:aE U3 U3 (aq gR):=aS
theorem vF(T:Tb K mg)(D:bo K mg VX gR U3):Cal P w K mg base 1 VX U3 xQ:=by refine D.cal vy λf cdv A outer b H vs Q E a h=> ?_;obtain⟨i,rfl,k⟩:=h;refine#[_,(aj (aC (Cy (eO (fS (K:=K) ⋯) ⋯ T.isinstance_ Rv (aa (pv 0) (aa (nE (v:= .ty "int") ⋯ T.int_ PyProof.Rows.boot_int rfl) af))) (Cw (Nc (eO (fS (K:=K) ⋯) ⋯ T.isinstance_ Rv (aa (pv 0) (aa (nE (v:= .ty "bool") ⋯ T.bool_ PyProof.Rows.boot_bool rfl) af)))))))),6];refine#[7111,true,2, .int _,T.kII,true,2,lF ?_];exact#[7111,false,2, .int _,T.kIB,false,2,k]
theorem jo:aE ["_law_s",Vx] UR (aq i8):=aS
theorem yE(D:bo K mg VC i8 UR):Cal P w K mg base 1 VC UR ny:=by
 refine D.cal jo λf cdv A outer J H vs Q E z h=> ?_;obtain⟨s,rfl,t,y,k⟩:=h;refine#[_,(ab (wset 1 jo.nd ae)
   (ab (Ik PassesOwn.never (wpt pX (pv 0) ae)
     (ab (wset 1 jo.nd (aB dJ (pv 1) (aB bI (pv 0) ae)))
     (aj (wset 0 jo.nd (aB iq (pv 0) ae)))))
   (aj (aC (pv 1))))),6]
 refine#[λm g a=>a=H/\∃(n c:Nat),n<256/\n=m/\c+(bits n).length=(bits s.toNat).length/\g=[some (.int (n:Int)),some (.int (c:Int))],#[s.toNat,2,s.toNat,0,9296],6]
 .show [some (V.int s),some (.int 0)]=_;rw[SF t];rfl
 .intro m g a v;obtain⟨e,n,c,u,p,d,r⟩:=v;subst e p r;refine#[787,cC (λb=> ?_) λb=> ?_]
  .have G:0<n:=by have:=PH b;lia
   have B:=E1 n u;refine#[λi H'=>H'=a/\i=[some (.int ((n/2:Nat):Int)),some (.int ((c+n % 2:Nat):Int))],λi H' q=>#[n/2,9,q.1,n/2,c+n % 2,929,q.2],6];refine#[778,(by show(0:Int)<2;decide),86];refine#[78,#[44],26];show [some (V.int ((n:Int) /2)),some (V.int ((c:Int)+(n:Int) % 2))]=_;have l:(n:Int) /2=((n/2:Nat):Int):=()
   have o:(c:Int)+(n:Int) % 2=((c+n % 2:Nat):Int):=()
   rw[l,o]
  .have x:n=0:=by have:=TM (Rc.mpr b);lia
   subst x;have j:(bits 0).length=0:=#[9]
   rw[j,Ud]at d;refine#[76];rw[d];exact k
theorem gx:aE [VY,Vx,V3,"_law_some","_law_picked","_law_cell","_law_one","_law_near"] UH (aq jH):=aS
theorem AX(T:Tb K mg)(D:bo K mg "_law_far" jH UH)(ag:Cal P w K mg base 1 VC UR ny):Cal P w K mg base 2 "_law_far" UH (Mf K):=by
 refine D.cal gx λf cdv A outer ec H vs Q E hr h=> ?_;obtain⟨a,cs,n,r,rfl,ha,c3,d0,hn,dm,k⟩:=h;refine#[_,(ab (wls 3 gx.nd UR [V3] [2] (wrng T.range_ (aB gu ae (pv 1))) (wnC 0) (ee (wpt a7 (wcal ag hr (aa (pv 0) af)) (pv 1))) (pv 0))
   (ab (wset 4 gx.nd (cw af))
   (ab (aZ (PW.pt (d9 (wpt pX (pv 2) ae) (d9 (wpt rF (pv 2) (pv 1)) (fP (wpt pX (aB bI (aB bI (aB eg (cG K (pv 0) ae) ae) ae) ae) ae)))))
     (aj (wfor (wil K (pU (o8 (K:=K) ⋯) (pv 0) sG (sF (aB bI (aB iq (aB bI (aB eg (cG K (pv 0) ae) ae) ae) ae) (wlen K T.len_ (pv 0)))))) (wname 5 gx.nd)
       (ab (wset 6 gx.nd (cG K (pv 3) (aB bI (aB bI (aB eg (pv 5) ae) ae) (wlen K T.len_ (pv 3)))))
       (ab (wls 7 gx.nd UR [V3,"_law_one"] [2,6] (wil K (pv 4)) (wnC 0) (ee (wpt pX (wcal ag hr (aa (aB gv (pv 0) (pv 2)) af)) (aB gs (pv 1) ae))) (pv 0))
       (aj (aZ (wpt a7 (wlen K T.len_ (pv 7)) ae)
         (aj (c8 (kh (K:=K) ⋯ QZ Q5 Q6 e7 (pv 4) (aa (pv 6) af))))
         aO))))))
     aO)
   (aj (aC (wlc UR ["_law_picked"] [4] (wil K (pv 3)) (wnC 0) (ee (pR (kj (K:=K) ⋯) (pv 0) (pv 1) ⋯)) (pv 0))))))),6]
 have p8:=qN hn;have d7:=two_pow_pos n;refine#[78,#[994],76];rw[dO];refine#[996];rw[Pj];refine gC (λi=>decide (sz i=r)) (λi=> .int (0+(i:Nat))) (Pr p8 ∅) (λi vs H' R S hi hv sm hk=> ?_) λm H1 d3 b1 a4=> ?_
 .obtain⟨v,rfl⟩:=bG hv;have q:=hk [some (.int (0+(i:Nat)))] H' rfl (Same.refl _);refine#[77997276];have e:(0+(i:Int)).toNat=i:=()
  rw[e];have e2:decide (V.int ((((bits i).length:Nat):Int))=V.int (r:Int))=decide (sz i=r):=by
   by_cases h:sz i=r
   .have h':(bits i).length=r:=h;rw[Pe h,h',Pe rfl]
   .rw[Pc h,Pc λz=>h (by have:=V.int.inj z;show(bits i).length=r;lia)]
  rw[e2];show if decide (sz i=r)=true then _ else _;by_cases d:decide (sz i=r)=true
  .rw[Pd d]at q⊢;exact#[7,q]
  .rw[Pb d]at q⊢;exact q
 rw[kY]at a4;generalize br:(List.map (λs:Nat=>(s:Int)) (List.filter (λi=>decide (sz i=r)) (List.range (2^n))))=b at a4;have cy:∀z∈b,∃s:Nat,s<2^n/\z=s:=λz g=>by rw[<-br]at g;obtain⟨s,hs,rfl⟩:=Pl.mp g;exact#[s,Pf.mp (PV.mp hs).1,2]
 have dv:b.length<=256:=by rw[<-br,My];exact Pr (QU _ _) (by rw[Pw];exact p8)
 have eb:0<b.length:=by
  obtain⟨s,h1,h2,_⟩:=Kv (ps:=[]) hn dm (.inl rfl);have:(s:Int)∈b:=by rw[<-br];exact Pl.mpr #[s,PV.mpr #[Pf.mpr h1,Pe h2],2]
  exact Sn this
 refine#[Qu _,λq hq=> ?_];have cE:Same H1 (upd H1 q (.lst [])):=Same.new hq;have bk:upd H1 q (.lst []) q=some (.lst (([]:List Int).map V.int)):=ah;have b8:=cE.at a4;have b2:Same H (upd H1 q (.lst [])):=b1.trans cE;have dh:H q=none:=b1.free hq;generalize upd H1 q (.lst [])=H2 at*;(try dsimp only);refine nF (λcL H'=>∃(ps:List Int)(G J L:Option V),Same H H'/\H' m=some (.lst (b.map V.int))/\H' q=some (.lst (ps.map V.int))/\(ps=[]\/(0<r/\r<n/\Far r ps))/\
  cL=[xS a,yS n,yS r,xS m,xS q,G,J,L]) ?_ ?_
 .rintro cL H' ⟨ps,G,J,L,cK,t,M,ai,rfl⟩;refine#[7,m,2,#[_,SqL.of t],6];refine cf (λx=>(λz:Int=> !decide (z∈ps)) (bJ x)) (λx=> .int ((λz:Int=>z) (bJ x))) (SqL.of t) (by rw[My];exact Pr dv ∅) (λi x vs p R S hx hv sm hk=> ?_) λD p hD sm hl=> ?_
  .obtain⟨v,rfl⟩:=bG hv;obtain⟨z,rfl,g⟩:=bK hx;have qq:=hk [some (.int z)] p rfl (Same.refl _);refine#[77,q,7, .inl (SqL.of (sm.at M)),2,wB _,76];have B:if(!decide (z∈ps))=true then R (.int z) _ p else S _ p:=qq;show if(!inV (.int z) (ps.map V.int))=true then _ else _;rw[Bg];by_cases d:(!decide (z∈ps))=true
   .rw[Pd d]at B⊢;exact#[7,B]
   .rw[Pb d]at B⊢;exact B
  replace hl:=hl.trans (Qd (λl=>some (HO.lst l)) (bO (λz:Int=> !decide (z∈ps)) (λz:Int=>z) b));rw[show(λz:Int=>z)=id from rfl,RX]at hl;refine k D p ps (cK.trans sm) (cK.free hD) (hl.trans ?_) ai;have e:b.filter (λz:Int=> !decide (z∈ps))=gI n r ps:=by rw[<-br];unfold gI;rw[R3,RF];refine Qd (List.map λs:Nat=>(s:Int)) (QC λs _=> ?_);unfold tm;show((!decide ((s:Int)∈ps))&&decide (sz s=r))=_;rw[S7];by_cases h:(s:Int)∈ps<;>simp[h]
  rw[e]
 .intro bp;have stop:∀H',H'=H2->(∃(ps:List Int)(G J L:Option V),Same H H'/\H' m=some (.lst (b.map V.int))/\H' q=some (.lst (ps.map V.int))/\(ps=[]\/(0<r/\r<n/\Far r ps))/\
   [some (V.ref a),some (.int (n:Int)),some (.int (r:Int)),some (.ref m),some (.ref q),none,none,none]=[some (V.ref a),yS n,yS r,xS m,xS q,G,J,L]):=λH' e=>by
   subst e;exact#[[],none,none,none,b2,b8,bk, .inl rfl,2]
  have b5:atI (cs.map V.int) 0=some (.int (cs.getD 0 0)):=cj (j:=0) c3;have a3:=b2.seq ha;refine#[787,cC (λd=> ?_) λd=>dq (bp _ _ (stop _ rfl))];have r0:0<r:=by have:=PH d;lia
  refine#[7787,cC (λd=> ?_) λd=>dq (bp _ _ (stop _ rfl))];have r1:r<n:=by have:=PH d;lia
  refine#[7,a,3,a3,b5,8, .inr #[44],8,(by show(0:Int)<65521;decide),8,(by show(0:Int)<3;decide),87,cC (λd=> ?_) λd=>bp _ _ (stop _ rfl)];refine#[77,a,3,a3,b5,8, .inr #[44],8,(by show(0:Int)<65521;decide),8,#[44],7,a,7, .inl a3,867,a,7,a3,λN cg=> ?_]
  .show(0:Int)<(((cs.map V.int).length:Nat):Int);rw[My];lia
  obtain⟨U,ed,d1⟩:=J0 cs none (some (cs.getD 0 0*16807 % 65521/3 % (((cs.map V.int).length:Nat):Int)));rw[ed];have cm:upd H2 N (.lst (U.map V.int)) N=some (.lst (U.map V.int)):=ah;have b3:Same H2 (upd H2 N (.lst (U.map V.int))):=Same.new cg;generalize upd H2 N (.lst (U.map V.int))=H3 at*;have dj:q≠m:=λe=>by have h1:=b1.free hq;rw[e]at h1;have:=hq;rw[e,a4]at this;cases this
  have dk:q≠N:=λe=>by rw[e,cg]at bk;cases bk
  refine#[N,2,#[_,SqL.of cm],6];refine cY (K:=K) (a:=N) (xs:=U.map V.int) (λi σ H'=>∃(ps:List Int)(G J L:Option V),Same H H'/\H' m=some (.lst (b.map V.int))/\H' N=some (.lst (U.map V.int))/\H' q=some (.lst (ps.map V.int))/\ps.length<=i/\(∀z∈ps,z∈b)/\Far r ps/\
   σ=[xS a,yS n,yS r,xS m,xS q,G,J,L])
   #[[],none,none,none,b2.trans b3,b3.at b8,cm,b3.at bk,Pu _,(λz g=>by cases g),LL _,2] (λi σ H' _ ⟨_,_,_,_,_,_,h,_⟩=>SqL.of h) ?_ ?_
  .rintro i y σ H' hi ⟨ps,G,J,L,bA,t,bS,M,da,bt,ai,rfl⟩;obtain⟨c,rfl,c4⟩:=bK hi;have d2:i<U.length:=(Pn.mp c4).1;have ct:(0:Int)<(((b.map V.int).length:Nat):Int):=by rw[My];lia
   have j0:0<=c*48271 % 2147483647 % (((b.map V.int).length:Nat):Int):=QS _ ();have j1:c*48271 % 2147483647 % (((b.map V.int).length:Nat):Int)<(((b.map V.int).length:Nat):Int):=QI _ ct;obtain⟨j,hj⟩:=Rb j0;have ay:j<b.length:=by rw[hj,My]at j1;lia
   have cM:atI (b.map V.int) (c*48271 % 2147483647 % (((b.map V.int).length:Nat):Int))=some (.int (b[j]'ay)):=by rw[hj];exact mE (by simp[ay])
   refine#[778, .inr #[44],8,(by show(0:Int)<2147483647;decide),7,m,7, .inl (SqL.of t),8,ct,m,3,SqL.of t,cM,6];have cb:b[j]'ay∈b:=QP ay;generalize b[j]'ay=one at*;obtain⟨o,ho,rfl⟩:=cy one cb;have o256:o<256:=Pg ho p8;refine#[7,q,2,#[_,SqL.of M],6];refine cf (λx=>(λz:Int=>decide ((sz (z.toNat&&& (o:Int).toNat):Int)>(r:Int) -2)) (bJ x)) (λx=> .int ((λz:Int=>z) (bJ x))) (SqL.of M) (by rw[My];exact Pr (show ps.length<=64 by lia) ∅) (λi x vs p R S hx hv sm hk=> ?_) λpn H4 d4 O a5=> ?_
   .obtain⟨v,rfl⟩:=bG hv;obtain⟨z,rfl,g⟩:=bK hx;obtain⟨u,hu,rfl⟩:=cy z (bt z (Pq g));have qq:=hk [some (.int (u:Int))] p rfl (Same.refl _);have ea:Builtin.bitAnd (u:Int) (o:Int)=((u&&&o:Nat):Int):=by rw[iI (QT _) (QT _),Pj,Pj]
    have la:u&&&o<256:=Kd (Pg hu p8);refine#[778,Builtin.bitAnd (u:Int) (o:Int),2,(by rw[ea];lia),(by rw[ea];lia),78876];rw[ea,Pj];have B:if decide ((sz (u&&&o):Int)>(r:Int) -2)=true then R (.int (u:Int)) _ p else S _ p:=qq;show if decide ((sz (u&&&o):Int)>(r:Int) -2)=true then _ else _;by_cases d:decide ((sz (u&&&o):Int)>(r:Int) -2)=true
    .rw[Pd d]at B⊢;exact#[7,B]
    .rw[Pb d]at B⊢;exact B
   replace a5:=a5.trans (Qd (λl=>some (HO.lst l)) (bO (λz:Int=>decide ((sz (z.toNat&&& (o:Int).toNat):Int)>(r:Int) -2)) (λz:Int=>z) ps));rw[show(λz:Int=>z)=id from rfl,RX]at a5;refine#[7,pn,7, .inl (SqL.of a5),27,cC (λd=> ?_) λd=> ?_]
   .have h0:(ps.filter λz:Int=>decide ((sz (z.toNat&&& (o:Int).toNat):Int)>(r:Int) -2))=[]:=by have h:=V.int.inj (PH d);rw[My]at h;exact Sr ()
    have cn:=O.at M;refine#[7, .inl #[21,SqL.of cn],7,q,8,cn,(by rw[My];exact Px (show ps.length<=64 by lia) ∅),6];refine#[ps++[(o:Int)],111,(bA.trans O).upd dh,6666662]
    .rw[aA dj.symm];exact O.at t
    .rw[aA dk.symm];exact O.at bS
    .rw[ah,Qs];rfl
    .rw[PK];show ps.length+1<=i+1;lia
    .intro z g;rcases Pz.mp g with g|g
     .exact bt z g
     .have:z=(o:Int):=#[5,g]
      rw[this];exact cb
    .refine JI ai λz g c5=> ?_;have:z∈ps.filter λz:Int=>decide ((sz (z.toNat&&& (o:Int).toNat):Int)>(r:Int) -2):=PV.mpr #[g,Pe c5];rw[h0]at this;cases this
   .exact#[ps,111,bA.trans O,O.at t,O.at bS,O.at M,9,bt,ai,2]
  .rintro σ H' ⟨ps,G,J,L,bA,t,bS,M,da,bt,ai,rfl⟩;exact bp _ _ #[ps,G,J,L,bA,t,M, .inr #[r0,r1,ai],2]
theorem iM:aE ["_law_told","_law_lines","_law_j",V9] Vd (aq gV):=aS
theorem vJ(T:Tb K mg)(D:bo K mg "_law_seven" gV Vd)(ag:Cal P w K mg base 1 VC UR ny):Cal P w K mg base 2 "_law_seven" Vd (Aj K):=by
 refine D.cal iM λf cdv A outer c1 H vs Q E hr h=> ?_;obtain⟨a,told,rfl,ha,k⟩:=h;refine#[_,(ab (wls 1 iM.nd UR Vd [0] (wrng T.range_ ae) (wnC 0) (ee (PW.pt (d9 (wpt a7 (wcal ag hr (aa (pv 0) af)) ae) (fP (pR (kj (K:=K) ⋯) (pv 0) (pv 1) ⋯))))) (pv 0))
   (ab (aZ (PW.pt (iA (wpt iB (wlen K T.len_ (pv 0)) ae) (ie (wpt iB (wlen K T.len_ (pv 1)) ae))))
     (aj (aC fD))
     aO)
   (ab (wfor (wrng T.range_ ae) (wname 2 iM.nd)
     (aj (wfor (wrng T.range_ (pv 2)) (wname 3 iM.nd)
       (aj (aZ (wpt iB (wlen K T.len_ (wlc UR ["_law_j",V9] [2,3] (wil K (pv 1)) (wnC 0) (ee (wpt a7 (aB gv (aB gv (aB mD (pv 0) (pv 1)) (aB mD (pv 0) (pv 2))) ae) ae)) (pv 0))) ae)
         (aj (aC fD))
         aO)))))
   (aj (aC fD))))),6]
 refine#[(128),2446];refine gC (n:=128) (λs=>decide (sz s=3)&& !decide (s∈told)) (λi=> .int (0+(i:Nat))) ∅ (λi vs H' R S B hv sm d=> ?_) λp1 u cS G a5=> ?_
 .obtain⟨v,rfl⟩:=bG hv;have q:=d [some (.int (0+(i:Nat)))] H' rfl (Same.refl _);have e:(0+(i:Int)).toNat=i:=()
  have cO:i<128:=B;refine#[7799276];rw[e,lint];have e3:decide ((((bits i).length:Nat):Int)=3)=decide (sz i=3):=Q1.mpr #[λz=>by show(bits i).length=3;lia,λz=>by have:(bits i).length=3:=z;lia];rw[e3];by_cases J:sz i=3
  .rw[Pe J,Qy]at q;rw[Pe J,Pd rfl];refine#[77,a,7, .inl (sm.seq ha),2,wB _,76];rw[QO]at q⊢;rw[LH];show if(!decide (i∈told))=true then _ else _;by_cases y:(!decide (i∈told))=true
   .rw[Pd y]at q⊢;exact#[7,q]
   .rw[Pb y]at q⊢;exact q
  .rw[Pc J,Qv,Pb ∅]at q;rw[Pc J,Pb ∅];exact q
 rw[kY]at a5;have ar:u p1=some (.lst ((cB (ji told)).map V.int)):=a5;have cb:=G.seq ha;have lL:(ji told).length<=128:=Pr (QU _ _) (by rw[Pw];exact Pu _);have mL:∀t∈ji told,t<128:=λt ht=>Pf.mp (PV.mp ht).1;refine#[7,a,7, .inl cb,27,cC (λm=>lF ?_) λm=> ?_]
 .rw[My,cq,lint]at m;have:=k u G;unfold ft at this;rwa[Pc (by intro z;rw[z]at m;exact absurd m ∅),Qv]at this
 rw[My,cq,lint]at m;have b7:told.length=28:=by
  have b5:decide ((told.length:Int)=28)=true:=#[5,m]
  have:=PH b5;lia
 refine#[7,p1,7, .inl (SqL.of ar),27,cC (λo=> ?_) λo=> ?_]
 .rw[My,cq,lint]at o;have:=k u G;unfold ft at this;rwa[Pc (p:=(ji told).length=7) (by intro z;rw[z]at o;exact absurd o ∅),Qv,Qw]at this
 rw[My,cq,lint]at o;have h7:(ji told).length=7:=by
  have b6:decide (((ji told).length:Int)=7)=true:=#[5,o]
  have:=PH b6;lia
 have ek:ft told=(List.range 7).all λj=>(List.range j).all λk=>decide (((ji told).filter λt=>t.testBit j&&t.testBit k).length=1):=by unfold ft;rw[Pe b7,Pe h7,Qy,Qy]
 rw[ek]at k;generalize hL:ji told=L at*;refine#[(7),244,dz (n:=7) (λj g H'=>Same u H'/\(∀i,i<j->((List.range i).all λk=>decide ((L.filter λt=>t.testBit i&&t.testBit k).length=1))=true)/\∃v2 c,g=[xS a,xS p1,v2,c]) #[Same.refl _,(λi B=>()),none,none,2] ?_ ?_]
 .rintro j g H2 hj ⟨ay,U,v2,c,rfl⟩;refine#[77996];have ej:(0+(j:Int)).toNat=j:=()
  rw[ej];refine dz (n:=j) (λk g H'=>Same u H'/\(∀i,i<k->decide ((L.filter λt=>t.testBit j&&t.testBit i).length=1)=true)/\∃c,g=[xS a,xS p1,some (.int (0+(j:Int))),c]) #[ay,(λi B=>()),c,2] ?_ ?_
  .rintro b g H3 cp ⟨r,d,c,rfl⟩;refine#[7,p1,2,#[_,SqL.of (r.at ar)],6];refine cf (λx=>(λz:Int=>z.toNat.testBit j&&z.toNat.testBit b) (bJ x)) (λx=> .int ((λz:Int=>z) (bJ x))) (SqL.of (r.at ar)) (by rw[My,cq];exact Pr lL ∅) (λi x vs H' R S hx hv sm d=> ?_) λD H4 hD bp N=> ?_
   .obtain⟨v,rfl⟩:=bG hv;obtain⟨z,rfl,hz⟩:=bK hx;obtain⟨t,ht,rfl⟩:=eZ (Pq hz);have q:=d [some (.int (t:Int))] H' rfl (Same.refl _);refine#[7789778988276];have e1:(0+(j:Int)).toNat=j:=()
    have e2:(0+(b:Int)).toNat=b:=()
    have eb:decide (V.int (Builtin.bitAnd (Builtin.bitAnd ((t:Int) /2^(0+(j:Int)).toNat) ((t:Int) /2^(0+(b:Int)).toNat)) 1)=V.int 1)=(t.testBit j&&t.testBit b):=by
     rw[e1,e2];have a1:((t:Int) /2^j)=((t/2^j:Nat):Int):=#[5]
     have a2:((t:Int) /2^b)=((t/2^b:Nat):Int):=#[5]
     rw[a1,a2,iJ];have a3:Builtin.bitAnd (((t/2^j&&&t/2^b:Nat)):Int) 1=(((t/2^j&&&t/2^b)&&&1:Nat):Int):=iJ _ 1;rw[a3,lint,iU,iU,TX];have a4:(t/2^j&&&t/2^b) % 2=1↔(t/2^j) % 2=1/\(t/2^b) % 2=1:=by have:=QE (t/2^j) (t/2^b) 0;rwa[Ug,Ug,Ug,Q8,PX,PD,PD,PD]at this
     rw[Q8,PX,PD,PD,PD,<-a4];lia
    rw[eb];have O:if(t.testBit j&&t.testBit b)=true then R (.int (t:Int)) _ H' else S _ H':=q;show if(t.testBit j&&t.testBit b)=true then _ else _;by_cases y:(t.testBit j&&t.testBit b)=true
    .rw[Pd y]at O⊢;exact#[7,O]
    .rw[Pb y]at O⊢;exact O
   replace N:=N.trans (Qd (λl=>some (HO.lst l)) (bO (λz:Int=>z.toNat.testBit j&&z.toNat.testBit b) (λz:Int=>z) (cB L)));rw[show(λz:Int=>z)=id from rfl,RX,fQ]at N;refine#[D,7, .inl (SqL.of N),276];rw[My,cq,lint];have ef:(L.filter λs:Nat=>(s:Int).toNat.testBit j&&(s:Int).toNat.testBit b)=L.filter λt=>t.testBit j&&t.testBit b:=rfl;rw[ef];refine cC (λM=> ?_) λM=> ?_
   .have ct:decide ((L.filter λt=>t.testBit j&&t.testBit b).length=1)=false:=Pc λz=>by rw[z]at M;exact absurd M ∅
    have e:((List.range 7).all λj=>(List.range j).all λk=>decide ((L.filter λt=>t.testBit j&&t.testBit k).length=1))=false:=Rc.mpr λz=>by have:=P9.mp (P9.mp z j (Pf.mpr hj)) b (Pf.mpr cp);rw[ct]at this;cases this
    rw[e]at k;exact k H4 (G.trans (r.trans bp))
   .refine#[r.trans bp,λi B=> ?_,7];by_cases cm:i<b
    .exact d i cm
    .have:i=b:=()
     subst this;have b8:decide (((L.filter λt=>t.testBit j&&t.testBit i).length:Int)=1)=true:=#[5,M]
     have:=PH b8;exact Pe ()
  .rintro g H3 ⟨r,d,c,rfl⟩;refine#[r,λi B=> ?_,17];by_cases cg:i<j
   .exact U i cg
   .have:i=j:=()
    subst this;exact P9.mpr λk cn=>d k (Pf.mp cn)
 .rintro g H2 ⟨ay,U,v2,c,rfl⟩;have e:((List.range 7).all λj=>(List.range j).all λk=>decide ((L.filter λt=>t.testBit j&&t.testBit k).length=1))=true:=P9.mpr λj hj=>U j (Pf.mp hj);rw[e]at k;exact k H2 (G.trans ay)
theorem pk:aE ["_law_levels","_law_told"] U9 (aq i9):=aS
theorem yF(T:Tb K mg)(D:bo K mg "_law_kind" i9 U9)(ai:Cal P w K mg base 1 VC UR ny)(ag:Cal P w K mg base 2 "_law_seven" Vd (Aj K)):Cal P w K mg base 3 "_law_kind" U9 (DM K):=by
 refine D.cal pk λf cdv A outer cy H vs Q E hr h=> ?_;obtain⟨a,n,r,rfl,B,M,k⟩:=h;refine#[_,(ab (wls 1 pk.nd UR U9 [0] (wrng T.range_ (wlen K T.len_ (pv 0))) (wnC 0) (ee (PW.pt (d9 (wpt a7 (cG K (pv 1) (pv 0)) (wcal ai hr (aa (pv 0) af))) (fP (wpt a7 (cG K (pv 1) (pv 0)) (cG K (pv 1) (jW iE ae))))))) (pv 0))
   (ab (aZ (PW.pt (d9 (wpt a7 (wlen K T.len_ (pv 0)) ae) (d9 (wpt a7 (cG K (pv 0) (jW iE ae)) ae) (fP (wpt a7 (wlen K T.len_ (pv 1)) ae)))))
     (aj (aC dU))
     aO)
   (ab (aZ (PW.pt (d9 (wpt a7 (wlen K T.len_ (pv 0)) ae) (d9 (wpt a7 (cG K (pv 0) (jW iE ae)) ae) (fP (wpt a7 (wlen K T.len_ (pv 1)) ae)))))
     (aj (aC dU))
     aO)
   (ab (aZ (PW.pt (d9 (wpt a7 (wlen K T.len_ (pv 0)) ae) (d9 (wpt a7 (cG K (pv 0) (jW iE ae)) ae) (fP (wpt a7 (wlen K T.len_ (pv 1)) ae)))))
     (aj (aC dU))
     aO)
   (ab (aZ (PW.pt (d9 (wpt a7 (wlen K T.len_ (pv 0)) ae) (d9 (wpt a7 (cG K (pv 0) (jW iE ae)) ae) (fP (di (wcal ag hr (aa (pv 1) af)))))))
     (aj (aC dU))
     aO)
   (ab (aZ (PW.pt (d9 (wpt a7 (wlen K T.len_ (pv 0)) ae) (d9 (wpt a7 (cG K (pv 0) (jW iE ae)) ae) (fP (di (wcal ag hr (aa (wlc UR [] [] (wil K (pv 1)) (wnC 0) bW (aB gs ae (pv 0))) af)))))))
     (aj (aC dU))
     aO)
   (aj (aC fi)))))))),6]
 have p8:=qN M;have ct:=two_pow_pos n;have G:((mw n r).map V.int).length=2^n:=by unfold mw;rw[My,My,Pw]
 have bX:∀s:Nat,s<2^n->atI ((mw n r).map V.int) (s:Int)=some (.int ((r s:Nat):Int)):=λs hs=>mE (by unfold mw;rw[PB,QD hs];rfl);have J:atI ((mw n r).map V.int) (-1)=some (.int ((r (2^n-1):Nat):Int)):=LW (by
  rw[G,PB];unfold mw;rw[PB,QD ()];rfl)
 refine#[7,a,7, .inl B,76];rw[G];refine#[996];rw[Pj];refine gC (n:=2^n) (λs=>decide (r s=sz s)&&decide (r s=r (2^n-1))) (λi=> .int (0+(i:Nat))) (Pr p8 ∅) (λi vs H' R S hi hv sm hk=> ?_) λp1 u cn p bu=> ?_
 .obtain⟨v,rfl⟩:=bG hv;have q:=hk [some (.int (0+(i:Nat)))] H' rfl (Same.refl _);have e:(0+(i:Int)).toNat=i:=()
  have br:atI ((mw n r).map V.int) (0+(i:Int))=some (.int ((r i:Nat):Int)):=by rw[QO];exact bX i hi
  have a0:=sm.seq B;refine#[77,a,3,a0,br,7799276];rw[e,a8];show if decide (r i=sz i)=true then _ else _;by_cases h3:r i=sz i
  .rw[Pe h3,Qy]at q;rw[Pe h3,Pd rfl];refine#[77,a,3,a0,br,77,a,3,a0,J,276];rw[a8];show if decide (r i=r (2^n-1))=true then _ else _;by_cases hc:decide (r i=r (2^n-1))=true
   .rw[Pd hc]at q⊢;exact#[7,q]
   .rw[Pb hc]at q⊢;exact q
  .rw[Pc h3,Qv,Pb ∅]at q;rw[Pc h3,Pb ∅];exact q
 rw[kY]at bu;have L:u p1=some (.lst ((cB (bZ n r)).map V.int)):=bu;have mT:∀t∈bZ n r,t<2^n:=λt ht=>Pf.mp (PV.mp ht).1;have lT:(bZ n r).length<=256:=Pr (QU _ _) (by rw[Pw];exact p8);unfold Bf at k;have U:(kinds n r).getD 0 false=(decide (n=4)&&(decide (r (2^n-1)=2)&&decide ((bZ n r).length=6))):=rfl;(try dsimp only);refine nF (λo H'=>Same u H'/\(kinds n r).getD 0 false=false/\o=[xS a,xS p1]) ?_ ?_
 rotate_left
 .intro j;have m:=p.seq B;refine#[7,a,7, .inl m,276];rw[G];have g1:decide (V.int ((2^n:Nat):Int)=V.int 16)=decide (n=4):=(a8 (2^n) 16).trans ((uc M).1);rw[g1];by_cases c:n=4
  rotate_left
  .rw[Pc c,Pb ∅];exact dq (j _ _ #[(Same.refl _),by rw[U,Pc c];rfl,2])
  rw[Pe c,Pd rfl];refine#[77,a,3,m,J,276];have g2:decide (V.int ((r (2^n-1):Nat):Int)=V.int 2)=decide (r (2^n-1)=2):=a8 _ 2;rw[g2];by_cases d:r (2^n-1)=2
  rotate_left
  .rw[Pc d,Pb ∅];exact dq (j _ _ #[(Same.refl _),by rw[U,Pc d,Qv,Qw],2])
  rw[Pe d,Pd rfl];refine#[7,p1,7, .inl (SqL.of (L)),276];rw[My,cq];have g3:decide (V.int (((bZ n r).length:Nat):Int)=V.int 6)=decide ((bZ n r).length=6):=a8 _ 6;rw[g3];by_cases g:(bZ n r).length=6
  rotate_left
  .rw[Pc g,Pb ∅];exact j _ _ #[(Same.refl _),by rw[U,Pc g,Qw,Qw],2]
  rw[Pe g,Pd rfl];have:=k u p;rwa[Pd (by rw[U,Pe c,Pe d,Pe g];rfl)]at this
 rintro o y ⟨b,b0,rfl⟩;rw[Pb (by rw[b0];decide)]at k;have ar:(kinds n r).getD 1 false=(decide (n=5)&&(decide (r (2^n-1)=2)&&decide ((bZ n r).length=10))):=rfl;(try dsimp only);refine kB (λo H'=>Same u H'/\(kinds n r).getD 1 false=false/\o=[xS a,xS p1]) ?_ ?_
 rotate_left
 .intro j;have m:=(p.trans b).seq B;refine#[7,a,7, .inl m,276];rw[G];have g1:decide (V.int ((2^n:Nat):Int)=V.int 32)=decide (n=5):=(a8 (2^n) 32).trans ((uc M).2.1);rw[g1];by_cases c:n=5
  rotate_left
  .rw[Pc c,Pb ∅];exact dq (j _ _ #[b,by rw[ar,Pc c];rfl,2])
  rw[Pe c,Pd rfl];refine#[77,a,3,m,J,276];have g2:decide (V.int ((r (2^n-1):Nat):Int)=V.int 2)=decide (r (2^n-1)=2):=a8 _ 2;rw[g2];by_cases d:r (2^n-1)=2
  rotate_left
  .rw[Pc d,Pb ∅];exact dq (j _ _ #[b,by rw[ar,Pc d,Qv,Qw],2])
  rw[Pe d,Pd rfl];refine#[7,p1,7, .inl (SqL.of (b.at L)),276];rw[My,cq];have g3:decide (V.int (((bZ n r).length:Nat):Int)=V.int 10)=decide ((bZ n r).length=10):=a8 _ 10;rw[g3];by_cases g:(bZ n r).length=10
  rotate_left
  .rw[Pc g,Pb ∅];exact j _ _ #[b,by rw[ar,Pc g,Qw,Qw],2]
  rw[Pe g,Pd rfl];have:=k y (p.trans b);rwa[Pd (by rw[ar,Pe c,Pe d,Pe g];rfl)]at this
 clear b;rintro o y ⟨b,b1,rfl⟩;rw[Pb (by rw[b1];decide)]at k;have ax:(kinds n r).getD 2 false=(decide (n=5)&&(decide (r (2^n-1)=3)&&decide ((bZ n r).length=10))):=rfl;(try dsimp only);refine kB (λo H'=>Same u H'/\(kinds n r).getD 2 false=false/\o=[xS a,xS p1]) ?_ ?_
 rotate_left
 .intro j;have m:=(p.trans b).seq B;refine#[7,a,7, .inl m,276];rw[G];have g1:decide (V.int ((2^n:Nat):Int)=V.int 32)=decide (n=5):=(a8 (2^n) 32).trans ((uc M).2.1);rw[g1];by_cases c:n=5
  rotate_left
  .rw[Pc c,Pb ∅];exact dq (j _ _ #[b,by rw[ax,Pc c];rfl,2])
  rw[Pe c,Pd rfl];refine#[77,a,3,m,J,276];have g2:decide (V.int ((r (2^n-1):Nat):Int)=V.int 3)=decide (r (2^n-1)=3):=a8 _ 3;rw[g2];by_cases d:r (2^n-1)=3
  rotate_left
  .rw[Pc d,Pb ∅];exact dq (j _ _ #[b,by rw[ax,Pc d,Qv,Qw],2])
  rw[Pe d,Pd rfl];refine#[7,p1,7, .inl (SqL.of (b.at L)),276];rw[My,cq];have g3:decide (V.int (((bZ n r).length:Nat):Int)=V.int 10)=decide ((bZ n r).length=10):=a8 _ 10;rw[g3];by_cases g:(bZ n r).length=10
  rotate_left
  .rw[Pc g,Pb ∅];exact j _ _ #[b,by rw[ax,Pc g,Qw,Qw],2]
  rw[Pe g,Pd rfl];have:=k y (p.trans b);rwa[Pd (by rw[ax,Pe c,Pe d,Pe g];rfl)]at this
 clear b;rintro o y ⟨b,b2,rfl⟩;rw[Pb (by rw[b2];decide)]at k;have ay:(kinds n r).getD 3 false=(decide (n=7)&&(decide (r (2^n-1)=3)&&ft (bZ n r))):=rfl;(try dsimp only);refine kB (λo H'=>Same u H'/\(kinds n r).getD 3 false=false/\o=[xS a,xS p1]) ?_ ?_
 rotate_left
 .intro j;have m:=(p.trans b).seq B;refine#[7,a,7, .inl m,276];rw[G];have g1:decide (V.int ((2^n:Nat):Int)=V.int 128)=decide (n=7):=(a8 (2^n) 128).trans ((uc M).2.2);rw[g1];by_cases c:n=7
  rotate_left
  .rw[Pc c,Pb ∅];exact dq (j _ _ #[b,by rw[ay,Pc c];rfl,2])
  rw[Pe c,Pd rfl];refine#[77,a,3,m,J,276];have g2:decide (V.int ((r (2^n-1):Nat):Int)=V.int 3)=decide (r (2^n-1)=3):=a8 _ 3;rw[g2];by_cases d:r (2^n-1)=3
  rotate_left
  .rw[Pc d,Pb ∅];exact dq (j _ _ #[b,by rw[ay,Pc d,Qv,Qw],2])
  rw[Pe d,Pd rfl];refine#[7,p1,bZ n r,2,SqL.of (b.at L),λHY O=>#[76]];by_cases g:ft (bZ n r)=true
  rotate_left
  .rw[Pb g];exact j _ _ #[b.trans O,by rw[ay,Rc.mpr g,Qw,Qw],2]
  rw[Pd g];have:=k HY (p.trans (b.trans O));rwa[Pd (by rw[ay,Pe c,Pe d,g];rfl)]at this
 clear b;rintro o y ⟨b,b3,rfl⟩;rw[Pb (by rw[b3];decide)]at k;have az:(kinds n r).getD 4 false=(decide (n=7)&&(decide (r (2^n-1)=4)&&ft ((bZ n r).map (127- ·)))):=rfl;(try dsimp only);refine kB (λo H'=>Same u H'/\(kinds n r).getD 4 false=false/\o=[xS a,xS p1]) ?_ ?_
 rotate_left
 .intro j;have m:=(p.trans b).seq B;refine#[7,a,7, .inl m,276];rw[G];have g1:decide (V.int ((2^n:Nat):Int)=V.int 128)=decide (n=7):=(a8 (2^n) 128).trans ((uc M).2.2);rw[g1];by_cases c:n=7
  rotate_left
  .rw[Pc c,Pb ∅];exact dq (j _ _ #[b,by rw[az,Pc c];rfl,2])
  rw[Pe c,Pd rfl];refine#[77,a,3,m,J,276];have g2:decide (V.int ((r (2^n-1):Nat):Int)=V.int 4)=decide (r (2^n-1)=4):=a8 _ 4;rw[g2];by_cases d:r (2^n-1)=4
  rotate_left
  .rw[Pc d,Pb ∅];exact dq (j _ _ #[b,by rw[az,Pc d,Qv,Qw],2])
  rw[Pe d,Pd rfl];refine#[7,p1,2,#[_,SqL.of (b.at L)],6];refine cf (λx=>(λ_=>true) (bJ x)) (λx=> .int ((λz:Int=>127-z) (bJ x))) (SqL.of (b.at L)) (by rw[My,cq];exact Pr lT ∅) (λi x vs H' R S hx hv sm hk=> ?_) λD HY hD O N=> ?_
  .obtain⟨v,rfl⟩:=bG hv;obtain⟨z,rfl,hz⟩:=bK hx;have q:=hk [some (.int z)] H' rfl (Same.refl _);rw[Pd rfl]at q;simp only[bC,jg,Pd];exact#[78,q]
  replace N:=N.trans (Qd (λl=>some (HO.lst l)) (bO (λ_=>true) (λz:Int=>127-z) (cB (bZ n r))));rw[QW.mpr (λ_ _=>rfl)]at N;have em:(cB (bZ n r)).map (λz:Int=>127-z)=cB ((bZ n r).map (127- ·)):=by unfold cB;rw[P8,P8];refine Qt λt ht=> ?_;have:=mT t ht;rw[c]at this;show(127:Int) - (t:Int)=((127-t:Nat):Int);have h7:2^7=128:=rfl;lia
  rw[em]at N;refine#[D,(bZ n r).map (127- ·),2,SqL.of N,λHZ bM=>#[76]];by_cases g:ft ((bZ n r).map (127- ·))=true
  rotate_left
  .rw[Pb g];exact j _ _ #[b.trans (O.trans bM),by rw[az,Rc.mpr g,Qw,Qw],2]
  rw[Pd g];have:=k HZ (p.trans (b.trans (O.trans bM)));rwa[Pd (by rw[az,Pe c,Pe d,g];rfl)]at this
 clear b;rintro o y ⟨b,b4,rfl⟩;rw[Pb (by rw[b4];decide)]at k;exact k y (p.trans b)
theorem bj:aE [VI,"_law_told","_law_s",Wd,"_law_total","_law_turn",V9] [VI] (aq cW):=aS
theorem nQ(T:Tb K mg)(D:bo K mg VP cW [VI])(ag:Cal P w K mg base 1 VC UR ny):Cal P w K mg base 2 VP [VI] (Ht K):=by
 refine D.cal bj λf cdv A outer cN H vs Q E hr h=> ?_;obtain⟨a,xs,M,n,rfl,u,hx,l,y,ar,k⟩:=h;refine#[_,(ab (wset 1 bj.nd (cw (aa ae af)))
   (ab (wfor (Fs ⋯ T.range_ (aa ae (aa (aB gu ae (wlen K T.len_ (pv 0))) af))) (wname 2 bj.nd)
     (ab (wset 3 bj.nd (cG K (pv 0) (aB gs (wcal ag hr (aa (pv 2) af)) ae)))
     (ab (wset 4 bj.nd ae)
     (ab (wset 5 bj.nd ae)
     (ab (wfor (M9 ⋯ T.reversed_ (aa (Ir ⋯ T.range_ (aa (wlen K T.len_ (pv 0)) af)) af)) (wname 6 bj.nd)
       (aj (aZ (wpt a7 (aB gv (aB mD (pv 2) (pv 6)) ae) ae)
         (ab (wset 4 bj.nd (aB dJ (pv 4) (aB sN (aB sN (pv 5) (cG K (pv 3) (pv 6))) (cG K (pv 1) (aB ID (pv 2) (aB gu ae (pv 6)))))))
         (aj (wset 5 bj.nd (jW iE (pv 5)))))
         aO)))
     (aj (c8 (kh (K:=K) ⋯ QZ Q5 Q6 e7 (pv 1) (aa (pv 4) af)))))))))
   (aj (aC (cG K (pv 1) (jW iE ae)))))),6]
 have az:=hx.1;have p8:=qN y;have cM:=two_pow_pos n;refine#[(show(1:Nat)<=sizeLine by decide),λq v=> ?_];have b8:upd H q (.lst [V.int 1]) q=some (.lst [V.int 1]):=ah;refine#[7,a,7, .inl ((Same.new v).seq u),6];rw[az,l];refine#[8,#[994],176];rw[dO];refine#[#[9999],6];rw[show(((2^n:Nat):Int) -1).toNat=2^n-1 by lia];refine dz (n:=2^n-1) (λi d H'=>∃J L N O c:Option V,Same H H'/\H' q=some (.lst (((List.range (i+1)).map (dpD M n)).map V.int))/\d=[xS a,xS q,J,L,N,O,c]) #[none,none,none,none,none,Same.new v,62] ?_ ?_
 .rw[b8];have:dpD M n 0=1:=by
   have e:av n 0=[]:=by unfold av;simp
   unfold dpD;rw[e];rfl
  show _=some (HO.lst [V.int (dpD M n 0)]);rw[this]
 .rintro i d j hi ⟨J,L,N,O,c,g,r,rfl⟩;have es:(1:Int)+(i:Int)=((i+1:Nat):Int):=()
  rw[es];have hs:i+1<2^n:=()
  generalize cK:i+1=s at*;have B:s<256:=()
  have cb:=Gr y hs;have cp:=J1 hs (show 0<s by lia);have cl:=za n s;have hN:(av n s).length-1<M.length:=()
  have U:M[(av n s).length-1]?=some (M.getD ((av n s).length-1) []):=by simp[hN]
  obtain⟨b,b4,b5⟩:=(hx.same g).2 _ _ U;have z:=ar (M.getD ((av n s).length-1) []) (Pq U);have a6:atI xs (((bits ((s:Int)).toNat).length:Nat) -1:Int)=some (.ref b):=by rw[Pj,cb,show(((av n s).length:Nat):Int) -1=(((av n s).length-1:Nat):Int) by lia];exact iw b4
  refine#[777998,a,3,g.seq u,a6,6];refine#[7,a,7, .inl (g.seq u),6];rw[az,l];refine#[7,λp hp=>#[p,(n:Int),2,ah,996]];rw[Pj];have G:Same j (upd j p (.rng 0 (n:Int))):=Same.new hp;generalize upd j p (.rng 0 (n:Int))=H3 at*;have x:=G.at r;have b6:=G.at b5;have cg:((List.range s).map (dpD M n)).length=s:=by rw[My,Pw]
  refine Dc (n:=n) (λi d t=>t=H3/\∃c:Option V,d=[xS a,xS q,yS s,xS b,some (.int (bh (av n s).length (dpG M n s) -bh (av (n-i) s).length (dpG M n s))),some (.int (sgn ((av n s).length- (av (n-i) s).length))),c]) #[2,c,6] ?_ ?_
  .rw[Nat.sub_zero,QH,Ue];rfl
  .rintro i d t cE ⟨rfl,c,rfl⟩;have ek:(n:Int) -1+(i:Int)*(-1)=((n- (i+1):Nat):Int):=()
   rw[ek];have hm:n- (i+1)<n:=()
   have em:n-i=n- (i+1)+1:=()
   rw[em];generalize n- (i+1)=m at*;refine#[778,(by show(0:Int)<=(m:Int);lia),8276];rw[Hx];refine cC (λo=> ?_) λo=> ?_
   .obtain⟨d1,d2,d3,d4⟩:=LR (M:=M) hm o;have dl:=jr s B m () o;have a4:atI ((M.getD ((av n s).length-1) []).map V.int) (m:Int)=some (.int ((M.getD ((av n s).length-1) []).getD m 0)):=cj (by rw[z.1];exact hm);have bk:atI (((List.range s).map (dpD M n)).map V.int) (Builtin.bitXor (s:Int) (1*2^((m:Nat):Int).toNat))=some (.int (dpD M n (s^^^2^m))):=by rw[GN B ()];exact mE (by rw[PB,QD dl];rfl)
    rw[d1,PK,Te]at*;have m1:jQ (sgn ((av n s).length- ((av m s).length+1))) ((M.getD ((av n s).length-1) []).getD m 0):=jQ.of (k:=1) (by rw[yc];decide) (z.at m) ∅;have m2:jQ (sgn ((av n s).length- ((av m s).length+1))*(M.getD ((av n s).length-1) []).getD m 0) (dpD M n (s^^^2^m)):=jQ.of (zq (k:=1) (by rw[yc];decide) (z.at m)) (NL l y ar _) ∅;refine#[7777,b,3,SqL.of b6,a4,8,m1,7778,#[994],8,q,3,SqL.of x,bk,8,m2,86];refine#[772,some (.int (m:Int)),6];have e1:bh (av n s).length (dpG M n s) -bh ((av m s).length+1) (dpG M n s)+sgn ((av n s).length- ((av m s).length+1))*(M.getD ((av n s).length-1) []).getD m 0*dpD M n (s^^^2^m)=bh (av n s).length (dpG M n s) -bh (av m s).length (dpG M n s):=by have bA:dpG M n s (av m s).length=sgn ((av n s).length- ((av m s).length+1))*(M.getD ((av n s).length-1) []).getD m 0*dpD M n (s^^^2^m):=d4;rw[<-bA,bh];lia
    have e2: -sgn ((av n s).length- ((av m s).length+1))=sgn ((av n s).length- (av m s).length):=by rw[<-lU,show(av n s).length- ((av m s).length+1)+1=(av n s).length- (av m s).length by lia]
    rw[<-e1,<-e2];rfl
   .refine#[2,some (.int (m:Int)),6];rw[fG,Pb o,Q0];rfl
  .rintro d t ⟨rfl,c,rfl⟩;rw[Ue];have e0:(av 0 s).length=0:=rfl;rw[e0,show bh 0 (dpG M n s)=0 from rfl,RZ,<-NJ l cp];refine#[7, .inl #[21,SqL.of x],7,q,8,x,(by rw[My,cg];exact Nat.lt_trans B ∅),6];refine#[11111,(g.trans G).upd v,62];rw[ah,RQ,Qs,Qs];rfl
 .rintro d j ⟨J,L,N,O,c,g,r,rfl⟩;rw[show 2^n-1+1=2^n by lia]at r;have ll:((List.range (2^n)).map (dpD M n)).length=2^n:=by rw[My,Pw]
  have a5:atI (((List.range (2^n)).map (dpD M n)).map V.int) (-1)=some (.int (aK (M.map cu) (List.range n))):=by
   rw[Dt (by rw[ll];lia) ∅,ll,show((-1:Int)+((2^n:Nat):Int)).toNat=2^n-1 by lia,<-NK l];have h2:2^n-1<2^n:=()
   simp[h2]
  exact#[77,q,3,SqL.of r,a5,k j g]
theorem FV(M:Mat n r)(h:∀s,s<2^n->r' s=r s):Mat n r':=by
 refine#[M.n8,by rw[h 0 (Q9 ()),M.zero],λs k a b=> ?_,λs j k a c b d e=> ?_]
 .rw[h s a,h _ (aM a b)];exact M.step s k a b
 .rw[h _ (aM (aM a c) b),h s a];rw[h _ (aM a c),h s a]at d;rw[h _ (aM a b),h s a]at e;exact M.sub s j k a c b d e
theorem zQ(a:n<=8):sz (2^n-1)=n:=by show(bits (2^n-1)).length=n;rw[GH n (),My,Pw]
theorem wC(g:n<=8)(l:m<=n)(h:vp n m ps)(z:Int):
  z∈gI n m ps↔∃b:Nat,b<2^n/\z=(b:Int)/\rkG m ps b=sz b/\rkG m ps b=rkG m ps (2^n-1):=by
 have i:rkG m ps (2^n-1)=m:=by
  unfold rkG;rw[zQ g];rcases h.mid with e|⟨a,c⟩
  .rw[e,Pb #[5]];lia
  .rw[Pb (h.not (by rw[zQ g];lia))];lia
 rw[FT,i];constructor
 .rintro⟨s,a,c,d,rfl⟩;refine#[s,a,266]<;>(unfold rkG;rw[Pb d];lia)
 .rintro⟨b,a,rfl,c,d⟩;refine#[b,a,9,λf=> ?_,2];obtain⟨s,_,e,o⟩:=h.size _ f;have:b=s:=()
  subst this;unfold rkG at c d;rw[Pd f]at c d;rcases h.mid with e|⟨j,k⟩
  .rw[e]at f;cases f
  .lia
theorem zP:∃b:List Int,gI n m ps=gI n m b/\(∀z∈b,z∈ps)/\∀z∈b,∃s:Nat,s<2^n/\z=(s:Int)/\sz s=m:=by
 refine#[ps.filter λz=>decide (0<=z/\z.toNat<2^n/\sz z.toNat=m),6,λz a=>(PV.mp a).1,λz a=> ?_]
 .unfold gI;refine Qd (List.map λs:Nat=>(s:Int)) (QC λs c=> ?_);have d:=Pf.mp c;unfold tm;by_cases e:sz s=m
  .have:((s:Int)∈ps.filter λz=>decide (0<=z/\z.toNat<2^n/\sz z.toNat=m))↔(s:Int)∈ps:=by rw[PV,PD,Pj];exact#[λh=>h.1,λh=>#[h,9,d,e]]
   exact Qd (λx=>decide (sz s=m)&&x) (Q1.mpr (not_congr this.symm))
  .simp[e]
 .have:=PH (PV.mp a).2;exact#[z.toNat,this.2.1,9,this.2.2]
theorem LM{n m:Nat}(p:n<=8)(q:m<=n)(h:ps=[]\/(0<m/\m<n/\Far m ps)):
  Mat n (kK (gI n m ps))/\∀b,b∈(List.range (2^n)).filter (tm m ps)↔B9 n (kK (gI n m ps)) b:=by
 obtain⟨r,e,l,hsz⟩:=zP (n:=n) (m:=m) (ps:=ps);have G:vp n m r:=by
  refine#[hsz,66]
  .rcases h with rfl|⟨_,_,g⟩
   .intro a i;exact absurd (l a i) #[5]
   .exact λa i b k=>g a (l a i) b (l b k)
  .rcases h with rfl|⟨o,d,_⟩
   .exact .inl (List.eq_nil_iff_forall_not_mem.mpr λa i=>absurd (l a i) #[5])
   .exact .inr #[o,d]
 have M:=Jg p G;have f:∀s,s<2^n->kK (gI n m ps) s=rkG m r s:=λs v=>by rw[e];exact M.vd (wC p q G) v
 refine#[FV M f,λb=> ?_];have k:=wC p q G (b:Int);rw[<-e]at k;have o:b∈(List.range (2^n)).filter (tm m ps)↔(b:Int)∈gI n m ps:=by
  unfold gI;constructor
  .intro h;exact Pl.mpr #[b,h,2]
  .intro h;obtain⟨c,u,t⟩:=Pl.mp h;have:c=b:=()
   exact this▸u
 rw[o,k];constructor
 .rintro⟨c,d,t,g,j⟩;have:b=c:=()
  subst this;exact#[d,by rw[f b d];exact g,by rw[f b d,f _ (aH n)];exact j]
 .rintro⟨d,g,j⟩;rw[f b d]at g;rw[f b d,f _ (aH n)]at j;exact#[b,d,2,g,j]
inductive EG(K:Frag)(vs:List V)(H:Hp)(Q:VK):Prop
 |mk(b:Addr) (n o w:Nat) (r:Nat->Nat) (_:vs=[.int (n:Int), .ref b, .int (o:Int), .int (w:Int)]) (_:SqL K H b ((jw n r).map V.int)) (_:Mat n r) (_:o<2^n) (_:w<2^n) (_:∀p H',Same H H'->H p=none->H' p=some (.lst ((jw (sz (aw (2^n-1) (o|||w))) (cJ r (aw (2^n-1) (o|||w)) w)).map V.int))->Q (.ref p) H'):EG K vs H Q
def Hr(K:Frag):Sp:=λvs H Q _=>EG K vs H Q
theorem F2{n s:Nat}(k:n<=8):((List.range n).filter λj:Nat=>decide (V.int (Builtin.bitAnd ((s:Int) /2^(0+(j:Int)).toNat) 1)=V.int 0)).map (λj:Nat=>(j:Int))=bits (aw (2^n-1) s):=by
 have a:(λj:Nat=>decide (V.int (Builtin.bitAnd ((s:Int) /2^(0+(j:Int)).toNat) 1)=V.int 0))=λj=> !s.testBit j:=by
  funext j;have b:(0+(j:Int)).toNat=j:=()
  have c:((s:Int) /2^j)=((s/2^j:Nat):Int):=#[5]
  rw[b,c,iI (QT _) ∅,Pj,show((1:Int).toNat)=1 from rfl,TX,iU];by_cases f:s/2^j % 2=1
  .rw[f];rfl
  .have:s/2^j % 2=0:=()
   rw[this];rfl
 rw[a];unfold bits;refine Qd _ ?_;have d:∀m,n<=m->(List.range m).filter (aw (2^n-1) s).testBit=(List.range n).filter λj=> !s.testBit j:=λm=>by
  induction m with
  |zero=>intro h;rw[show n=0 by lia];rfl
  |succ m i=>
   intro h;by_cases e:n=m+1
   .rw[e];refine QC λj g=> ?_;rw[aI,PY,Pe (Pf.mp g)];rfl
   .rw[RQ,RY,i ()];have:(aw (2^n-1) s).testBit m=false:=by rw[aI,PY,Pc ()];rfl
    simp[this]
 exact(d 8 k).symm
theorem dH:aE [Vx,"_law_levels","_law_out","_law_drawn","_law_left","_law_found","_law_s","_law_wide","_law_j"] UA (aq gW):=aS
theorem vK(T:Tb K mg)(D:bo K mg "_law_minor" gW UA):Cal P w K mg base 1 "_law_minor" UA (Hr K):=by
 refine D.cal dH λf cdv A outer cp H vs Q E hr h=> ?_;obtain⟨b,n,o,a,r,rfl,hb,M,ho,hw,k⟩:=h;refine#[_,(ab (wls 4 dH.nd [V9] ["_law_out","_law_drawn"] [2,3] (wrng T.range_ (pv 0)) (wnC 0) (ee (wpt a7 (aB gv (aB mD (aB pW (pv 1) (pv 2)) (pv 0)) ae) ae)) (pv 0))
   (ab (wset 5 dH.nd (cw af))
   (ab (wfor (wrng T.range_ (aB gu ae (wlen K T.len_ (pv 4)))) (wname 6 dH.nd)
     (ab (wset 7 dH.nd (pv 3))
     (ab (wfor (wrng T.range_ (wlen K T.len_ (pv 4))) (wname 8 dH.nd)
       (aj (aZ (wpt a7 (aB gv (aB mD (pv 6) (pv 8)) ae) ae)
         (aj (wset 7 dH.nd (aB pW (pv 7) (aB gu ae (cG K (pv 4) (pv 8))))))
         aO)))
     (aj (c8 (kh (K:=K) ⋯ QZ Q5 Q6 e7 (pv 5) (aa (aB gs (cG K (pv 1) (pv 7)) (cG K (pv 1) (pv 3))) af)))))))
   (aj (aC (pv 5)))))),6]
 have n8:=M.n8;have p8:=rD n8;refine#[77996];rw[Pj];refine gC (λj=>decide (V.int (Builtin.bitAnd (((o|||a:Nat):Int) /2^(0+(j:Int)).toNat) 1)=V.int 0)) (λj=> .int (0+(j:Nat))) (Pr n8 ∅) (λj vs H' R S hj hv sm hk=> ?_) λq x hq O ai=> ?_
 .obtain⟨v,rfl⟩:=bG hv;have N:=hk [some (.int (0+(j:Nat)))] H' rfl (Same.refl _);refine#[77878,by show(0:Int)<=0+(j:Int);lia,8276];(try dsimp only);rw[gF];show if decide (V.int (Builtin.bitAnd (((o|||a:Nat):Int) /2^(0+(j:Int)).toNat) 1)=V.int 0)=true then _ else _;by_cases hc:decide (V.int (Builtin.bitAnd (((o|||a:Nat):Int) /2^(0+(j:Int)).toNat) 1)=V.int 0)=true
  .rw[Pd hc]at N⊢;exact#[7,N]
  .rw[Pb hc]at N⊢;exact N
 have el:ik (λj=>decide (V.int (Builtin.bitAnd (((o|||a:Nat):Int) /2^(0+(j:Int)).toNat) 1)=V.int 0)) (λj=>V.int (0+(j:Nat))) n=(bits (aw (2^n-1) (o|||a))).map V.int:=by rw[<-F2 n8];exact kY _ n
 rw[el]at ai;have kl:aw (2^n-1) (o|||a)<2^n:=j5;generalize aw (2^n-1) (o|||a)=g at*;refine#[Qu _,λl hl=> ?_];have ay:Same x (upd x l (.lst [])):=Same.new hl;have bS:upd x l (.lst []) l=some (.lst (((List.range 0).map λs=>((cJ r g a s:Nat):Int)).map V.int)):=ah;generalize upd x l (.lst [])=H2 at*;have b6:=(O.trans ay).seq hb;have bX:=ay.at ai;have zl:((bits g).map V.int).length=sz g:=My _;have z8:sz g<=8:=aW g;have pz:=rD z8;have cg:0<2^sz g:=Q9 ();refine#[7,q,7, .inl (SqL.of bX),6];rw[zl];refine#[8,#[994],76];rw[dO];refine#[996];rw[Pj];refine dz (n:=2^sz g) (λi u H'=>∃v6 v7 p:Option V,Same x H'/\H' l=some (.lst (((List.range i).map λs=>((cJ r g a s:Nat):Int)).map V.int))/\u=[yS n,xS b,yS o,yS a,xS q,xS l,v6,v7,p]) #[none,none,none,ay,bS,2] ?_ ?_
 .rintro i u U hi ⟨v6,v7,p,y,L,rfl⟩;dsimp only[bC];rw[QO];have bk:=y.at ai;refine#[77,q,7, .inl (SqL.of bk),6];rw[zl];refine#[7996];rw[Pj];refine dz (n:=sz g) (λj u H'=>H'=U/\∃(W:Nat)(p:Option V),W<2^n/\(∀t:Nat,W.testBit t=true↔a.testBit t=true\/∃m,m<j/\(bits g)[m]?=some (t:Int)/\i.testBit m=true)/\u=[yS n,xS b,yS o,yS a,xS q,xS l,yS i,yS W,p]) #[2,a,p,hw,λt=>#[5],2] ?_ ?_
  .rintro j u H4 hj ⟨rfl,W,p,G,J,rfl⟩;dsimp only[bC];have a6:j<(bits g).length:=hj;have z:=PF a6;obtain⟨t,t8,tb,et⟩:=cQ.mp (QP a6);rw[et]at z;have tn:=bw kl tb;refine#[778,(by show(0:Int)<=0+(j:Int);lia),8276];rw[ya];refine cC (λag=> ?_) λag=> ?_
   .refine#[777,q,3,SqL.of bk,by rw[QO];exact mE z,8,#[994],82,W|||2^t,some (.int (0+(j:Nat))),aM G tn,λs=> ?_,6]
    .rw[a9,P0,PD,J s];constructor
     .rintro((h|⟨m,B,c,d⟩)|h)
      .exact .inl h
      .exact .inr #[m,9,c,d]
      .exact .inr #[j,9,by rw[<-h];exact z,ag]
     .rintro(h|⟨m,B,c,d⟩)
      .exact .inl (.inl h)
      .by_cases e:m=j
       .subst e;rw[z]at c;have:=Qq c;exact .inr ()
       .exact .inl (.inr #[m,9,c,d])
    .show [_,_,_,_,_,_,_,some (V.int (Builtin.bitOr (W:Int) (1*2^((t:Nat):Int).toNat))),_]=_;rw[o9,gF]
   .refine#[2,W,_,G,λs=> ?_,2];rw[J s];refine Sx #[λ⟨m,B,c,d⟩=>#[m,9,c,d],λ⟨m,B,c,d⟩=>#[m,6,c,d]];by_cases e:m=j
    .subst e;exact absurd d ag
    .lia
  .rintro u H4 ⟨rfl,W,p,G,J,rfl⟩;have eW:W=aT i g|||a:=PC λt=>by
    rw[Q8,J t,PN,P0,cx];constructor
    .rintro(h|⟨m,B,c,d⟩)
     .exact .inr h
     .exact .inl #[m,c,d]
    .rintro(⟨m,c,d⟩|h)
     .exact .inr #[m,(Pn.mp c).1,c,d]
     .exact .inl h
   subst eW;have a3:=(O.trans y).seq hb;refine#[7, .inl #[21,SqL.of L],77,b,3,a3,tq r G,77,b,3,a3,tq r hw,8,l,8,L,66]
   .rw[My,My,Pw];exact Pg hi (Pr pz ∅)
   .refine#[111,y.upd hl,62];rw[ah,RQ,Qs,Qs,<-M.min_int kl hw i];rfl
 .rintro u U ⟨v6,v7,p,y,L,rfl⟩;exact#[7,k l U (O.trans y) (O.free hl) L]
structure qy(n:Nat)(r:Nat->Nat)(ms:List Int):Prop where
 mat:Mat n r
 mem:∀z,z∈ms↔∃b:Nat,b<2^n/\z=(b:Int)/\sz b=r (2^n-1)/\r b=r (2^n-1)
 few:ms.length<=2^n
theorem NH{n m:Nat}(e:n<=8)(d:m<=n)(h:ps=[]\/(0<m/\m<n/\Far m ps)):qy n (kK (gI n m ps)) (gI n m ps):=by
 obtain⟨M,a⟩:=LM e d h;refine#[M,λz=> ?_,by unfold gI;rw[My];exact Pr (QU _ _) (by rw[Pw];exact Pu _)];unfold gI;rw[Pl];constructor
 .rintro⟨b,c,rfl⟩;obtain⟨g1,g2,g3⟩:=(a b).mp c;exact#[b,g1,2,g2.symm.trans g3,g3]
 .rintro⟨b,g1,rfl,g2,g3⟩;exact#[b,(a b).mpr #[g1,g3.trans g2.symm,g3],2]
theorem qy.ne(h:qy n r ms):ms≠[]:=by
 obtain⟨B,d⟩:=rO h.mat;obtain⟨b,c,a⟩:=oK.mp d;exact λe=>by have:=(h.mem (B:Int)).mpr #[B,b,2,a,c.trans a];rw[e]at this;cases this
theorem qy.bd(h:qy n r ms):∀m∈ms,0<=m/\m<256:=λm c=>by obtain⟨b,a,rfl,_⟩:=(h.mem m).mp c;have:=mh h.mat.n8 a;lia
theorem iZ:aE [VY,Vx,"_law_points","_law_ties",V9,"_law_mixed"] UU (aq jG):=aS
theorem AW(T:Tb K mg)(D:bo K mg "_law_net" jG UU)(ag:kR P w K mg base 2 "Net" cN UM (DN K cN)):Cal P w K mg base 4 "_law_net" UU (DK K cN):=by
 refine D.cal iZ λf cdv A outer b9 H vs Q E hr h=> ?_;obtain⟨c,cs,n,rfl,hc,c0,n6,k⟩:=h;refine#[_,(ab (wset 2 iZ.nd (aB dJ ae (aB bI (aB bI (aB eg (cG K (pv 0) ae) ae) ae) ae)))
   (ab (wset 3 iZ.nd (cw af))
   (ab (wfor (wrng T.range_ (pv 1)) (wname 4 iZ.nd)
     (ab (wset 5 iZ.nd (aB bI (aB eg (aB dJ (cG K (pv 0) (aB bI (pv 4) (wlen K T.len_ (pv 0)))) (pv 4)) (aB dJ ae (aB eg (aB eg ae (pv 4)) (pv 4)))) ae))
     (aj (c8 (kh (K:=K) ⋯ QZ Q5 Q6 e7 (pv 3) (aa (kg (aa (aB bI (pv 5) (pv 2)) (aa (aB bI (aB iq (pv 5) ae) (pv 2)) af))) af))))))
   (aj (aC (iF ag hr ∅ ⋯ (aa (pv 1) (aa (pv 2) (aa (pv 3) af))))))))),6]
 have a4:atI (cs.map V.int) 0=some (.int (cs.getD 0 0)):=cj (j:=0) c0;refine#[7,c,3,hc,a4,8, .inr #[44],848486];obtain⟨p,hp,p0,p6⟩:∃p:Nat,(1+cs.getD 0 0*16807 % 65521 % 6:Int)=(p:Int)/\0<p/\p<=6:=by have h1:=QS (cs.getD 0 0*16807 % 65521) (show(6:Int)≠0 by decide);have h2:=QI (cs.getD 0 0*16807 % 65521) (show(0:Int)<6 by decide);exact#[(1+cs.getD 0 0*16807 % 65521 % 6).toNat,999]
 rw[hp];refine#[Qu _,λq hq=> ?_];refine#[7,(n:Int),2996];rw[Pj];refine dz (n:=n) (λi O d=>∃(l:List V) (ts:List (Nat×Nat)) (M N:Option V),Same H d/\d q=some (.lst l)/\dF d l ts/\ts.length=i/\ri p ts/\O=[xS c,yS n,yS p,xS q,M,N]) #[[],[],none,none,Same.new hq,ah,dF.nil,2,λt G=>absurd G P7,2] ?_ ?_
 .rintro i O d hi ⟨l,ts,M,N,y,g,r,hl,v,rfl⟩;dsimp only[bC];rw[QO];have ay:=y.seq hc;have il:(i:Int) % ((cs.map V.int).length:Nat)=((i % cs.length:Nat):Int):=by rw[My];rfl
  have ai:atI (cs.map V.int) ((i:Int) % ((cs.map V.int).length:Nat))=some (.int (cs.getD (i % cs.length) 0)):=by rw[il];exact cj (SS _ c0)
  refine#[777,c,7, .inl ay,8,by rw[My];lia,c,3,ay,ai,786];have bu:i<8:=()
  refine#[78, .inl #[44],78, .inr #[99],88, .inr #[66],846]
  .have:(0:Int)<=31*(i:Int)*(i:Int):=Ur () ();lia
  .have:31*(i:Int)*(i:Int)<=31*8*8:=Us () () () ∅;lia
  generalize ((cs.getD (i % cs.length) 0+(i:Int))*(48271+31*(i:Int)*(i:Int)) % 2147483629)=a;have m:(0:Int)<(p:Int):=()
  have b0:l.length=i:=r.1.trans hl;refine#[7, .inl #[21,SqL.of g],778,m,78,#[44],78,m,Pr (Pu 2) ∅,λu J=> ?_];have m1:=QS a (Int.ne_of_gt m);have m2:=QI a m;have m3:=QS (a/1009) (Int.ne_of_gt m);have m4:=QI (a/1009) m;have B:Same d (upd d u (.tup [.int (a % (p:Int)), .int (a/1009 % (p:Int))])):=Same.new J;refine#[q,8,B.at g,by rw[b0];exact Pg bu ∅,6];have nu:u≠q:=λe=>by rw[e,g]at J;cases J
  refine#[l++[.ref u],ts++[((a % (p:Int)).toNat,(a/1009 % (p:Int)).toNat)],11,(y.trans B).upd hq,ah,dF.snoc (r.ts λb xs e=> ?_) ?_,by rw[PK,hl];rfl,λt G=> ?_,2]
  .have:=B.at e;rw[aA (jK this (B.at g) λz=>by cases z)];exact this
  .rw[aA nu,ah];show some (HO.tup [V.int (a % (p:Int)),V.int (a/1009 % (p:Int))])=some (HO.tup [V.int ((a % (p:Int)).toNat:Int),V.int ((a/1009 % (p:Int)).toNat:Int)]);rw[SF m1,SF m3]
  .rcases Pz.mp G with h|h
   .exact v t h
   .rw[PR.mp h];exact#[99]
 .rintro O d ⟨l,ts,M,N,y,g,r,hl,v,rfl⟩;refine#[777,λph dh x L b6=>#[ph,dh,q,11,l,ts,2,ah,SqL.of (by rw[aA (au g x),aA (au g L)];exact g),r.ts (λb zs e=>by rw[aA (au e x),aA (au e L)];exact e),by rw[r.1];lia,λtt bX U b4 bM a6 br bt=> ?_]];have bN:Same d U:=λb o e=>bM b o (by rw[aA (au e x),aA (au e L)];exact e) (au e x);exact#[2,k ph p ts U (y.trans bN) #[p,ts,#[dh,tt,bX,a6,br,bt],v,9,hl,λs hs=>Np v (by rw[hl];exact hs)] hl v]
theorem eV:aE UB Uw (aq gT):=aS
theorem vH(T:Tb K mg)(D:bo K mg "_law_table" gT Uw)(ag:kR P w K mg base 2 "Tabled" cT UE (tP K cT)):Cal P w K mg base 4 "_law_table" Uw (sx K cT):=by
 refine D.cal eV λf cdv A outer cS H vs Q E hr h=> ?_;obtain⟨c,cs,n,m,rfl,hc,c0,n6,pm,k⟩:=h;refine#[_,(ab (wset 3 eV.nd (cw af))
   (ab (wfor (wrng T.range_ (aB bI (aB bI (aB eg (cG K (pv 0) ae) ae) ae) ae)) (wname 4 eV.nd)
     (ab (wset 5 eV.nd (cw af))
     (ab (wfor (wrng T.range_ (pv 1)) (wname 6 eV.nd)
       (ab (wset 7 eV.nd (aB dJ (cG K (pv 0) (aB bI (aB dJ (aB eg ae (pv 4)) (pv 6)) (wlen K T.len_ (pv 0)))) ae))
       (aj (c8 (kh (K:=K) ⋯ QZ Q5 Q6 e7 (pv 5) (aa (aB bI (aB eg (pv 7) (aB dJ (aB dJ ae (aB eg (aB eg ae (pv 6)) (pv 6))) (pv 4))) ae) af))))))
     (aj (c8 (kh (K:=K) ⋯ QZ Q5 Q6 e7 (pv 3) (aa (pv 5) af)))))))
   (aj (aC (iF ag hr ∅ ⋯ (aa (pv 1) (aa (pv 2) (aa (pv 3) af)))))))),6]
 have bX:atI (cs.map V.int) 0=some (.int (cs.getD 0 0)):=cj (j:=0) c0;refine#[Qu _,λq hq=> ?_];obtain⟨u,eh,h3⟩:∃u:Nat,cs.getD 0 0*69621 % 65519 % 4=(u:Int)/\u<=3:=#[(cs.getD 0 0*69621 % 65519 % 4).toNat,99];refine#[7,c,3,(Same.new hq).seq hc,bX,8, .inr #[44],8484,(u:Int),(by rw[<-eh]),996];rw[Pj];refine dz (n:=u) (λi l H'=>∃xs M v4 v5 d g,Same H H'/\H' q=some (.lst xs)/\aQ H' xs M/\M.length=i/\(∀x∈M,kx n 200 x)/\l=[xS c,yS n,yT m,xS q,v4,v5,d,g])
  #[[],[],none,none,none,none,Same.new hq,ah,#[2,λi r h=>by simp at h],2,(λx hx=>nomatch hx),2] ?_ ?_
 .rintro j l H' hj ⟨xs,M,v4,v5,d,g,O,bp,bt,J,U,rfl⟩;refine#[Qu _,λp B=> ?_];have pq:p≠q:=λz=>by rw[z,bp]at B;cases B
  refine#[7,(n:Int),2996];rw[Pj];refine dz (n:=n) (λi l v=>∃(r:List Int)(d g:Option V),Same H' v/\v p=some (.lst (r.map V.int))/\r.length=i/\(∀z∈r,z.natAbs<2^200)/\l=[xS c,yS n,yT m,xS q,some (.int (0+(j:Int))),xS p,d,g])
   #[[],d,g,Same.new B,ah,2,(λz hz=>nomatch hz),2] ?_ ?_
  .rintro i l v hi ⟨r,d,g,t,G,L,br,rfl⟩;dsimp only[bC];rw[QO,QO];have hb:=(O.trans t).seq hc;have il:(7*(j:Int)+(i:Int)) % ((cs.map V.int).length:Nat)=(((7*j+i) % cs.length:Nat):Int):=by rw[My,show 7*(j:Int)+(i:Int)=((7*j+i:Nat):Int) by lia];exact(Int.natCast_emod ..).symm
   have ai:atI (cs.map V.int) ((7*(j:Int)+(i:Int)) % ((cs.map V.int).length:Nat))=some (.int (cs.getD ((7*j+i) % cs.length) 0)):=by rw[il];exact cj (SS _ c0)
   refine#[778, .inl #[44],787,c,7, .inl hb,8,by rw[My];lia,c,3,hb,ai,86];refine#[7, .inl #[21,SqL.of G],778, .inl #[44],78, .inr #[99],8788, .inr #[66],846]
   .have:(0:Int)<=31*(i:Int)*(i:Int):=Ur () ();lia
   .have:31*(i:Int)*(i:Int)<=31*8*8:=Us () () () ∅;lia
   (try dsimp only);have z0:=QS ((cs.getD ((7*j+i) % cs.length) 0+1)*(7919+31*(i:Int)*(i:Int)+(j:Int))) (show(65521:Int)≠0 by decide);have z1:=QI ((cs.getD ((7*j+i) % cs.length) 0+1)*(7919+31*(i:Int)*(i:Int)+(j:Int))) (show(0:Int)<65521 by decide);generalize (cs.getD ((7*j+i) % cs.length) 0+1)*(7919+31*(i:Int)*(i:Int)+(j:Int)) % 65521=z at*;have x9:(z).natAbs<2^200:=Pg (show(z).natAbs<2^20 by lia) (PJ ∅ ∅);refine#[p,8,G,by rw[My,L];exact Pg (show i<8 by lia) ∅,6];refine#[r++[z],11,t.upd B,6,by rw[PK,L];rfl,λy a=> ?_,2]
   .rw[ah,Qs];rfl
   .rcases Pz.mp a with a|a
    .exact br y a
    .rw[PR.mp a];exact x9
  .rintro l v ⟨r,d,g,t,G,L,br,rfl⟩;have az:=t.at bp;have b5:=bt.same t;refine#[7, .inl #[21,SqL.of az],7,q,8,az,by rw[bt.1,J];exact Pg (show j<8 by lia) ∅,6];refine#[xs++[.ref p],M++[r],1111,(O.trans t).upd hq,ah,aQ.push b5 az G pq,by rw[PK,J];rfl,λy a=> ?_,2];rcases Pz.mp a with a|a
   .exact U y a
   .rw[PR.mp a];exact#[L,br]
 rintro l H1 ⟨xs,M,v4,v5,d,g,O,ay,bu,J,U,rfl⟩;refine#[777,λph dh N aD cM=>#[ph,dh,q,11,xs,M,2,ah,by rw[aA (au ay N),aA (au ay aD)];exact ay,bu.same (λb o e=>by rw[aA (au e N),aA (au e aD)];exact e),by rw[bu.1,J];lia,λtt ys HA cK b9 b1 b3 b6=> ?_]];have cm:Same H1 HA:=λb o e=>b9 b o (by rw[aA (au e N),aA (au e aD)];exact e) (au e N);exact#[2,k ph M HA (O.trans cm) #[m,M,#[dh,tt,ys,b1,b3,b6],9,U,pm,λs _=>rfl]]
theorem eX:aE UB Uw (aq gU):=aS
theorem vI(T:Tb K mg)(D:bo K mg "_law_signs" gU Uw)(ag:kR P w K mg base 2 "Tabled" cT UE (tP K cT)):Cal P w K mg base 4 "_law_signs" Uw (sx K cT):=by
 refine D.cal eX λf cdv A outer cS H vs Q E hr h=> ?_;obtain⟨c,cs,n,m,rfl,hc,c0,n6,pm,k⟩:=h;refine#[_,(ab (wset 3 eX.nd (cw af))
   (ab (wfor (wrng T.range_ (aB dJ ae (aB bI (aB bI (aB eg (cG K (pv 0) ae) ae) ae) ae))) (wname 4 eX.nd)
     (ab (wset 5 eX.nd (cw af))
     (ab (wfor (wrng T.range_ (pv 1)) (wname 6 eX.nd)
       (ab (wset 7 eX.nd (aB dJ (cG K (pv 0) (aB bI (aB dJ (aB eg ae (pv 4)) (pv 6)) (wlen K T.len_ (pv 0)))) ae))
       (aj (c8 (kh (K:=K) ⋯ QZ Q5 Q6 e7 (pv 5) (aa (aB gs (aB bI (aB bI (aB eg (pv 7) (aB dJ (aB dJ ae (aB eg (aB eg ae (pv 6)) (pv 6))) (pv 4))) ae) ae) ae) af))))))
     (aj (c8 (kh (K:=K) ⋯ QZ Q5 Q6 e7 (pv 3) (aa (pv 5) af)))))))
   (aj (aC (iF ag hr ∅ ⋯ (aa (pv 1) (aa (pv 2) (aa (pv 3) af)))))))),6]
 have bX:atI (cs.map V.int) 0=some (.int (cs.getD 0 0)):=cj (j:=0) c0;refine#[Qu _,λq hq=> ?_];obtain⟨u,eh,h3⟩:∃u:Nat,1+cs.getD 0 0*69621 % 65519 % 3=(u:Int)/\u<=3:=#[(1+cs.getD 0 0*69621 % 65519 % 3).toNat,99];refine#[7,c,3,(Same.new hq).seq hc,bX,8, .inr #[44],84848,(u:Int),(by rw[<-eh]),996];rw[Pj];refine dz (n:=u) (λi l H'=>∃xs M v4 v5 d g,Same H H'/\H' q=some (.lst xs)/\aQ H' xs M/\M.length=i/\(∀x∈M,kx n 200 x)/\l=[xS c,yS n,yT m,xS q,v4,v5,d,g])
  #[[],[],none,none,none,none,Same.new hq,ah,#[2,λi r h=>by simp at h],2,(λx hx=>nomatch hx),2] ?_ ?_
 .rintro j l H' hj ⟨xs,M,v4,v5,d,g,O,bp,bt,J,U,rfl⟩;refine#[Qu _,λp B=> ?_];have pq:p≠q:=λz=>by rw[z,bp]at B;cases B
  refine#[7,(n:Int),2996];rw[Pj];refine dz (n:=n) (λi l v=>∃(r:List Int)(d g:Option V),Same H' v/\v p=some (.lst (r.map V.int))/\r.length=i/\(∀z∈r,z.natAbs<2^200)/\l=[xS c,yS n,yT m,xS q,some (.int (0+(j:Int))),xS p,d,g])
   #[[],d,g,Same.new B,ah,2,(λz hz=>nomatch hz),2] ?_ ?_
  .rintro i l v hi ⟨r,d,g,t,G,L,br,rfl⟩;dsimp only[bC];rw[QO,QO];have hb:=(O.trans t).seq hc;have il:(7*(j:Int)+(i:Int)) % ((cs.map V.int).length:Nat)=(((7*j+i) % cs.length:Nat):Int):=by rw[My,show 7*(j:Int)+(i:Int)=((7*j+i:Nat):Int) by lia];exact(Int.natCast_emod ..).symm
   have ai:atI (cs.map V.int) ((7*(j:Int)+(i:Int)) % ((cs.map V.int).length:Nat))=some (.int (cs.getD ((7*j+i) % cs.length) 0)):=by rw[il];exact cj (SS _ c0)
   refine#[778, .inl #[44],787,c,7, .inl hb,8,by rw[My];lia,c,3,hb,ai,86];refine#[7, .inl #[21,SqL.of G],778, .inl #[44],78, .inr #[99],8788, .inr #[66],848486]
   .have:(0:Int)<=31*(i:Int)*(i:Int):=Ur () ();lia
   .have:31*(i:Int)*(i:Int)<=31*8*8:=Us () () () ∅;lia
   (try dsimp only);have z0:=QS ((cs.getD ((7*j+i) % cs.length) 0+1)*(7919+31*(i:Int)*(i:Int)+(j:Int))) (show(65521:Int)≠0 by decide);have z1:=QI ((cs.getD ((7*j+i) % cs.length) 0+1)*(7919+31*(i:Int)*(i:Int)+(j:Int))) (show(0:Int)<65521 by decide);generalize (cs.getD ((7*j+i) % cs.length) 0+1)*(7919+31*(i:Int)*(i:Int)+(j:Int)) % 65521=z at*;have x9:(z % 4-1).natAbs<2^200:=Pg (show(z % 4-1).natAbs<2^20 by lia) (PJ ∅ ∅);refine#[p,8,G,by rw[My,L];exact Pg (show i<8 by lia) ∅,6];refine#[r++[z % 4-1],11,t.upd B,6,by rw[PK,L];rfl,λy a=> ?_,2]
   .rw[ah,Qs];rfl
   .rcases Pz.mp a with a|a
    .exact br y a
    .rw[PR.mp a];exact x9
  .rintro l v ⟨r,d,g,t,G,L,br,rfl⟩;have az:=t.at bp;have b5:=bt.same t;refine#[7, .inl #[21,SqL.of az],7,q,8,az,by rw[bt.1,J];exact Pg (show j<8 by lia) ∅,6];refine#[xs++[.ref p],M++[r],1111,(O.trans t).upd hq,ah,aQ.push b5 az G pq,by rw[PK,J];rfl,λy a=> ?_,2];rcases Pz.mp a with a|a
   .exact U y a
   .rw[PR.mp a];exact#[L,br]
 rintro l H1 ⟨xs,M,v4,v5,d,g,O,ay,bu,J,U,rfl⟩;refine#[777,λph dh N aD cM=>#[ph,dh,q,11,xs,M,2,ah,by rw[aA (au ay N),aA (au ay aD)];exact ay,bu.same (λb o e=>by rw[aA (au e N),aA (au e aD)];exact e),by rw[bu.1,J];lia,λtt ys HA cK b9 b1 b3 b6=> ?_]];have cm:Same H1 HA:=λb o e=>b9 b o (by rw[aA (au e N),aA (au e aD)];exact e) (au e N);exact#[2,k ph M HA (O.trans cm) #[m,M,#[dh,tt,ys,b1,b3,b6],9,U,pm,λs _=>rfl]]
theorem n9:aE [VY,Vx,"_law_way",V3] UI (aq gY):=aS
theorem vM(T:Tb K mg)(D:bo K mg "_law_house" gY UI)(ar:Cal P w K mg base 4 "_law_net" UU (DK K cN))(ag:Cal P w K mg base 4 "_law_table" Uw (sx K cT))(ai:Cal P w K mg base 4 "_law_signs" Uw (sx K cT))(az:kR P w K mg base 2 "Even" cE UY (xX cE))(ay:kR P w K mg base 2 "Listed" cL UX (DO K cL))(ax:Cal P w K mg base 2 "_law_far" UH (Mf K)):Cal P w K mg base 5 "_law_house" UI (DQ K (hs4 cE cL cN cT)):=by
 refine D.cal n9 λf cdv A outer c1 H vs Q E g h=> ?_;obtain⟨c,cs,n,a,rfl,l,c0,bX,L,w0,w7,k⟩:=h;refine#[_,(ab (aZ (wpt a7 (pv 2) ae)
     (aj (aC (wcal ar g (aa (pv 0) (aa (pv 1) af)))))
     aO)
   (ab (aZ (wpt rF (pv 2) ae)
     (aj (aC (wcal ag g (aa (pv 0) (aa (pv 1) (aa (aB dJ (pv 2) ae) af))))))
     aO)
   (ab (aZ (wpt pX (pv 2) ae)
     (aj (aC (wcal ai g (aa (pv 0) (aa (pv 1) (aa (cG K (cw (aa ae (aa ae af))) (aB gs (pv 2) ae)) af))))))
     aO)
   (ab (wset 3 n9.nd (aB bI (aB bI (aB eg (cG K (pv 0) ae) ae) ae) (aB dJ (pv 1) ae)))
   (ab (aZ (wpt a7 (pv 2) ae)
     (aj (aC (iF az g ∅ ⋯ (aa (pv 1) (aa (pv 3) af)))))
     aO)
   (aj (aC (iF ay g ∅ ⋯ (aa (pv 1) (aa (wcal ax g (aa (pv 0) (aa (pv 1) (aa (pv 3) af)))) af)))))))))),6]
 have d:n<=8:=()
 refine#[727,cC (λe=> ?_) λu=> ?_]
 .refine#[77,c,cs,n,2,l,c0,L,λh p ts H' r q hl ok=> ?_];have M:=mH (ts.map eT) d;exact k h _ H' r (.inr (.inl q)) M (λ_=>Ka M rfl (A0 _ d (aH n) rfl)) λ_=>by have:=IT ok ();rwa[hl]at this
 have u:¬a=0:=λz=>u (by rw[z];rfl);have bp:∀m:Int,bg m->(a=1->m=2)->(a=2->m=3)->∀(h:Addr) (M:List (List Int)) H',Same H H'->NT cT H' h n (bE m (M.map cu))->Q (.ref h) H':=λm v h1 h2 h M H' r q=>k h _ H' r (.inr (.inr q)) (jc v _ d) (λz=>by rcases z with z|z;exact absurd z u;rw[h1 z];exact#[_,λ_ _=>rfl]) λz=>by rcases z with z|z;exact absurd z u;rw[h2 z];exact#[_,λ_ _=>rfl]
 refine#[787,cC (λi=> ?_) λi=> ?_]
 .have i:=PH i;have:a=1\/a=2:=()
  refine#[7778,c,cs,n,a+1,2,l,c0,L,by rcases this with rfl|rfl;exact bR;exact aN,bp (a+1) (by rcases this with rfl|rfl;exact bR;exact aN) () ()]
 have i:¬a<3:=λz=>i (Pe z);refine#[787,cC (λJ=> ?_) λJ=> ?_]
 .have J:=PH J;obtain⟨m,v,bB⟩:∃m:Int,bg m/\atI [V.int 0,V.int 5] (a-5)=some (.int m):=by
   have:a=5\/a=6:=()
   rcases this with rfl|rfl
   .exact#[0,oH,2]
   .exact#[(5),oI 5 ∅,2]
  refine#[77,by show 2<=sizeLine;decide,λpd b5=> ?_];have a6:Same H (upd H pd (.lst [V.int 0,V.int 5])):=Same.new b5;refine#[78,pd,3,SqL.of ah,bB,c,cs,n,m,2,a6.seq l,c0,L,v,λh M H' r q=>bp m v () () h M H' (a6.trans r) q]
 have bA:atI (cs.map V.int) 0=some (.int (cs.getD 0 0)):=cj (j:=0) c0;refine#[7,c,3,l,bA,8, .inr #[44],84788,(by show(0:Int)<(n:Int)+1;lia),6];obtain⟨m,em⟩:=Rb (show 0<=cs.getD 0 0*16807 % 65521 % ((n:Int)+1)from QS _ ());have mn:m<=n:=by have:=QI (cs.getD 0 0*16807 % 65521) (show(0:Int)<(n:Int)+1 by lia);lia
 (try dsimp only);rw[em];have a0:∀ {x:Prop},a=0\/a=1->x:=λz=>()
 have a3:∀ {x:Prop},a=0\/a=2->x:=λz=>()
 refine#[727,cC (λ_=> ?_) λ_=> ?_]
 .refine#[77,λph O cb b8 cK=>#[ph,O,17,ah,6]];(try dsimp only);rw[fM];exact#[2,k ph (λs=>min (sz s) m) _ (((Same.refl H).upd b8).upd cb) (.inl (.inl #[O,m,ah,λs _=>rfl])) (Jh d m) a0 a3]
 .refine#[7777,c,cs,n,m,2,l,c0,bX,d,mn,λpt G ps cm ct b4 b3=> ?_];have B:=NH d mn b3;generalize gI n m ps=ms at*;have U:ms.length<=1000:=by have:=B.few;have:=rD d;lia
  refine λy t aD b9 cM=> ?_;have bk:Same G (upd (upd G t (.own y)) y (.ins cL t [])):=λb o e=>by rw[aA (au e aD),aA (au e b9)];exact e
  refine#[y,t,pt,n,ms,2,ah,SqL.of (bk.at b4),U,λtt N cy cg b6 b7=>#[26]];have cn:Same G N:=λb o e=>cg b o (bk.at e) (au e aD);exact k y _ N (cm.trans cn) (.inl (.inr #[ms,#[t,tt,b6,b7,U],B.ne,B.bd,λs _=>rfl])) B.mat a0 a3
theorem DB(a:i<R):(iz c n R)[i]?=some ((List.range n).map λt=>(c t).getD i 0):=by unfold iz;rw[PB,QD a];rfl
theorem Ky(c:Nat->List Int)(n R:Nat):(iz c n R).length=R:=by unfold iz;rw[My,Pw]
theorem F6(r:Nat->Nat):atI ((jw n r).map V.int) (-1)=some (.int (r (2^n-1):Nat)):=by
 have b:=two_pow_pos n;rw[Dt (by rw[oY];lia) ∅,oY];have e:((-1:Int)+((2^n:Nat):Int)).toNat=2^n-1:=()
 rw[e];have a:2^n-1<2^n:=()
 unfold jw;simp[a]
def jh(c:Nat->List Int)(R S:Nat):List (List Int):=(List.range R).map λi=>(ao S).map λt=>(c t).getD i 0
theorem Iv(h:sz S=R):aK ((jh c R S).map cu) (List.range R)=aK (bz (gG c) (List.range R)) (ao S):=by
 have d:(ao S).length=R:=(aP S).trans h;have a:=qr (λj=>(ao S).getD j 0) (List.range R) (bz (gG c) (List.range R));have b:=kX (ao S);rw[d]at b;rw[b]at a;rw[<-a];refine gE (List.range R) _ _ (by unfold jh bz;simp) λi j f=> ?_;have g:j<(ao S).length:=by rw[d];exact Pf.mp f
 unfold jh bz;rw[P8,P8,Ph,Ph,PB,PB];by_cases e:i<R
 .rw[QD e];show((ao S).map λt=>(c t).getD i 0).getD j 0=(c ((ao S).getD j 0)).getD i 0;simp[g]
 .rw[RN (by rw[Pw];lia)];rfl
theorem Fw{c:Nat->List Int}{n R S:Nat}(d:n<=8)(a:S<2^n):((List.range n).filter S.testBit).map (λt=>((List.range n).map λt=>(c t).getD i 0).getD t 0)=(ao S).map λt=>(c t).getD i 0:=by rw[Cu d a];refine Qt λt b=> ?_;have e:=bw a (aJ.mp b).2;simp[e]
inductive ED(vs:List V)(H:Hp)(Q:VK):Prop
 |mk(a:Addr) (n:Nat) (word:Int) (r:List Int) (_:vs=[.ref a, .int (n:Int), .int word]) (_:H a=some (.lst (r.map V.int))) (_:r.length=n) (_:(∀z∈r,(if word=0 then-1 else 0)<=z/\z<=(if word=0 then 1 else word-1))) (_:Q (.bl true) H):ED vs H Q
def Ho:Sp:=λvs H Q _=>ED vs H Q
theorem du:aE [Wd,Vx,"_law_word","_law_low","_law_high","_law_number"] UK (aq fz):=aS
theorem sg(T:Tb K mg)(D:bo K mg V1 fz UK)(o:Cal P w K mg base 1 VX U3 xQ):Cal P w K mg base 2 V1 UK Ho:=by
 refine D.cal du λf cdv A outer y H vs Q E s h=> ?_;obtain⟨a,n,word,r,rfl,c,u,t,k⟩:=h;refine#[_,(ab (aZ (PW.pt (iA (kf (di (eO (fS (K:=K) ⋯) ⋯ T.isinstance_ Rv (aa (pv 0) (aa (nE (v:= .ty Vt) ⋯ T.list_ RJ rfl) af))))) (ie (wpt iB (wlen K T.len_ (pv 0)) (pv 1)))))
     (aj (aC fD))
     aO)
   (ab (wset 3 du.nd ae)
   (ab (wset 4 du.nd (aB gs (pv 2) ae))
   (ab (aZ (wpt a7 (pv 2) ae)
     (ab (wset 3 du.nd (jW iE ae))
     (aj (wset 4 du.nd ae)))
     aO)
   (ab (wfor (wil K (pv 0)) (wname 5 du.nd)
     (aj (aZ (PW.pt (iA (kf (di (wcal o s (aa (pv 5) af)))) (iA (wpt rF (pv 5) (pv 3)) (ie (wpt pX (pv 5) (pv 4))))))
       (aj (aC fD))
       aO)))
   (aj (aC fD))))))),6]
 refine#[7111,true,2, .lst c,T.kLL,true,2,dq ?_];refine#[7,a,7, .inl (SqL.of c),7276];rw[My,u];refine qf rfl ?_;refine#[786];dsimp only;refine nF (λm H'=>H'=H/\m=[xS a,yS n,yT word,some (.int (if word=0 then-1 else 0)),some (.int (if word=0 then 1 else word-1)),none]) ?_ λl=> ?_
 rotate_left
 .refine#[727,cC (λg=> ?_) λg=>l _ _ #[26]]
  .have e:word=0:=V.int.inj (PH g);refine#[(1),2,l _ _ #[26]];rw[Pd e,Pd e];rfl
  .have e:¬word=0:=λz=>g (by rw[z];rfl);rw[Pb e,Pb e];rfl
 rintro m H' ⟨rfl,rfl⟩;generalize (if word=0 then(-1:Int)else 0)=lo at*;generalize (if word=0 then(1:Int)else word-1)=hi at*;refine#[7,a,2,#[_,SqL.of c],6];refine cY (K:=K) (a:=a) (xs:=r.map V.int) (λj d b=>b=H'/\∃i,d=[xS a,yS n,yT word,yT lo,yT hi,i]) #[2,none,2] (λj d b _ h=>by rw[h.1];exact SqL.of c) ?_ ?_
 .rintro j x d b q ⟨rfl,i,rfl⟩;obtain⟨z,rfl,p⟩:=bK q;have:=t z (Pq p);dsimp only[bC];refine#[7,z,27,dq ?_];refine#[77876];rw[Pb (by simp;lia)];refine#[77876];rw[Pb (by simp;lia)];exact#[27]
 .rintro d b ⟨rfl,i,rfl⟩;exact k
inductive EB(K:Frag)(vs:List V)(H:Hp)(Q:VK):Prop
 |mk(l b:Addr) (xs:List V) (n R:Nat) (word:Int) (r:Nat->Nat) (c:Nat->List Int) (_:vs=[.ref l, .int (n:Int), .ref b, .int word]) (_:Word word) (_:H l=some (.lst xs)) (_:aQ H xs (iz c n R)) (_:SqL K H b ((jw n r).map V.int)) (_:Mat n r) (_:r (2^n-1)=R) (_:LZ word n R r c) (_:∀H',Same H H'->Q (.bl true) H'):EB K vs H Q
def Hn(K:Frag):Sp:=λvs H Q _=>EB K vs H Q
theorem bL:aE [VI,Vx,"_law_levels","_law_word",Wd,"_law_s","_law_part","_law_number"] Uz (aq cV):=aS
theorem nP(T:Tb K mg)(D:bo K mg VO cV Uz)(ar:Cal P w K mg base 1 VC UR ny)(ai:Cal P w K mg base 2 V1 UK Ho)(ag:Cal P w K mg base 2 VP [VI] (Ht K)):
  Cal P w K mg base 3 VO Uz (Hn K):=by
 refine D.cal bL λf cdv A outer dE H vs Q E p h=> ?_;obtain⟨l,b,xs,n,R,word,r,c,rfl,wd,hl,hR,hb,M,rR,tw,k⟩:=h;refine#[_,(ab (aZ (PW.pt (iA (kf (di (eO (fS (K:=K) ⋯) ⋯ T.isinstance_ Rv (aa (pv 0) (aa (nE (v:= .ty Vt) ⋯ T.list_ RJ rfl) af))))) (ie (wpt iB (wlen K T.len_ (pv 0)) (cG K (pv 2) (jW iE ae))))))
     (aj (aC fD))
     aO)
   (ab (wfor (wil K (pv 0)) (wname 4 bL.nd)
     (aj (aZ (kf (di (wcal ai p (aa (pv 4) (aa (pv 1) (aa (pv 3) af))))))
       (aj (aC fD))
       aO)))
   (ab (wfor (wrng T.range_ (aB gu ae (pv 1))) (wname 5 bL.nd)
     (aj (aZ (wpt a7 (wcal ar p (aa (pv 5) af)) (wlen K T.len_ (pv 0)))
       (ab (wset 6 bL.nd (cw af))
       (ab (wfor (wil K (pv 0)) (wname 4 bL.nd)
         (aj (c8 (kh (K:=K) ⋯ QZ Q5 Q6 e7 (pv 6) (aa (wlc [V9] [Wd,"_law_s"] [4,5] (wrng T.range_ (pv 1)) (wnC 0) (ee (wpt a7 (aB gv (aB mD (pv 2) (pv 0)) ae) ae)) (cG K (pv 1) (pv 0))) af)))))
       (ab (wset 7 bL.nd (wcal ag p (aa (pv 6) af)))
       (ab (aZ (wpt pX (pv 3) ae)
         (aj (wset 7 bL.nd (aB bI (pv 7) (pv 3))))
         (aj (aZ (PW.pt (iA (wpt rF (pv 7) (jW iE ae)) (ie (wpt pX (pv 7) ae))))
           (aj (aC fD))
           aO)))
       (aj (aZ (wpt iB (wpe iB (pv 7) ae) (wpe a7 (cG K (pv 2) (pv 5)) (wlen K T.len_ (pv 0))))
         (aj (aC fD))
         aO))))))
       aO)))
   (aj (aC fD))))),6]
 have n8:=M.n8;have p8:=rD n8;have U:xs.length=R:=by rw[hR.1,Ky]
 have R8:R<=8:=by have:=M.lu (2^n-1) (aH n);have h2:sz (2^n-1)<=8:=aW _;lia
 refine#[7111,true,2, .lst hl,T.kLL,true,2,dq ?_];refine#[7,l,7, .inl (SqL.of hl),7,(1),2,b,3,hb,F6 r,276];rw[U,rR];refine qf rfl ?_;refine#[7,l,2,#[_,SqL.of hl],6];refine cY (K:=K) (a:=l) (xs:=xs) (λi m H2=>H2=H/\∃g,m=[xS l,yS n,xS b,yT word,g,none,none,none]) #[2,none,2] (λi m H2 _ h=>by rw[h.1];exact SqL.of hl) ?_ ?_
 .rintro i x m H2 u ⟨rfl,g,rfl⟩;obtain⟨a,dh,a3,rfl,ha⟩:=hR.at u;have s:i<R:=by rw[<-U];exact(Pn.mp u).1
  rw[DB s]at a3;cases a3;dsimp only[bC];refine#[777,a,n,word,7,ha,by rw[My,Pw],λz N=> ?_,7,dq #[27]];obtain⟨t,ht,rfl⟩:=Pl.mp N;exact tw.num t (Pf.mp ht) i s
 .rintro m H2 ⟨rfl,g,rfl⟩;have dw:=two_pow_pos n;refine#[78,#[994],76];rw[dO];refine#[996];rw[Pj];refine dz (n:=2^n) (λi m o=>Same H2 o/\∃g v5 v6 v7:Option V,m=[xS l,yS n,xS b,yT word,g,v5,v6,v7]) #[Same.refl _,g,none,none,none,2] ?_ ?_
  .rintro S m o hS ⟨y,g,v5,v6,v7,rfl⟩;dsimp only[bC];rw[QO];have a6:=y.at hl;have cN:=hR.same y;refine#[7,(S:Int),2997,l,7, .inl (SqL.of a6),276];rw[U,Pj,a8];refine cC (λN=> ?_) λN=>#[y,g,_,v6,v7,2];have zS:sz S=R:=PH N;refine#[Qu _,λq hq=> ?_];have cm:Same o (upd o q (.lst [])):=Same.new hq;have c1:upd o q (.lst []) q=some (.lst []):=ah;have c2:aQ (hide (upd o q (.lst [])) q) [] ((jh c R S).take 0):=#[2,λi r p=>by simp at p];generalize upd o q (.lst [])=H4 at*;refine#[7,l,2,#[_,SqL.of (cm.at a6)],6];have pl:(jh c R S).length=R:=by unfold jh;rw[My,Pw]
   refine cY (K:=K) (a:=l) (xs:=xs) (λi m J=>∃(G:List V)(g:Option V),Same o J/\J q=some (.lst G)/\aQ (hide J q) G ((jh c R S).take i)/\m=[xS l,yS n,xS b,yT word,g,yS S,xS q,v7]) #[[],g,cm,c1,c2,2] (λi m J _ h=>by obtain⟨_,_,sm,_⟩:=h;exact SqL.of (sm.at a6)) ?_ ?_
   .rintro i x m J u ⟨G,g,O,a0,hY,rfl⟩;obtain⟨a,dh,a3,rfl,ha⟩:=(cN.same O).at u;have s:i<R:=by rw[<-U];exact(Pn.mp u).1
    rw[DB s]at a3;cases a3;dsimp only[bC];refine#[7, .inl #[21,SqL.of a0],77996];rw[Pj];refine gC S.testBit (λt=> .int (((List.range n).map λt=>(c t).getD i 0).getD t 0)) (Pr n8 ∅) (λt vs H' Rk Sk ht hv sm hk=> ?_) λD6 H6 b7 B b8=> ?_
    .obtain⟨v,rfl⟩:=bG hv;have q1:=hk [some (.int (0+(t:Nat)))] H' rfl (Same.refl _);refine#[778,(by show(0:Int)<=0+(t:Int);lia),8276];rw[ya];by_cases hb:S.testBit t=true
     .rw[Pd hb]at q1⊢;refine#[77,a,3,SqL.of (sm.at ha),by rw[QO];exact cj (by rw[My,Pw];exact ht),q1]
     .rw[Pb hb]at q1⊢;exact q1
    .have e6:ik S.testBit (λt=>V.int (((List.range n).map λt=>(c t).getD i 0).getD t 0)) n=((ao S).map λt=>(c t).getD i 0).map V.int:=by rw[<-Fw (R:=R) n8 hS];unfold ik;rw[P8];rfl
     rw[e6]at b8;have yl:G.length=i:=by rw[hY.1,P6,pl];lia
     have nD:D6≠q:=λz=>by rw[z,a0]at b7;cases b7
     refine#[q,8,B.at a0,by rw[yl];exact Pg (Pg s R8) ∅,6];refine#[G++[.ref D6],_,(O.trans B).upd hq,ah,62];have gi:(jh c R S)[i]?=some ((ao S).map λt=>(c t).getD i 0):=by unfold jh;rw[PB,QD s];rfl
     rw[kN,QF,gi];refine rz (hY.same (ju B)) #[2,λj r p=> ?_];cases j with
     |zero=>cases p;exact#[D6,2,by rw[de nD];exact b8]
     |succ j=>simp at p
   .rintro m J ⟨G,g,O,a0,hY,rfl⟩;rw[U,RI (Nat.le_of_eq pl)]at hY;have cO:=hY.same fc;have lS:(ao S).length=R:=(aP S).trans zS;have dp:=λh=>tw.pos h S hS zS;have da:=λh=>tw.all h S hS zS;rw[<-Iv zS]at dp da;refine#[7,q,G,jh c R S,R,2,SqL.of a0,cO,pl,R8,λrr cg=> ?_,λH6 B=> ?_]
    .unfold jh at cg;obtain⟨i,u,rfl⟩:=Pl.mp cg;have s:=Pf.mp u;refine#[by rw[My,lS],λz N=> ?_];obtain⟨t,ht,rfl⟩:=Pl.mp N;have tn:=bw hS (aJ.mp ht).2;have d:=tw.num t tn i s;generalize (c t).getD i 0=z at d⊢;have:z.natAbs<2^7:=by rcases wd with rfl|rfl|rfl<;>simp at d<;>lia
     exact Pg this (PJ ∅ ∅)
    generalize aK ((jh c R S).map cu) (List.range R)=L at*;have cS:=(y.trans (O.trans B)).seq hb;dsimp only;refine nF (λcp H'=>H'=H6/\∃z:Int,(!decide (V.int z=V.int 0))=decide (r S=R)/\cp=[xS l,yS n,xS b,yT word,g,yS S,xS q,yT z]) ?_ λcb=> ?_
    rotate_left
    .refine#[787,cC (λhc=> ?_) λhc=> ?_]
     .have w0:0<word:=PH hc;refine#[778,w0,cb _ _ #[2162]];have iff:=dp w0;by_cases d:r S=R
      .have h3:¬L % word=0:=λz=>iff.mpr d (Sh z);rw[Pe d,Pc (λz=>h3 (V.int.inj z))];rfl
      .have h2:L % word=0:=Uk (PU λz=>d (iff.mp z));rw[Pc d,h2];rfl
     .have w0:word=0:=by
       have:¬0<word:=λz=>hc (Pe z);rcases wd with rfl|rfl|rfl
       .lia
       .lia
       .rfl
      have dd:=da w0;have dy: -1<=L/\L<=1:=by
       by_cases d:r S=R
       .rcases dd.1 d with e|e<;>lia
       .have:=dd.2 d;lia
      refine#[7,(1),2876];rw[Pb (by simp;lia)];refine#[7876];rw[Pb (by simp;lia)];refine cb _ _ #[2,L,62];by_cases d:r S=R
      .have h3:¬L=0:=by rcases dd.1 d with e|e<;>lia
       rw[Pe d,Pc (λz=>h3 (V.int.inj z))];rfl
      .rw[Pc d,dd.2 d];rfl
    rintro cp H' ⟨rfl,z,e1,rfl⟩;refine#[7277,b,3,cS,tq r hS,7,l,7, .inl (SqL.of (B.at (O.at a6))),2276];rw[U,a8];rw[e1];refine qf rfl ?_;exact#[y.trans (O.trans B),1117]
  .rintro m o ⟨y,g,v5,v6,v7,rfl⟩;exact k o y
theorem jO.asW(g:p=2\/p=3)(h:jO p n R r c):LZ p n R r c:=by
 obtain⟨⟨B,m,q,o,st⟩,j,k⟩:=h;have l:bg p:=by rcases g with rfl|rfl;exact bR;exact aN
 have p0:¬p=0:=()
 refine#[λt a i f=> ?_,λ_ S e b=> ?_,λz=>absurd z p0]
 .have d:i<(c t).length:=by rw[j t a];exact f
  have:=k t a ((c t).getD i 0) (by simp[d]);rw[Pb p0,Pb p0];lia
 .exact(cI l (L:=bz (gG c) (List.range R)) (cs:=ao S) (R:=R) (by unfold bz;rw[My,Pw]) ((aP S).trans b)).symm.trans (st.good S (bD e) b)
theorem zu.asW(h:zu n R r c):LZ 0 n R r c:=by obtain⟨⟨B,a⟩,_⟩:=h;refine#[λt e i d=> ?_,λz=>absurd z ∅,λ_ S b f=>a.det b f];have:Sm ((c t).getD i 0):=a.sm t e i d;unfold Sm at this;rw[Pd rfl,Pd rfl];lia
inductive vk(vs:List V)(H:Hp)(Q:VK):Prop
 |mk(word:Int) (_:vs=[.int word]) (_:Word word) (_:∀p H',Same H H'->H' p=some (.lst ((jM word).map V.str))->Q (.ref p) H'):vk vs H Q
def wj:Sp:=λvs H Q _=>vk vs H Q
theorem vz:aE Vc Vc (aq gX):=aS
theorem vL(D:bo K mg "_law_kinds" gX Vc):Cal P w K mg base 1 "_law_kinds" Vc wj:=by
 refine D.cal vz λf cdv A outer d H vs Q E c h=> ?_;obtain⟨word,rfl,b,k⟩:=h;refine#[_,(ab (aZ (wpt a7 (pv 0) ae)
     (aj (aC (cw (aa dU af))))
     aO)
   (ab (aZ (wpt a7 (pv 0) ae)
     (aj (aC (cw (aa dU (aa dU (aa dU (aa dU af)))))))
     aO)
   (aj (aC (cw (aa dU (aa dU (aa dU af)))))))),6]
 rcases b with rfl|rfl|rfl
 .exact#[727,lF #[by show 1<=sizeLine;decide,λp a=>k p _ (Same.new a) ah]]
 .exact#[727,dq #[727,lF #[by show 4<=sizeLine;decide,λp a=>k p _ (Same.new a) ah]]]
 .exact#[727,dq #[727,dq #[by show 3<=sizeLine;decide,λp a=>k p _ (Same.new a) ah]]]
theorem vA:aE Ux Ux (aq gZ):=aS
theorem vN(D:bo K mg "_law_asked" gZ Ux)(U:Cal P w K mg base j Wb Uv (qG Z))(O:Cal P w K mg base j VT Uv (lQ Z))(ar:Cal P w K mg base j "over_all" Uv (wg Z)):Cal P w K mg base (j+1) "_law_asked" Ux (DS Z):=by
 refine D.cal vA λf cdv A outer a4 H vs Q E x h=> ?_;obtain⟨h,word,n,R,r,rfl,wd,v,M,u,G,y,B⟩:=h;refine#[_,(ab (aZ (wpt a7 (pv 0) ae)
     (aj (aC (wcal U x (aa (pv 1) af))))
     aO)
   (ab (aZ (wpt a7 (pv 0) ae)
     (aj (aC (wcal O x (aa (pv 1) af))))
     aO)
   (aj (aC (wcal ar x (aa (pv 1) af)))))),6]
 have J:aX=("two of four":Str):=#[9]
 have e2:ba=("two of five":Str):=#[9]
 have e3:aU=("three of five":Str):=#[9]
 have L:d6=("seven":Str):=#[9]
 have N:bb=("other seven":Str):=#[9]
 rcases wd with rfl|rfl|rfl
 .exact#[727,lF #[7,h,n,R,r,2,v,M,u,λc l xs t H' b _ a _ hl i _ g=>y c l xs t H' b a hl i (g.asW (.inl rfl)) (Ax.mpr (g.bi2 M u)),λs w t H' b _ a o p k q=>B _ s w t H' b a (by rw[J];simp[jM]) o p k λz=>q (Ax.mp z)]]
 .refine#[727,dq #[727,lF #[7,h,n,R,r,2,v,M,u,G,λc l xs t H' b _ a _ hl i _ g=>y c l xs t H' b a hl i (g.asW (.inr rfl)) (Aw.mpr (g.tern M u)),λkd s w t H' b _ a e o p k q=>B kd s w t H' b a ?_ o p k λz=>q (Aw.mp z)]]];obtain⟨m,d,e⟩:=e;simp only[kr,Pk,P7,RH,Prod.mk.injEq]at e;rcases e with h|h|h|h<;>rw[h.1]<;>first|(rw[e2];simp[jM])|(rw[e3];simp[jM])|(rw[L];simp[jM])|(rw[N];simp[jM])
 .refine#[727,dq #[727,dq #[7,h,n,R,r,2,v,M,u,λ_=>G,λc l xs t H' b _ a _ hl i _ g b2 t3=>y c l xs t H' b a hl i g.asW (HF.mpr #[b2,t3]),λkd s w t H' b _ a e o p k q=>B kd s w t H' b a ?_ o p k λz=>q (HF.mp z)]]];simp only[uE,Pk,P7,RH]at e;rcases e with h|h|h<;>rw[h]<;>first|(rw[J];simp[jM])|(rw[L];simp[jM])|(rw[N];simp[jM])
theorem fY:aE ["_law_word","_law_house_here","_law_found","_law_out","_law_drawn","_law_kind_here"] Ux (aq gS):=aS
theorem vG{Z:Hs}(T:Tb K mg)(U:df Z)(i:∀C,Z.dom C->HC K C_House C)(D:bo K mg "_law_tells" gS Ux)(ar:Cal P w K mg base 15 "_law_asked" Ux (DS Z))(aD:Cal P w K mg base 7 "ranks" Uv (tM Z))(ag:Cal P w K mg base 1 VX U3 xQ)(az:Cal P w K mg base 3 "_law_kind" U9 (DM K))(ax:Cal P w K mg base 1 "_law_minor" UA (Hr K))(ay:Cal P w K mg base 1 "_law_kinds" Vc wj)(ai:Cal P w K mg base 3 VO Uz (Hn K)):
  Cal P w K mg base 16 "_law_tells" Ux (DG Z):=by
 refine D.cal fY λf cdv A outer c5 H vs Q E g h=> ?_;obtain⟨h,word,n,r,rfl,wd,hX,M,cl,k⟩:=h;refine#[_,(ab (wset 2 fY.nd (wcal ar g (aa (pv 0) (aa (pv 1) af))))
   (ab (aZ (PW.pt (iA (kf (di (eO (fS (K:=K) ⋯) ⋯ T.isinstance_ Rv (aa (pv 2) (aa (nE (v:= .ty VA) ⋯ T.tuple_ RG rfl) af))))) (ie (wpt rF (wlen K T.len_ (pv 2)) ae))))
     (aj (aC fi))
     aO)
   (ab (aZ (PW.pt (d9 (wpt a7 (ky K (pv 2) ae) dU) (fP (wpt a7 (wlen K T.len_ (pv 2)) ae))))
     (ab (aZ (di (wcal ai g (aa (ky K (pv 2) ae) (aa (wfld K (pv 1)) (aa (wcal aD g (aa (pv 1) af)) (aa (pv 0) af))))))
       (aj (aC fD))
       aO)
     (aj (aC fi)))
     aO)
   (ab (aZ (PW.pt (iA (wpt iB (ky K (pv 2) ae) dU) (iA (wpt iB (wlen K T.len_ (pv 2)) ae) (ie (kf (di (eO (fS (K:=K) ⋯) ⋯ T.isinstance_ Rv (aa (ky K (pv 2) ae) (aa (nE (v:= .ty "str") ⋯ T.str_ PyProof.Rows.boot_str rfl) af)))))))))
     (aj (aC fi))
     aO)
   (ab (wset 3 fY.nd (ky K (pv 2) ae))
   (ab (wset 4 fY.nd (ky K (pv 2) ae))
   (ab (aZ (PW.pt (iA (kf (di (wcal ag g (aa (pv 3) af)))) (iA (kf (di (wcal ag g (aa (pv 4) af)))) (iA (wpt rF (pv 3) ae) (ie (wpt rF (pv 4) ae))))))
     (aj (aC fi))
     aO)
   (ab (aZ (PW.pt (iA (wpt iB (aB gv (pv 3) (pv 4)) ae) (ie (wpt Oo (aB pW (pv 3) (pv 4)) (aB gu ae (wfld K (pv 1)))))))
     (aj (aC fi))
     aO)
   (ab (wset 5 fY.nd (wcal az g (aa (wcal ax g (aa (wfld K (pv 1)) (aa (wcal aD g (aa (pv 1) af)) (aa (pv 3) (aa (pv 4) af))))) af)))
   (ab (aZ (PW.pt (iA (wpt iB (ky K (pv 2) ae) (pv 5)) (ie (pR (kj (K:=K) ⋯) (pv 5) (wcal ay g (aa (pv 0) af)) ⋯))))
     (aj (aC fi))
     aO)
   (aj (aC fD)))))))))))),6]
 have n8:=M.n8;refine#[77,h,word,n,_,r,2,wd,hX,M,2,cl,λc l xs t H1 q a hl hR ho says=> ?_,λN s d t H1 q a cp hs hw cn says=> ?_]
 .have m:=U.same q hX;obtain⟨C,dm,a5⟩:=U.shown m;obtain⟨G,fs,L,fr,fe,J⟩:=a5.ex;obtain⟨B,O,cT,cM⟩:=i C dm;refine#[7111,true,2, .tup a,T.kTT,true,2,dq ?_];refine#[7,t,7, .inr (SqT.of a),87,dq ?_];refine#[7,t,3,SqT.of a,227,lF ?_];refine#[7,t,7, .inr (SqT.of a),26];refine#[7,lF ?_];refine#[7,t,3,SqT.of a,27,h,C,G,fs,7,L,B,O,J,7,h,n,r,2,m,n8,λp H2 x hp a4=> ?_];exact#[7,l,p,xs,n,_,word,r,c,2,wd,x.at hl,(hR.same fc).same x,SqL.of a4,M,2,ho,λH3 bk=>#[7,lF (k true H3 (q.trans (x.trans bk)) #[λ_=>says,λ_=>rfl])]]
 .have m:=U.same q hX;obtain⟨C,dm,a5⟩:=U.shown m;obtain⟨G,fs,L,fr,fe,J⟩:=a5.ex;obtain⟨B,O,cT,cM⟩:=i C dm;have p8:=rD n8;have ll:aw (2^n-1) s<2^n:=j5;have wl:d<2^n:=hw.lt ll;have ol:aw (aw (2^n-1) s) d<2^n:=Px (iQ _ _) ll;have dj:aw (aw (2^n-1) s) d&&&d=0:=PC λj=>by rw[QE,aI,P4];cases d.testBit j<;>simp
  have ke:=Ek hs hw;have c3:aw (aw (2^n-1) s) d|||d<2^n:=QB ol wl;generalize aw (aw (2^n-1) s) d=o at*;refine#[7111,true,2, .tup a,T.kTT,true,2,dq ?_];refine#[7,t,7, .inr (SqT.of a),87,dq ?_];refine#[7,t,3,SqT.of a,227,cC (λi=> ?_) λ_=> ?_]
  .exact absurd (PH i) (by intro z;exact absurd (V.str.inj z) #[9])
  refine#[7,t,3,SqT.of a,227,qf rfl ?_];refine#[7,t,7, .inr (SqT.of a),27,qf rfl ?_];refine#[7,t,3,SqT.of a,2111,true,2, .str _,T.kSS,7,dq ?_];refine#[7,t,3,SqT.of a,26];refine#[7,t,3,SqT.of a,26];refine#[777,dq ?_];refine#[777,dq ?_];refine#[7876];rw[Pb #[5]];refine#[7876];rw[Pb #[5]];refine#[778276];rw[iJ,dj];refine qf rfl ?_;refine#[7787,h,C,G,fs,7,L,B,O,J,8,#[994],876];refine cC (λi=> ?_) λ_=> ?_
  .have:=PH i;rw[o9,gF]at this;lia
  refine#[7,h,C,G,fs,7,L,B,O,J,7,h,n,r,2,m,n8,λb H2 x hb a4=> ?_];refine#[77,b,n,o,d,r,2,SqL.of a4,M,ol,wl,λp H3 bk hp bB=> ?_];rw[ke]at bB;have kd:Bf (sz s) (cJ r s d)= .str N:=(LC (HP (M.minor hs wl))).symm.trans cn;refine#[p,sz s,cJ r s d,2,SqL.of bB,aW _,λH4 cO=> ?_];rw[kd];have sm:=x.trans (bk.trans cO);have cE:=sm.at a;refine#[7,t,3,SqT.of cE,2727,qf rfl ?_];refine#[77,word,2,wd,λu H5 cS hu=> ?_];refine#[u,7, .inl (SqL.of hu),2,P9.mpr λy hy=>by obtain⟨_,_,rfl⟩:=Pl.mp hy;rfl,76];have e:inV (V.str N) ((jM word).map V.str)=true:=RV.mpr #[.str N,Pl.mpr #[N,cp,2],by simp[eqV]];rw[e];refine dq ?_;exact k false H5 (q.trans (sm.trans cS)) #[λz=>(nomatch z),λz=>absurd z says]
theorem Ez(h:0<=x):∃d:Nat,Builtin.bitAnd x z=(d:Int)/\(d:Int)<=x:=by
 unfold Builtin.bitAnd;rw[Pe h];by_cases a:0<=z
 .rw[Pe a];exact#[7,by have:x.toNat&&&z.toNat<=x.toNat:=Tu;lia]
 .rw[Pc a];have:x.toNat&&& (Builtin.bitNot z).toNat<=x.toNat:=Tu;exact#[x.toNat- (x.toNat&&& (Builtin.bitNot z).toNat),by show x-_=_;lia,9]
theorem AD(b:m=2\/m=3)(M:Mat n r):Rep m n (ir n r)↔Rep m n r:=by
 have a:∀ {q:Nat->Nat},Mat n q->Rep m n q->Rep m n (ir n q):=λ{q} N h=>by
  rcases b with rfl|rfl
  .exact Kb N h
  .exact EU N h
 exact#[λh=>(a M.dual h).congr λs c=>(Gm M c).symm,a M]
theorem Ff(M:Mat n r):jP word n (ir n r)↔jP word n r:=and_congr (imp_congr Iff.rfl (AD (.inl rfl) M)) (imp_congr Iff.rfl (AD (.inr rfl) M))
theorem tV(M:Mat n r)(c:n<=6)(a:e=0\/e=1)(b:p<=n):jP word (n+1) (lE e p r)↔jP word n r:=and_congr (imp_congr Iff.rfl ((uo M c a b).2.2 2 bR)) (imp_congr Iff.rfl ((uo M c a b).2.2 3 aN))
def DC:List Nat:=[4,5,6,5,4,3,5,2,1,0]
theorem MF:∀j:Nat,j<10->([4,5,6,5,4,3,5,2,1,0]:List Int)[j]?=some ((DC.getD j 0:Nat):Int):=∅
theorem ME:∀j:Nat,j<10->DC.getD j 0<=6:=∅
theorem Nu(h:(hs4 cE cL cN cT).dom C):C∈[cE,cL,cN,cT]:=by rcases h with (rfl|rfl)|rfl|rfl<;>simp
theorem Lw(h:(hs5 cE cL cN cT cM).dom C):C∈[cE,cL,cN,cT,cM]:=by
 rcases h with h|rfl
 .exact Pz.mpr (.inl (Nu h):C∈[cE,cL,cN,cT]\/C∈[cM])
 .simp
theorem apart{l m:List Addr}(h:(l++m).Nodup)(a:C∈l)(b:C∈m):False:=(RB.mp h).2.2 C a C b rfl
theorem Oe{P:Program}{w:World}{base:Heap}(d:[cE,cL,cN,cT].Nodup)(e:bQ P w K mg base 4 cE Vm nS (xW cE))(l:bQ P w K mg base 4 cL Vm nS (xV cL))(n:bQ P w K mg base 4 cN Vm nS (xU cN))(t:bQ P w K mg base 4 cT Vm nS (tN cT)):
  ∀C,(hs4 cE cL cN cT).dom C->bQ P w K mg base 4 C Vm nS (dX (hs4 cE cL cN cT) C):=by
 refine uw (oO (C5 cE) (C4 cL)) (oO (yO cN) (C0 cT)) (λC a b=>apart (l:=[cE,cL]) (m:=[cN,cT]) d (C:=C) (by rcases a with rfl|rfl<;>simp) (by rcases b with rfl|rfl<;>simp)) (uw (C5 cE) (C4 cL) (λC a b=>apart (l:=[cE]) (m:=[cL,cN,cT]) d (C:=C) (by cases a;simp) (by cases b;simp)) (λC h=> ?_) λC h=> ?_) (uw (yO cN) (C0 cT) (λC a b=>apart (l:=[cE,cL,cN]) (m:=[cT]) d (C:=C) (by cases a;simp) (by cases b;simp)) (λC h=> ?_) λC h=> ?_)
 .cases h;exact bQ.imp e OV
 .cases h;exact bQ.imp l OU
 .cases h;exact bQ.imp n OT
 .cases h;exact bQ.imp t OS
theorem Od{P:Program}{w:World}{base:Heap}(d:[cE,cL,cN,cT,cM].Nodup)(m4:∀C,(hs4 cE cL cN cT).dom C->bQ P w K mg base 4 C Vm nS (dX (hs4 cE cL cN cT) C))(m:bQ P w K mg base 5 cM Vm nS (dX (qi (hs4 cE cL cN cT) cM) cM)):
  ∀C,(hs5 cE cL cN cT cM).dom C->bQ P w K mg base 5 C Vm nS (dX (hs5 cE cL cN cT cM) C):=
 uw (oP _ _ _ _) (yP (oP _ _ _ _) _) (λC a b=>apart (l:=[cE,cL,cN,cT]) (m:=[cM]) d (Nu a) (by cases b;simp)) (λC h=>bQ.mono (m4 C h) ∅) λC h=>by cases h;exact m
theorem Oc{P:Program}{w:World}{base:Heap}(d:[cE,cL,cN,cT,cM,cO,cS].Nodup)(m5:∀C,(hs5 cE cL cN cT cM).dom C->bQ P w K mg base 5 C Vm nS (dX (hs5 cE cL cN cT cM) C))(o:bQ P w K mg base 6 cO Vm nS (dX (hsO (hs5 cE cL cN cT cM) cO) cO))(s:bQ P w K mg base 6 cS Vm nS (dX (LJ (hs5 cE cL cN cT cM) cS) cS)):
  ∀C,(hs6 cE cL cN cT cM cO cS).dom C->bQ P w K mg base 6 C Vm nS (dX (hs6 cE cL cN cT cM cO cS) C):=by
 refine uw (C3 (qU _ _ _ _ _) _) (El (qU _ _ _ _ _) _) (λC a b=>apart (l:=[cE,cL,cN,cT,cM,cO]) (m:=[cS]) d (C:=C) ?_ (by cases b;simp)) (λC h=> ?_) λC h=>by cases h;exact s
 .rcases a with h|rfl
  .exact Pz.mpr (.inl (Lw h):C∈[cE,cL,cN,cT,cM]\/C∈[cO])
  .simp
 .rcases h with h|rfl
  .exact bQ.imp (bQ.mono (m5 C h) ∅) (we λe=>apart (l:=[cE,cL,cN,cT,cM]) (m:=[cO,cS]) d (Lw h) (by rw[<-e];simp))
  .exact o
theorem ne5(d:[cE,cL,cN,cT,cM,cO,cS].Nodup):∀C,(hs5 cE cL cN cT cM).dom C->cO≠C:=λC h e=>apart (l:=[cE,cL,cN,cT,cM]) (m:=[cO,cS]) d (Lw h) (by rw[<-e];simp)
theorem OD{p:Addr->Prop}(h:∀C∈[cE,cL,cN,cT,cM,cO,cS],p C):(∀C,(hs4 cE cL cN cT).dom C->p C)/\(∀C,(hs5 cE cL cN cT cM).dom C->p C)/\∀C,(hs6 cE cL cN cT cM cO cS).dom C->p C:=by
 have b:∀C,(hs4 cE cL cN cT).dom C->p C:=λC d=>h C (Pz.mpr (.inl (Nu d):C∈[cE,cL,cN,cT]\/C∈[cM,cO,cS]));have a:∀C,(hs5 cE cL cN cT cM).dom C->p C:=λC d=>h C (Pz.mpr (.inl (Lw d):C∈[cE,cL,cN,cT,cM]\/C∈[cO,cS]));refine#[b,a,λC d=> ?_];rcases d with (d|rfl)|rfl
 .exact a C d
 .exact h _ #[5]
 .exact h _ #[5]
theorem OF{p:Addr->Prop}(i:p a)(j:p b)(k:p c)(l:p d)(m:p e)(n:p f)(o:p g):∀C∈[a,b,c,d,e,f,g],p C:=by simp only[List.forall_mem_cons];exact#[i,j,k,l,m,n,o,λ_ h=>nomatch h]
theorem gM:aE H0 ["_law_script"] (aq eF):=aS
theorem Oa:PSp (yZ CX0 P w K mg base H0 "law" (aq eF) f cdv A outer s H E).nox ((bx eF).getD 1 (.Pass #[0,0,0,0]))
  (Hc (tOp (Ii K) (N3 (Md [4,5,6,5,4,3,5,2,1,0])) (tOp (rI (λ_ j=>0<j) λi j=> .int (i % j)) (tOp (Ii K) (MH 1) (tC (.int 0))) (tC (.int 10)))) (bC 2)):=by
 have a:ro (Dd (Ds (HR ((bx eF).getD 1 (.Pass #[0,0,0,0]))))) [4,5,6,5,4,3,5,2,1,0]:=qg #[9];obtain⟨p1,p2,d,g,h,k,l,m,n,b,c,e⟩:∃(p1 p2 d g h k l m n:Pos)(b c:Nat),(bx eF).getD 1 (.Pass ⟨0,0,0,0⟩)= .Assign [.Name Vx p1] (.Subscript (.List (Dd (Ds (HR ((bx eF).getD 1 (.Pass ⟨0,0,0,0⟩))))) p2) (.BinOp (.Subscript (.Name VY d) (.Constant (.int 0) b g) h) .Mod (.Constant (.int 10) c k) l) m) n:=#[11111111117];generalize Dd (Ds (HR ((bx eF).getD 1 (.Pass #[0,0,0,0]))))=o at a e;rw[e];refine#[?_];exact Il (i:=2) gM.nd ⋯ (by first|exact Tq rfl|exact Or.inr rfl) (Ea (uG (K:=K) ⋯) (cw (Fy a)) (aB bI (Ea (uG (K:=K) ⋯) (pv 1) ae (λ_ _=>rfl)) ae) (λ_ _=>rfl))
theorem O3:bx eF=(bx eF).getD 0 (.Pass #[0,0,0,0])::(bx eF).getD 1 (.Pass #[0,0,0,0])::(bx eF).drop 2:=⋯
theorem O2:∃a,a=(bx eF).getD 1 (.Pass #[0,0,0,0])/\bx eF=(bx eF).getD 0 (.Pass #[0,0,0,0])::a::(bx eF).drop 2:=#[7,O3]
theorem Nm(F:Fun K "law" "law" eF f fd)(T:Tb K mg)(ai:Cal P w K mg base 5 "_law_house" UI (DQ K (hs4 cE cL cN cT)))(ax:kR P w K mg base 5 "Minor" cM UJ (tR (hs4 cE cL cN cT) cM))(ag:Cal P w K mg base 16 "_law_tells" Ux (DG (hs6 cE cL cN cT cM cO cS)))(az:kR P w K mg base 2 "Even" cE UY (xX cE))(ar:kR P w K mg base 3 "Side" cS UT (Am (hs5 cE cL cN cT cM) cS))(ay:kR P w K mg base 6 "Other" cO UG (tQ (hs5 cE cL cN cT cM) cO)):lj P w K mg base CX0 17 f fd ["_law_script"] (DL K):=by
 refine F.ok gM λcdv A outer kl H vs Q E hr h=> ?_;obtain⟨a,ns,rfl,ha,hn,k⟩:=h;have hv:=Oa (P:=P) (w:=w) (K:=K) (mg:=mg) (base:=base) (f:=f) (cdv:=cdv) (A:=A) (outer:=outer) (s:=kl) (H:=H) (E:=E);obtain⟨ly,h1,hO⟩:=O2;rw[<-h1]at hv;rw[hO];refine#[_,(ab (wset 1 gM.nd (aB um (pU (o8 (K:=K) ⋯) (pv 0) sG (sF ae)) (cw (aa ae af))))
   (ab (hv.h)
   (ab (wset 3 gM.nd (aB bI (aB iq (cG K (pv 1) ae) ae) ae))
   (ab (wset 4 gM.nd (wcal ai hr (aa (pv 1) (aa (pv 2) (aa (pv 3) af)))))
   (ab (wset 5 gM.nd (aB bI (aB eg (cG K (pv 1) (aB gs (jW iE ae) (aB iq (wlen K T.len_ (pv 1)) ae))) ae) ae))
   (ab (aZ (PW.pt (d9 (wpt a7 (aB bI (pv 5) ae) ae) (fP (wpt pX (pv 2) ae))))
     (ab (wset 6 gM.nd (aB gv (aB bI (aB iq (pv 5) ae) (aB gu ae (pv 2))) (aB iq (pv 5) ae)))
     (ab (wset 7 gM.nd (aB gv (aB gv (aB bI (aB iq (pv 5) ae) (aB gu ae (pv 2))) (aB iq (pv 5) ae)) (jW MB (pv 6))))
     (aj (wset 4 gM.nd (iF ax hr ∅ ⋯ (aa (pv 4) (aa (pv 6) (aa (pv 7) af))))))))
     aO)
   (ab (wset 8 gM.nd (cw (aa (wcal ag hr (aa ae (aa (pv 4) af))) (aa (wcal ag hr (aa ae (aa (pv 4) af))) (aa (wcal ag hr (aa ae (aa (pv 4) af))) af)))))
   (ab (aZ (PW.pt (iA (pR (CC (K:=K) ⋯) fi (pv 8) ⋯) (ie (wpt iB (cG K (pv 8) ae) (Cy (cG K (pv 8) ae) (Cw (cG K (pv 8) ae)))))))
     (aj (aC fD))
     aO)
   (ab (aZ (PW.pt (d9 (wpt a7 (pv 3) ae) (fP (wpt (Li (K:=K) ⋯ hr.units) (pv 8) (cw (aa fD (aa fD (aa fD af))))))))
     (aj (aC fD))
     aO)
   (ab (aZ (PW.pt (iA (PW.pt (d9 (wpt a7 (pv 3) ae) (fP (kf (di (cG K (pv 8) ae)))))) (ie (PW.pt (d9 (wpt a7 (pv 3) ae) (fP (kf (di (cG K (pv 8) ae)))))))))
     (aj (aC fD))
     aO)
   (ab (wset 9 gM.nd (iF az hr ∅ ⋯ (aa ae (aa (aB bI (pv 5) ae) af))))
   (ab (wset 10 gM.nd (cG K (cw (aa (iF ar hr ∅ ⋯ (aa (pv 4) (aa (pv 9) af))) (aa (iF ar hr ∅ ⋯ (aa (pv 9) (aa (pv 4) af))) af))) (aB bI (aB iq (pv 5) ae) ae)))
   (ab (wset 11 gM.nd (aB bI (aB iq (pv 5) ae) ae))
   (ab (wset 12 gM.nd (cG K (cw (aa ae (aa ae (aa ae af)))) (pv 11)))
   (aj (aC (Cy (wpe a7 (wcal ag hr (aa (pv 12) (aa (iF ay hr ∅ ⋯ (aa (pv 4) af)) af))) (cG K (pv 8) (pv 11))) (Cw (wpe a7 (wcal ag hr (aa (pv 12) (aa (pv 10) af))) (cG K (pv 8) (pv 11))))))))))))))))))))),6]
 refine gm λm i=> ?_;refine#[77,a,7,ha,λp1 lg=> ?_];rw[NP ∅];refine#[by show 1<=sizeLine;decide,λp2 h6=> ?_];have h1:upd H p1 (.lst ((ns.take (63:Int).toNat).map V.int)) p1=some (.lst ((ns.take (63:Int).toNat).map V.int)):=ah;refine#[p1,p2,8,(by rw[aA (au h1 h6)];exact h1),ah,6,λB ll=> ?_]
 .rw[My,P6];show min _ _+1<=sizeLine;exact Pr (show min (63:Int).toNat ns.length+1<=64 by lia) ∅
 generalize upd (upd H p1 (.lst ((ns.take (63:Int).toNat).map V.int))) p2 (.lst [V.int 0])=H1 at*;have ec:(ns.take (63:Int).toNat).map V.int++[V.int 0]=(ns.take (63:Int).toNat++[0]).map V.int:=by rw[Qs];rfl
 rw[ec];have hY:(ns.take (63:Int).toNat++[0]).length<=64:=by rw[PK,P6];show min _ _+1<=64;lia
 have fB:0<(ns.take (63:Int).toNat++[0]).length:=by rw[PK];show 0<_+1;lia
 generalize ns.take (63:Int).toNat++[0]=cs at*;have fU:upd H1 B (.lst (cs.map V.int)) B=some (.lst (cs.map V.int)):=ah;generalize upd H1 B (.lst (cs.map V.int))=H2 at*;have e4:atI (cs.map V.int) 0=some (.int (cs.getD 0 0)):=cj (j:=0) fB;generalize cs.getD 0 0=c at*;refine i [xS a,xS B,none,none,none,none,none,none,none,none,none,none,none] _ ?_;clear i m;refine gm λm i=> ?_;refine#[by rw[My];decide,λpd h7=> ?_];have j8:Same H2 (upd H2 pd (.lst (List.map V.int [4,5,6,5,4,3,5,2,1,0]))):=Same.new h7;have fV:upd H2 pd (.lst (List.map V.int [4,5,6,5,4,3,5,2,1,0])) pd=some (.lst (List.map V.int [4,5,6,5,4,3,5,2,1,0])):=ah;have cy:=j8.at fU;obtain⟨j,hj⟩:=Rb (show 0<=c % 10 from QS _ ∅);have fI:j<10:=by have:=QI c (show(0:Int)<10 by decide);lia
 have e5:atI (List.map V.int [4,5,6,5,4,3,5,2,1,0]) (c % 10)=some (.int ((DC.getD j 0:Nat):Int)):=by rw[hj];exact mE (MF j fI)
 have n6:=ME j fI;generalize DC.getD j 0=n at*;refine#[7,B,3,SqL.of cy,e4,8,(by show(0:Int)<10;decide),pd,3,SqL.of fV,e5,6];generalize upd H2 pd (.lst (List.map V.int [4,5,6,5,4,3,5,2,1,0]))=H3 at*;refine i [xS a,xS B,yS n,none,none,none,none,none,none,none,none,none,none] _ ?_;clear i m fV e5;refine gm λm i=> ?_;refine#[7,B,3,SqL.of cy,e4,8,#[44],846];have w0:=QS (c/10) (show(7:Int)≠0 by decide);have w7:=QI (c/10) (show(0:Int)<7 by decide);generalize c/10 % 7=v at*;refine i [xS a,xS B,yS n,yT v,none,none,none,none,none,none,none,none,none] _ ?_;clear i m;refine gm λm i=> ?_;refine#[777,B,cs,n,v,2,SqL.of cy,fB,hY,n6,w0,w7,λh r H4 j2 hX M rep2 rep3=> ?_];have ek:=j2.at cy;refine i [xS a,xS B,yS n,yT v,xS h,none,none,none,none,none,none,none,none] _ ?_;clear i m;refine gm λm i=> ?_;have e8:atI (cs.map V.int) (-1- ((cs.map V.int).length:Nat) /2)=some (.int (cs.getD (-1- (cs.length:Int) /2+cs.length).toNat 0)):=by rw[My];exact Dt () ()
 refine#[7,(1),27,B,7, .inl (SqL.of ek),8,#[44],8,B,3,SqL.of ek,e8,8, .inr #[44],846];have t0:=QS (cs.getD (-1- (cs.length:Int) /2+cs.length).toNat 0*48271) (show(65537:Int)≠0 by decide);generalize cs.getD (-1- (cs.length:Int) /2+cs.length).toNat 0*48271 % 65537=turn at*;refine i [xS a,xS B,yS n,yT v,xS h,yT turn,none,none,none,none,none,none,none] _ ?_;clear i m e8;refine kB (λd7 H'=>∃(h':Addr)(n':Nat)(r':Nat->Nat)(v6 v7:Option V),(hs5 cE cL cN cT cM).ho H' h' n' r'/\Mat n' r'/\n'<=6/\(v=0\/v=1->Rep 2 n' r')/\(v=0\/v=2->Rep 3 n' r')/\d7=[xS a,xS B,yS n,yT v,xS h',yT turn,v6,v7,none,none,none,none,none]) ?_ λep=> ?_
 rotate_left
 .refine#[78427,cC (λ_=> ?_) λ_=>dq (ep _ _ #[h,n,r,none,none, .inl hX,M,n6,rep2,rep3,2])];refine#[787,cC (λ_=> ?_) λ_=>ep _ _ #[h,n,r,none,none, .inl hX,M,n6,rep2,rep3,2]];have p2:(0:Int)<((2^n:Nat):Int):=by have:=two_pow_pos n;lia
  have hc:∀x y:Int,∃d:Nat,Builtin.bitAnd (x % ((2^n:Nat):Int)) y=(d:Int)/\d<2^n:=λx y=>by obtain⟨d,e,l⟩:=Ez (z:=y) (QS x (Int.ne_of_gt p2));have:=QI x p2;exact#[d,e,9]
  obtain⟨o,eo,ho⟩:=hc (turn/2) (turn/128);obtain⟨d1,ed,k8⟩:=hc (turn/8) (turn/512);obtain⟨dw,hR,lr⟩:=Ez (x:=(d1:Int)) (z:=Builtin.bitNot (o:Int)) ();have hw:dw<2^n:=()
  have lx:=rD M.n8;refine#[78,#[44],78,#[994],8,(by rw[dO];exact p2),78,#[44],86];dsimp only[bC];rw[dO,eo];refine#[78,#[44],78,#[994],8,(by rw[dO];exact p2),78,#[44],87,(o:Int),286];dsimp only[bC];rw[dO,ed,hR];refine#[777,λpo cm bN c3 i4=> ?_];have hk:aw (2^n-1) (o|||dw)<2^n:=j5;have zk:sz (aw (2^n-1) (o|||dw))<=n:=by have:=sv (a:=aw (2^n-1) (o|||dw)) (b:=2^n-1) λt _ ht=>cR _ _ t ht;rwa[o3 M.n8]at this
  refine#[po,cm,h,n,o,dw,r,2,ah,(oP cE cL cN cT).same (fN bN c3) hX,M.n8,hw,λH6 et el=>#[26]];have b8:Same H4 H6:=λb x e=>et b x (by rw[aA (au e bN),aA (au e c3)];exact e) (au e bN);exact ep _ _ #[po,_,cJ r (aw (2^n-1) (o|||dw)) dw,11, .inr #[cm,h,n,_,dw,r,el,(oP cE cL cN cT).same b8 hX,2,M.n8,hk,hw,λs _=>M.min_int hk hw s],M.minor hk hw,9,λz=>wo bR M.n8 hk hw (rep2 z),λz=>wo aN M.n8 hk hw (rep3 z),2]
 rintro d7 H5 ⟨N,u,J,v6,v7,ej,M5,b7,js,j0,rfl⟩;clear hX M rep2 rep3 ek cy fU;have eb:=M5.six b7;have z5:=qU cE cL cN cT cM;have z6:=JC cE cL cN cT cM cO cS;have dm:(hs6 cE cL cN cT cM cO cS).ho H5 N u J:= .inl (.inl ej);refine gm λm i=> ?_;refine#[7,N,(2),u,J,2, .inl rfl,dm,M5,eb,λU H6 b8 i2=>#[7,N,(3),u,J,2, .inr (.inl rfl),z6.same b8 dm,M5,eb,λb3 H7 eA i3=>#[7,N,0,u,J,2, .inr (.inr rfl),z6.same (b8.trans eA) dm,M5,eb,λb0 H8 hq i0=>#[by show 3<=sizeLine;decide,λG gb=> ?_]]]];have fy:=z5.same (b8.trans (eA.trans (hq.trans (Same.new (o:= .lst [.bl U, .bl b3, .bl b0]) gb)))) ej;have bM:upd H8 G (.lst [.bl U, .bl b3, .bl b0]) G=some (.lst [.bl U, .bl b3, .bl b0]):=ah;generalize upd H8 G (.lst [.bl U, .bl b3, .bl b0])=H9 at*;clear ej dm b8 eA hq gb;refine i [xS a,xS B,yS n,yT v,xS N,yT turn,v6,v7,xS G,none,none,none,none] _ ?_;clear i m;have hN:b0=(U&&b3):=by rw[Q8,PX,i0,i2,i3,HF,Ax,Aw]
 rw[Ax]at i2;rw[Aw]at i3;subst hN;have a0:atI [V.bl U,V.bl b3,V.bl (U&&b3)] 0=some (.bl U):=rfl;have a1:atI [V.bl U,V.bl b3,V.bl (U&&b3)] 1=some (.bl b3):=rfl;have a2:atI [V.bl U,V.bl b3,V.bl (U&&b3)] 2=some (.bl (U&&b3)):=rfl;refine gm λm i=> ?_;refine#[7,G,7, .inl (SqL.of bM),227,dq ?_];refine#[7,G,3,SqL.of bM,a2,7,G,3,SqL.of bM,a0,76]
 suffices bX:m [some (.ref a),some (.ref B),some (.int (n:Int)),some (.int v),some (.ref N),some (.int turn),v6,v7,some (.ref G),none,none,none,none] H9 by
  refine cC (λe=> ?_) λe=> ?_
  .rw[e];exact#[7,G,3,SqL.of bM,a1,27,qf rfl bX]
  .rw[Rc.mpr e];exact#[27,qf rfl bX]
 refine i _ _ ?_;clear i m a2;have w1:v=0\/v=1->U=true:=λh=>i2.mpr (js h);have w2:v=0\/v=2->b3=true:=λh=>i3.mpr (j0 h);refine E6 (λd7 H'=>Same H9 H'/\d7=[xS a,xS B,yS n,yT v,xS N,yT turn,v6,v7,xS G,none,none,none,none]) ?_ λm i=> ?_
 rotate_left
 .refine#[727,cC (λe=> ?_) λ_=>dq (i _ _ #[Same.refl _,2])];have e0:v=0:=by cases PH e;rfl
  have e2:=w1 (.inl e0);have e3:=w2 (.inl e0);have hu:H9 G=some (.lst Kq):=by rw[bM,e2,e3];rfl
  refine#[7,by show 3<=sizeLine;decide,λpt f5=>#[G,pt,22,SqL.of ((Same.new f5).at hu),SqL.of ah,7,dq (i _ _ #[Same.new f5,2])]]
 rintro _ b9 ⟨ey,rfl⟩;refine gm λm i=> ?_;have dn:=ey.at bM
 suffices bX:m [some (.ref a),some (.ref B),some (.int (n:Int)),some (.int v),some (.ref N),some (.int turn),v6,v7,some (.ref G),none,none,none,none] b9 by
  refine#[727,cC (λe=> ?_) λ_=> ?_]
  .have e1:v=1:=by cases PH e;rfl
   refine#[7,G,3,SqL.of dn,a0,76];rw[w1 (.inr e1)];refine dq #[727,cC (λe'=> ?_) λ_=>dq bX];have e2:v=2:=by cases PH e';rfl
   lia
  .refine dq #[727,cC (λe'=> ?_) λ_=>dq bX];have e2:v=2:=by cases PH e';rfl
   refine#[7,G,3,SqL.of dn,a1,76];rw[w2 (.inr e2)];exact dq bX
 refine i _ _ ?_;clear i m;have fs:=z5.same ey fy;clear fy bM ey;refine gm λm i=> ?_;obtain⟨e,he⟩:=Rb (QS turn (show(2:Int)≠0 by decide));have b5:e=0\/e=1:=by have:=QI turn (show(0:Int)<2 by decide);lia
 refine#[784,λL a5 es hg i1=>#[L,a5,(1),turn % 2,2,ah,26]];have eB:Same b9 (upd (upd (upd b9 a5 (.own L)) L (.ins cE a5 [])) L (.ins cE a5 (evF 1 (turn % 2)))):=λb x h=>by rw[aA (au h es),aA (au h es),aA (au h hg)];exact h
 have hE:(hs5 cE cL cN cT cM).ho (upd (upd (upd b9 a5 (.own L)) L (.ins cE a5 [])) L (.ins cE a5 (evF 1 (turn % 2)))) L 1 (λs=>min (sz s) e):= .inl (.inl (.inl #[a5,e,by rw[he];exact ah,λ_ _=>rfl]));generalize upd (upd (upd b9 a5 (.own L)) L (.ins cE a5 [])) L (.ins cE a5 (evF 1 (turn % 2)))=kn at*;have ei:=z5.same eB fs;have gk:=eB.at dn;clear eB fs dn es hg i1;refine i [xS a,xS B,yS n,yT v,xS N,yT turn,v6,v7,xS G,xS L,none,none,none] _ ?_;clear i m;refine gm λm i=> ?_;have made:∀ {H:Hp} {p dx:Addr} {x y:HO} {H':Hp},H p=none->H dx=none->(∀b o,upd (upd H dx x) p y b=some o->b≠p->H' b=some o)->Same H H':=λhp hd et b o h=>et b o (by rw[aA (au h hp),aA (au h hd)];exact h) (au h hp);refine#[77,λq1 d1 dy dt iv=>#[q1,d1,N,L,u,(1),J,7,ah,z5.same (fN dy dt) ei,z5.same (fN dy dt) hE,9,λkp hh gi=>#[26]]];have d0:=made dy dt hh;have cp:=z5.same d0 ei;have dk:=z5.same d0 hE;refine#[77,λq2 d2 dE dv iR=>#[q2,d2,L,N,(1),u,_,J,2,ah,z5.same (fN dE dv) dk,z5.same (fN dE dv) cp,9,λda o13 gj=>#[2,by show 2<=sizeLine;decide,λpl fW=> ?_]]];have bA:=made dE dv o13;have bp:Same da (upd da pl (.lst [.ref q1, .ref q2])):=Same.new fW;have f3:upd da pl (.lst [.ref q1, .ref q2]) pl=some (.lst [.ref q1, .ref q2]):=ah;generalize upd da pl (.lst [.ref q1, .ref q2])=bS at*;have b1:∀word,jP word (u+1) (lE e u J)↔jP word u J:=λ_=>tV M5 b7 b5 (Pu _);have hK:∀word,jP word (u+1) (lE e 0 J)↔jP word u J:=λ_=>tV M5 b7 b5 (Qu _);have S1:(hs6 cE cL cN cT cM cO cS).ho bS q1 (u+1) (lE e u J):= .inr #[d1,N,L,u,(1),J,7,bp.at (bA.at gi),z5.same (bA.trans bp) cp,z5.same (bA.trans bp) dk,λs hs=>CD b5 hs];have S2:(hs6 cE cL cN cT cM cO cS).ho bS q2 (u+1) (lE e 0 J):= .inr #[d2,L,N,(1),u,_,J,SK _ _,by rw[SK u 1];exact bp.at gj,z5.same (bA.trans bp) dk,z5.same (bA.trans bp) cp,λs hs=>FD b5 hs];have fu:=z5.same (bA.trans bp) cp;have gy:=(d0.trans (bA.trans bp)).at gk;obtain⟨q,p,e6,hp,S⟩:∃(q:Addr)(p:Nat),atI [V.ref q1,V.ref q2] (turn/17 % 2)=some (.ref q)/\p<=u/\(hs6 cE cL cN cT cM cO cS).ho bS q (u+1) (lE e p J):=by
  have g0:=QS (turn/17) (show(2:Int)≠0 by decide);have g2:=QI (turn/17) (show(0:Int)<2 by decide);rcases(show turn/17 % 2=0\/turn/17 % 2=1 by lia)with g|g
  .rw[g];exact#[q1,u,2,Pu _,S1]
  .rw[g];exact#[q2,0,2,Qu _,S2]
 refine#[78,#[44],84,pl,3,SqL.of f3,e6,6];clear S1 S2 b1 hK made hh o13 gi gj cp dk ei hE dy dt iv dE dv iR e6 f3 fW gk bp d0 bA;refine i [xS a,xS B,yS n,yT v,xS N,yT turn,v6,v7,xS G,xS L,xS q,none,none] _ ?_;clear i m;refine gm λm i=> ?_;refine#[78,#[44],846];have g0:=QS (turn/3) (show(3:Int)≠0 by decide);have g3:=QI (turn/3) (show(0:Int)<3 by decide);generalize turn/3 % 3=bB at*;refine i [xS a,xS B,yS n,yT v,xS N,yT turn,v6,v7,xS G,xS L,xS q,yT bB,none] _ ?_;clear i m;obtain⟨word,b,fa,hW,e9,iW⟩:∃(word:Int)(b:Bool),atI [V.int 2,V.int 3,V.int 0] bB=some (.int word)/\Word word/\atI [V.bl U,V.bl b3,V.bl (U&&b3)] bB=some (.bl b)/\(b=true↔jP word u J):=by
  rcases(show bB=0\/bB=1\/bB=2 by lia)with rfl|rfl|rfl
  .exact#[(2),U,2, .inl rfl,2,i2.trans Ax.symm]
  .exact#[(3),b3,2, .inr (.inl rfl),2,i3.trans Aw.symm]
  .exact#[0,7, .inr (.inr rfl),2,i0]
 refine gm λm i=> ?_;refine#[by show 3<=sizeLine;decide,λpw gd=>#[7,pw,3,SqL.of ah,fa,6]];have d4:Same bS (upd bS pw (.lst [.int 2, .int 3, .int 0])):=Same.new gd;generalize upd bS pw (.lst [.int 2, .int 3, .int 0])=hz at*;have fx:=z5.same d4 fu;have hD:=z6.same d4 S;have gz:=d4.at gy;refine i [xS a,xS B,yS n,yT v,xS N,yT turn,v6,v7,xS G,xS L,xS q,yT bB,yT word] _ ?_;clear i m S fu gy d4 gd fa;refine#[77,λpo cm bN c3 i4=>#[po,cm,N,u,J,2,ah,z5.same (fN bN c3) fx,M5.n8,λhA jl el=>#[26]]];have d3:Same hz hA:=λb o h=>jl b o (by rw[aA (au h bN),aA (au h c3)];exact h) (au h bN);have hi:∀ {x y:Bool} {A:Prop},(x=true↔A)->(y=true↔A)->V.bl x=V.bl y:=λh1 h2=>Qd V.bl (Q8.mpr (h1.trans h2.symm));refine#[po,word,u,ir u J,2,hW, .inl (.inr #[cm,N,J,el,z5.same d3 fx,λs hs=>M5.dD hs]),M5.dual,M5.dual.six b7,λb' ks ez ib=>#[77,G,3,SqL.of ((d3.trans ez).at gz),e9,27,cC (λ_=> ?_) λz=>absurd (Pe (hi (ib.trans (Ff M5)) iW)) z]];have O:=uo M5 b7 b5 hp;refine#[77,q,word,u+1,lE e p J,2,hW,z6.same (d3.trans ez) hD,O.1,O.2.1,λk3 kv j1 il=>#[77,G,3,SqL.of (((d3.trans ez).trans j1).at gz),e9,26]];rw[Pe (hi (il.trans (tV M5 b7 b5 hp)) iW)];exact k _
end
inductive HD(K:Frag)(n:Str)(st:Stmt):Prop
 |mk{f:Addr} {oc:Value} {od an:Option Addr} {sl:Array (Option Value)} {kV dc pm cd ct:Value} (a:nsIn K mainGlobals n=some (some (.ref f))) (l:K.lookup f=some ⟨oc,od, .func (fnOf n n (eC st) (bx st) (aq st) .none kV dc pm an cd ct),sl⟩) (c:codeIn K cd n=true) (k:keepIn K (.ref f)=true):HD K n st
theorem HD.at{K:Frag}{n:Str}{st:Stmt}{h:Heap}{mg:Str->Option Value}(X:K.In h)(G:h.Ns mainGlobals mg)(d:HD K n st){ps:List Str}(b:∀(kV f g:Value)(an:Option Addr)(cdv e:Value)(us:List Value),us.length=ps.length->bindArgs (fnOf n n (eC st) (bx st) (aq st) .none kV f g an cdv e) #[us,[]]=pure (ps.zip us):=by intro _ _ _ _ _ _;first|exact Ny rfl|exact Nx λ_=>rfl|exact Jp λ_ _=>rfl|exact Jo λ_ _ _=>rfl|exact Nw λ_ _ _ _=>rfl|exact Ou λ_ _ _ _ _=>rfl):bo K mg n st ps:=by obtain⟨a,l,c,k⟩:=d;exact NO (st:=st) (ps:=ps) X G a l c k b
inductive HM(K:Frag)(C:Addr)(n q:Str)(st:Stmt)(f:Addr):Prop
 |mk{oc:Value} {od an:Option Addr} {sl:Array (Option Value)} {kV dc pm cd ct:Value} (a:findIn K (.ref C) n=some (some (.ref f))) (i:isFn K (.ref f)=true) (l:K.lookup f=some ⟨oc,od, .func (fnOf n q (eC st) (bx st) (aq st) .none kV dc pm an cd ct),sl⟩) (c:codeIn K cd q=true) (k:keepIn K (.ref f)=true):HM K C n q st f
theorem HM.at{K:Frag}{C:Addr}{n q:Str}{st:Stmt}{f:Addr}(d:HM K C n q st f){ps:List Str}(b:∀(kV g h:Value)(an:Option Addr)(cdv e:Value)(us:List Value),us.length=ps.length->bindArgs (fnOf n q (eC st) (bx st) (aq st) .none kV g h an cdv e) #[us,[]]=pure (ps.zip us):=by intro _ _ _ _ _ _;first|exact Ny rfl|exact Nx λ_=>rfl|exact Jp λ_ _=>rfl|exact Jo λ_ _ _=>rfl|exact Nw λ_ _ _ _=>rfl|exact Ou λ_ _ _ _ _=>rfl):fK K n q st ps f/\findIn K (.ref C) n=some (some (.ref f))/\isFn K (.ref f)=true/\keepIn K (.ref f)=true:=by obtain⟨a,i,l,c,k⟩:=d;exact#[Nt (st:=st) (ps:=ps) l c k b,a,i,k]
structure HL(K:Frag)(n:Str)(C:Addr):Prop where
 a:nsIn K mainGlobals n=some (some (.ref C))
 pg:plainGet K C Str.empty=true
 hd:hasDictIn K C=true
 po:plainOver K C=true
 sa:findIn K (.ref C) "__setattr__"=some (some (.builtin "object.__setattr__"))
 mi:makesIn K C=true
 kc:keepIn K (.ref C)=true
structure HI(K:Frag)(C:Addr):Prop where
 a:findIn K (.ref C) "__class__"=some (some (.builtin "object.__class__"))
 b:specialIn K (.builtin "object.__class__") "__get__"=some (some (.builtin "getset_descriptor.__get__"))
 c:takesIn K (.builtin "object.__class__")=some true
 d:mroIn K C (.type "object")=some true
theorem all_mk{l:PySem.W.OpenLaw}{K:Frag}{h:Heap}(X:K.In h)(G:h.Ns mainGlobals mg)(Ib:mg "law"=some (.ref fa))(YE:HL K "House" b)(YI:HL K "Even" n)(YC:HL K "Listed" m)(YF:HL K "Other" d)(YG:HL K "Minor" a)(YH:HL K "Side" k)(YD:HL K "Known" f)(YJ:HL K "Net" g)(YB:HL K "Tabled" i)(dw:HM K b "__init__" "House.__init__" dS a6)(b4:HM K b "everything" "House.everything" cX ax)(Zj:findIn K (.ref b) "many"=some none)(WT:HI K b)(Y4:kitOne K (.ref b) (.ref b)=some true)(ea:HM K n "__init__" "Even.__init__" eJ d5)(hI:HM K n "rank" "Even.rank" jb hG)(K8:findIn K (.ref n) "everything"=some (some (.ref ax)))(tc:findIn K (.ref n) "many"=some none)(td:findIn K (.ref n) "most"=some none)(WX:HI K n)(W4:kitOne K (.ref n) (.ref b)=some true)(c5:HM K m "__init__" "Listed.__init__" dC c3)(eL:HM K m "rank" "Listed.rank" gc eG)(I8:findIn K (.ref m) "everything"=some (some (.ref ax)))(sS:findIn K (.ref m) "many"=some none)(sC:findIn K (.ref m) "listed"=some none)(WR:HI K m)(W0:kitOne K (.ref m) (.ref b)=some true)(fU:HM K d "rank" "Other.rank" hU fI)(dx:HM K d "__init__" "Other.__init__" dP dv)(rl:findIn K (.ref d) "everything"=some (some (.ref ax)))(ob:findIn K (.ref d) "many"=some none)(n8:findIn K (.ref d) "house"=some none)(n6:findIn K (.ref d) "full"=some none)(n7:findIn K (.ref d) "full_rank"=some none)(WU:HI K d)(rT:kitOne K (.ref d) (.ref b)=some true)(dy:HM K a "__init__" "Minor.__init__" dQ dt)(fV:HM K a "rank" "Minor.rank" ia fB)(rm:findIn K (.ref a) "everything"=some (some (.ref ax)))(ox:findIn K (.ref a) "many"=some none)(oi:findIn K (.ref a) "house"=some none)(oj:findIn K (.ref a) "kept"=some none)(oc:findIn K (.ref a) "drawn"=some none)(od:findIn K (.ref a) "drawn_rank"=some none)(WV:HI K a)(rW:kitOne K (.ref a) (.ref b)=some true)(eb:HM K k "__init__" "Side.__init__" eI d7)(hJ:HM K k "rank" "Side.rank" ja hH)(KX:findIn K (.ref k) "everything"=some (some (.ref ax)))(ta:findIn K (.ref k) "many"=some none)(s7:findIn K (.ref k) "first"=some none)(tb:findIn K (.ref k) "second"=some none)(s9:findIn K (.ref k) "first_many"=some none)(s8:findIn K (.ref k) "first_full"=some none)(WW:HI K k)(W3:kitOne K (.ref k) (.ref b)=some true)(dE:HM K f "__init__" "Known.__init__" dR dr)(fW:HM K f "rank" "Known.rank" ic fy)(I9:findIn K (.ref f) "everything"=some (some (.ref ax)))(sT:findIn K (.ref f) "many"=some none)(s6:findIn K (.ref f) "told"=some none)(WS:HI K f)(W2:kitOne K (.ref f) (.ref b)=some true)(eo:HM K g "__init__" "Net.__init__" fA el)(f3:HM K g "pieces" "Net.pieces" h9 fx)(ib:HM K g "rank" "Net.rank" jI h8)(N0:findIn K (.ref g) "everything"=some (some (.ref ax)))(te:findIn K (.ref g) "many"=some none)(o1:findIn K (.ref g) "points"=some none)(tg:findIn K (.ref g) "ties"=some none)(WY:HI K g)(W5:kitOne K (.ref g) (.ref b)=some true)(da:HM K i "__init__" "Tabled.__init__" dB c4)(eM:HM K i "rank" "Tabled.rank" f9 eH)(I7:findIn K (.ref i) "everything"=some (some (.ref ax)))(sl:findIn K (.ref i) "many"=some none)(sm:findIn K (.ref i) "prime"=some none)(sq:findIn K (.ref i) "rows"=some none)(WQ:HI K i)(WZ:kitOne K (.ref i) (.ref b)=some true)(lW:HD K "holds" pG)(k8:HD K "things" l9)(my:HD K "size" tX)(la:HD K "set_of" mf)(lb:HD K "within" l7)(lX:HD K "parts" pF)(j2:HD K "choices" kI)(lg:HD K "spread" ma)(lk:HD K "all_of" mj)(mz:HD K "less" tY)(hK:HD K "exchanged" i7)(mA:HD K "tied" tW)(l1:HD K "rests" pD)(eN:HD K "pivot_place" fZ)(j8:HD K "cleared" kG)(eP:HD K "all_cleared" f7)(ke:HD K "rank_of" kC)(l8:HD K "ranks" pE)(bk:HD K "whole_rank" gO)(mb:HD K "frees" pH)(mc:HD K "bases" pI)(kk:HD K "is_even" kE)(kl:HD K "holders" kF)(ih:HD K "is_seven" jF)(kn:HD K "kind_of" kD)(ep:HD K "columns_with" fw)(mI:HD K "fits" tZ)(f5:HD K "column_for" gQ)(ll:HD K "single" md)(hL:HD K "table_for" i6)(eR:HD K "left_barred" f6)(hM:HD K "told_over" i5)(ij:HD K "over_two" jD)(gb:HD K "over_three" gP)(il:HD K "over_all" jE)(gd:HD K "_law_whole" gR)(hN:HD K "_law_size" i8)(iv:HD K "_law_far" jH)(iR:HD K "_law_net" jG)(gi:HD K "_law_table" gT)(gj:HD K "_law_signs" gU)(gk:HD K "_law_house" gY)(gy:HD K "_law_minor" gW)(gz:HD K "_law_seven" gV)(hO:HD K "_law_kind" i9)(b5:HD K "_law_determinant" cW)(er:HD K "_law_numbers" fz)(b6:HD K "_law_table_right" cV)(gN:HD K "_law_kinds" gX)(ha:HD K "_law_asked" gZ)(hb:HD K "_law_tells" gS)(t8:nsIn K mainGlobals "law"=some (some (.ref q5)))(XJ:K.lookup q5=some #[ocn9,odn9, .func (fnOf "law" "law" (eC eF) (bx eF) (aq eF) .none Xl w1 Yr uf p8 vu),Zk])(vs:codeIn K p8 "law"=true)(Xv:keepIn K (.ref q5)=true)(nd:nsIn K mainGlobals "len"=some none)(me:nsIn K mainGlobals "range"=some none)(hc:nsIn K mainGlobals "isinstance"=some none)(nf:nsIn K mainGlobals "int"=some none)(mJ:nsIn K mainGlobals "bool"=some none)(mL:nsIn K mainGlobals "list"=some none)(ni:nsIn K mainGlobals "set"=some none)(mi:nsIn K mainGlobals "tuple"=some none)(nk:nsIn K mainGlobals "max"=some none)(nq:nsIn K mainGlobals "min"=some none)(nt:nsIn K mainGlobals "zip"=some none)(hP:nsIn K mainGlobals "enumerate"=some none)(nu:nsIn K mainGlobals "sum"=some none)(lr:nsIn K mainGlobals "sorted"=some none)(mS:nsIn K mainGlobals "dict"=some none)(nv:nsIn K mainGlobals "all"=some none)(nx:nsIn K mainGlobals "str"=some none)(iW:nsIn K mainGlobals "reversed"=some none)(Xh:kitOne K (.type "int") (.type "int")=some true)(Xg:kitOne K (.type "int") (.type "bool")=some false)(Xk:kitOne K (.type "tuple") (.type "tuple")=some true)(Xi:kitOne K (.type "list") (.type "list")=some true)(Xj:kitOne K (.type "str") (.type "str")=some true)(zx:specialIn K (.ref b) "__getattribute__"=some (some (.builtin "type.__getattribute__")))(YK:PySem.W.readsIn K b (.type "type")=true)(zl:PySem.W.findCls K (.ref b) (.type "type") "__init__"=some (.val (.ref a6)))(oy:[n,m,g,i,a,d,k].Nodup)(Ya:d≠a)(eW:nsIn K mainGlobals "TWO_OF_FOUR"=some (some (.str aX t1)))(e0:nsIn K mainGlobals "TWO_OF_FIVE"=some (some (.str ba t2)))(ec:nsIn K mainGlobals "THREE_OF_FIVE"=some (some (.str aU t3)))(ml:nsIn K mainGlobals "SEVEN"=some (some (.str d6 t4)))(e1:nsIn K mainGlobals "OTHER_SEVEN"=some (some (.str bb t5))):
  ∃fd:FuncData,(∀(s:Shared)(v:Value),BindsTo s fd #[[v],[]] [("_law_script",v)])/\∀base:Heap,K.In base->base.Ns mainGlobals mg->lj l.prog w K mg base CX0 17 fa fd ["_law_script"] (DL K):=by
 have e:=Ib.symm.trans (Ra X G t8);cases e;have T:Tb K mg:=#[QA X G nd,QA X G me,QA X G hc,QA X G nf,QA X G mJ,QA X G mL,QA X G ni,QA X G mi,QA X G nk,QA X G nq,QA X G nt,QA X G hP,QA X G nu,QA X G lr,QA X G mS,QA X G nv,QA X G nx,QA X G iW,Xh,Xg,Xk,Xi,Xj];obtain⟨tA,Yl,H5,Yv,YO,Zh,Y7⟩:=YE;have z:=Ra X G tA;have YZ:Cls K b:=#[Yl,H5,Yv,YO];obtain⟨Y0,Y1,Y2,Y3⟩:=WT;obtain⟨tI,Yp,H9,Yz,YS,sh,r3⟩:=YI;have q9:=Ra X G tI;have nI:Cls K n:=#[Yp,H9,Yz,YS];obtain⟨Wq,Wx,WD,WK⟩:=WX;obtain⟨ts,Yj,H3,Yt,YM,XY,Xm⟩:=YC;have zE:=Ra X G ts;have nz:Cls K m:=#[Yj,H3,Yt,YM];obtain⟨Wm,Wu,WA,WH⟩:=WR;obtain⟨tD,Ym,H6,Yw,YP,sa,r1⟩:=YF;have q7:=Ra X G tD;have q:Cls K d:=#[Ym,H6,Yw,YP];obtain⟨ru,rx,rB,rR⟩:=WU;obtain⟨tE,Yn,H7,Yx,YQ,sb,r2⟩:=YG;have q8:=Ra X G tE;have r:Cls K a:=#[Yn,H7,Yx,YQ];obtain⟨rv,ry,rC,rS⟩:=WV;obtain⟨tG,Yo,H8,Yy,YR,X0,Xo⟩:=YH;have zR:=Ra X G tG;have nD:Cls K k:=#[Yo,H8,Yy,YR];obtain⟨Wo,Ww,WC,WJ⟩:=WW;obtain⟨tw,Yk,H4,Yu,YN,XZ,Xn⟩:=YD;have zG:=Ra X G tw;have nB:Cls K f:=#[Yk,H4,Yu,YN];obtain⟨Wn,Wv,WB,WI⟩:=WS;obtain⟨tT,Yq,Ia,YA,YT,X1,Xp⟩:=YJ;have zS:=Ra X G tT;have H:Cls K g:=#[Yq,Ia,YA,YT];obtain⟨Wr,Wy,WE,WL⟩:=WY;obtain⟨tr,Yi,H2,Ys,YL,r7,r0⟩:=YB;have q6:=Ra X G tr;have U:Cls K i:=#[Yi,H2,Ys,YL];obtain⟨Wl,Wt,Wz,WG⟩:=WQ;obtain⟨dK,lx,ly,lz⟩:=dw.at (ps:=["self","n"]);obtain⟨b7,kp,u,x⟩:=b4.at (ps:=["self"]);obtain⟨ed,bM,bN,lS⟩:=ea.at (ps:=["self","n","k"]);obtain⟨hQ,hR,hS,hT⟩:=hI.at (ps:=["self","s"]);obtain⟨dc,dh,dj,k2⟩:=c5.at (ps:=["self","n","some"]);obtain⟨e2,e3,e4,e5⟩:=eL.at (ps:=["self","s"]);obtain⟨es,et,ew,mm⟩:=eo.at (ps:=["self","n","points","ties"]);obtain⟨hg,hh,hi,hj⟩:=f3.at (ps:=["self","s"]);obtain⟨i0,i1,i2,i3⟩:=ib.at (ps:=["self","s"]);obtain⟨dk,a3,a4,k3⟩:=da.at (ps:=["self","n","prime","rows"]);obtain⟨e6,e8,e9,fe⟩:=eM.at (ps:=["self","s"]);obtain⟨ef,eh,ei,lT⟩:=eb.at (ps:=["self","one","other"]);obtain⟨hV,hW,hX,hY⟩:=hJ.at (ps:=["self","s"]);obtain⟨dT,dV,d0,lB⟩:=dE.at (ps:=["self","house"]);obtain⟨hk,hn,ho,hp⟩:=fW.at (ps:=["self","s"]);obtain⟨bl,bp,br,lC⟩:=dy.at (ps:=["self","house","out","drawn"]);obtain⟨b8,b9,cb,cg⟩:=fV.at (ps:=["self","s"]);obtain⟨cm,cn,cp,ct⟩:=fU.at (ps:=["self","s"]);obtain⟨bt,bu,bA,lK⟩:=dx.at (ps:=["self","house"]);have tn:=uM (st:=eF) XJ vs Xv;refine#[fnOf "law" "law" (eC eF) (bx eF) (aq eF) .none Xl w1 Yr uf p8 vu,λs v=> .of_eq rfl,λbase KB GB=> ?_];have b1:=Ra X G eW;have b2:=Ra X G e0;have bS:=Ra X G ec;have h5:=Ra X G ml;have b3:=Ra X G e1;have o:=NG f;have Q:=yP o a;have zO:=C3 Q d;have N:=OD (p:=HC K b) (cE:=n) (cL:=m) (cN:=g) (cT:=i) (cM:=a) (cO:=d) (cS:=k) (OF #[nI,tc,#[Wq,Wx,WD,WK],W4] #[nz,sS,#[Wm,Wu,WA,WH],W0] #[H,te,#[Wr,Wy,WE,WL],W5] #[U,sl,#[Wl,Wt,Wz,WG],WZ] #[r,ox,#[rv,ry,rC,rS],rW] #[q,ob,#[ru,rx,rB,rR],rT] #[nD,ta,#[Wo,Ww,WC,WJ],W3]);have L:∀C,(hsN f).dom C->HC K b C:=λC c=>by cases c;exact#[nB,sT,#[Wn,Wv,WB,WI],W2]
 have n3:∀C,(qi (hsN f) a).dom C->HC K b C:=λC c=>by cases c;exact#[r,ox,#[rv,ry,rC,rS],rW]
 have rk:∀C,(hsO (qi (hsN f) a) d).dom C->HC K b C:=λC c=>by(rcases c with c|rfl);exact n3 C c;exact#[q,ob,#[ru,rx,rB,rR],rT]
 have th:∀C,(qi (hsN f) a).dom C->d≠C:=λC c=>by cases c;exact Ya
 have h6:=IK l.prog w base (lW.at X G);have B:=FF l.prog w base T (k8.at X G) h6;have t:=Lm l.prog w base T (my.at X G) B;have hq:=FI l.prog w base (la.at X G);have lL:=FE l.prog w base (lb.at X G);have ey:=IJ l.prog w base T (lX.at X G) B;have bX:=CJ l.prog w base T (j2.at X G) ey t;have hr:=FG l.prog w base T (lg.at X G) hq B h6;have lM:=FJ l.prog w base (lk.at X G);have J:=Ln l.prog w base (mz.at X G);have hZ:=yD l.prog w base (hK.at X G) J;have d1:=pZ l.prog w base (mg:=mg) dK;have y:=nT l.prog w base b7 lM;have A:vW l.prog w K mg base 1 b "__init__" ["self","n"] (iK K):=#[#[_,d1,zl],zx,YK];have b0:=qS l.prog w base ed z nI tc td A;have h1:=yI l.prog w base T hQ nI td t;have dn:=oJ l.prog w base T dc z nz sS sC A;have fl:=uu l.prog w base T e2 nz sC t;have mT:=Lk l.prog w base (mA.at X G);have ez:=sj l.prog w base T es z H te o1 tg A;have hs:=vO l.prog w base T hg H o1 tg B mT;have i4:=AY l.prog w base i0 H o1 (λC h=>by subst h;exact#[H,_,#[hh,hi,hj],hs]);have mu:=IH l.prog w base T (l1.at X G);have fm:=uq l.prog w base T (eN.at X G);have ks:=AV l.prog w base T (j8.at X G);have fp:=sf l.prog w base T (eP.at X G) ks;have eE:=CF l.prog w base T (ke.at X G) mu fm fp;have a5:=nR l.prog w base T dk z U sl sm sq A;have fs:=si l.prog w base T e6 U sm sq B eE;have n4:=OD (p:=λC=>bQ l.prog w K mg base 2 C "everything" ["self"] (d8 K)) (cE:=n) (cL:=m) (cN:=g) (cT:=i) (cM:=a) (cO:=d) (cS:=k) (OF #[nI,_,#[K8,u,x],y] #[nz,_,#[I8,u,x],y] #[H,_,#[N0,u,x],y] #[U,_,#[I7,u,x],y] #[r,_,#[rm,u,x],y] #[q,_,#[rl,u,x],y] #[nD,_,#[KX,u,x],y]);have m4:=Oe (P:=l.prog) (w:=w) (mg:=mg) (base:=base) (List.Sublist.nodup (List.prefix_append [n,m,g,i] [a,d,k]).sublist oy) #[nI,_,#[hR,hS,hT],h1] #[nz,_,#[e3,e4,e5],fl] #[H,_,#[i1,i2,i3],i4] #[U,_,#[e8,e9,fe],fs];have z4:=oP n m g i;have z5:=qU n m g i a;have M:=JC n m g i a d k;have YV:=og l.prog w base b8 r oi oj oc od z4 ∅ hr m4;have Wh:=jZ l.prog w base bl z r ox oi oj oc od z4 N.1 ∅ A J t n4.1 m4;have m5:=Od (P:=l.prog) (w:=w) (mg:=mg) (base:=base) (List.Sublist.nodup (List.prefix_append [n,m,g,i,a] [d,k]).sublist oy) m4 #[r,_,#[b9,cb,cg],YV];have YX:=oe l.prog w base (C_House:=b) cm q n8 n6 n7 z5 (ne5 oy) ∅ J t m5;have Wi:=jY l.prog w base bt z q ob n8 n6 n7 N.2.1 z5 ∅ A n4.2.1 m5;have ej:=qR l.prog w base ef z nD ta s7 tb s9 s8 z5 N.2.1 A n4.2.1;have h2:=yH l.prog w base hV nD s7 tb s9 s8 z5 ∅ m5;have m6:=Oc (P:=l.prog) (w:=w) (mg:=mg) (base:=base) oy m5 #[q,_,#[cn,cp,ct],YX] #[nD,_,#[hW,hX,hY],h2];have h7:=II l.prog w base M (l8.at X G) N.2.2 m6 n4.2.2 ey;have d2:=pY l.prog w base T dT z nB sT s6 M N.2.2 A h7;have ht:=vP l.prog w base (mg:=mg) hk nB s6;have n1:∀C,(hsN f).dom C->bQ l.prog w K mg base 2 C "everything" ["self"] (d8 K):=λC c=>by cases c;exact#[nB,_,#[I9,u,x],y]
 have O:∀C,(hsN f).dom C->bQ l.prog w K mg base 4 C "rank" ["self","s"] (dX (hsN f) C):=λC c=>by cases c;exact bQ.imp (bQ.mono #[nB,_,#[hn,ho,hp],ht] ∅) MM
 have az:=km l.prog w base o L (bk.at X G) ∅ n1 O;have mv:=IL l.prog w base o L (mb.at X G) O n1 ey t;have mx:=IM l.prog w base o (mc.at X G) az mv t;have d3:=jZ l.prog w base bl z r ox oi oj oc od o L ∅ A J t n1 O;have hu:=og l.prog w base b8 r oi oj oc od o ∅ hr O;have n5:∀C,(qi (hsN f) a).dom C->bQ l.prog w K mg base 2 C "everything" ["self"] (d8 K):=λC c=>by cases c;exact#[r,_,#[rm,u,x],y]
 have mM:∀C,(qi (hsN f) a).dom C->bQ l.prog w K mg base 5 C "rank" ["self","s"] (dX (qi (hsN f) a) C):=λC c=>by cases c;exact#[r,_,#[b9,cb,cg],hu]
 have hv:=oe l.prog w base (C_House:=b) cm q n8 n6 n7 Q th ∅ J t mM;have d4:=jY l.prog w base bt z q ob n8 n6 n7 n3 Q ∅ A n5 mM;have r5:∀C,(hsO (qi (hsN f) a) d).dom C->bQ l.prog w K mg base 2 C "everything" ["self"] (d8 K):=λC c=>by(rcases c with c|rfl);exact n5 C c;exact#[q,_,#[rl,u,x],y]
 have mO:∀C,(hsO (qi (hsN f) a) d).dom C->bQ l.prog w K mg base 6 C "rank" ["self","s"] (dX (hsO (qi (hsN f) a) d) C):=λC c=>by(rcases c with c|rfl);exact bQ.imp (bQ.mono (mM C c) ∅) (we (th C c));exact#[q,_,#[cn,cp,ct],hv]
 have wM:=km l.prog w base Q n3 (bk.at X G) ∅ n5 mM;have wO:=km l.prog w base zO rk (bk.at X G) ∅ r5 mO;have kv:=CH l.prog w base T Q n3 (kk.at X G) ∅ n5 mM wM bX;have k0:=CI l.prog w base T (kl.at X G) lL;have jl:=AU l.prog w base T zO rk (ih.at X G) ∅ r5 mO wO bX t k0;have k1:=CG l.prog w base (C_House:=b) (j:=5) Q (kn.at X G) ∅ b1 b2 bS h5 b3 kv #[#[_,#[sa,bu,bA,r1],d4],q7] jl;have eA:=se l.prog w base T (ep.at X G);have nc:=Lo l.prog w base T o L (mI.at X G) O az bX hq B eE;have hx:=vE l.prog w base T o L (f5.at X G) O az B hZ eA nc;have lN:=FH l.prog w base T (ll.at X G);have h3:=yC l.prog w base T o L (hL.at X G) n1 az B J mx lN hx;have fu:=ur l.prog w base (j:=8) T o L (eR.at X G) ∅ n1 az bX J #[#[_,#[sb,bp,br,r2],d3],q8] k1;have dp:=yA l.prog w base T M o (hM.at X G) ∅ #[#[_,#[XZ,dV,d0,Xn],d2],zG] h3 fu;have ek:=AR l.prog w base M (ij.at X G) b1 dp;have cy:=vD l.prog w base M (gb.at X G) b2 bS h5 b3 dp;have js:=AS l.prog w base M (il.at X G) ek cy;have cK:=vF l.prog w base T (gd.at X G);have a0:=yE l.prog w base (hN.at X G);have j0:=AX l.prog w base T (iv.at X G) a0;have j1:=AW l.prog w base T (iR.at X G) #[#[_,#[X1,et,ew,Xp],ez],zS];have hy:=vH l.prog w base T (gi.at X G) #[#[_,#[r7,a3,a4,r0],a5],q6];have hz:=vI l.prog w base T (gj.at X G) #[#[_,#[r7,a3,a4,r0],a5],q6];have hA:=vM l.prog w base T (gk.at X G) j1 hy hz #[#[_,#[sh,bM,bN,r3],b0],q9] #[#[_,#[XY,dh,dj,Xm],dn],zE] j0;have hB:=vK l.prog w base T (gy.at X G);have hC:=vJ l.prog w base T (gz.at X G) a0;have h4:=yF l.prog w base T (hO.at X G) a0 hC;have c1:=nQ l.prog w base T (b5.at X G) a0;have eB:=sg l.prog w base T (er.at X G) cK;have c2:=nP l.prog w base T (b6.at X G) a0 eB c1;have hD:=vL l.prog w base (gN.at X G);have hE:=vN l.prog w base (ha.at X G) (Cal.mono ek ∅) (Cal.mono cy ∅) js;have hF:=vG l.prog w base T M N.2.2 (hb.at X G) hE h7 cK h4 hB hD c2;exact Nm l.prog w base tn T hA #[#[_,#[sb,bp,br,r2],Wh],q8] hF #[#[_,#[sh,bM,bN,r3],b0],q9] #[#[_,#[X0,eh,ei,Xo],ej],zR] #[#[_,#[sa,bu,bA,r1],Wi],q7]
theorem walk{l:PySem.W.OpenLaw}{d:DefRec}{K:Params->Frag}(j:l.most=some 63)(i:d.params.defaults=[])(g:∀(w:World)(h:Heap),YP w h->(K w.params).In h)(F:∀(w:World)(mg:Str->Option Value)(b:Addr)(h:Heap),(K w.params).In h->h.Ns mainGlobals mg->mg d.name=some (.ref b)->
   ∃c:FuncData,(∀(s:Shared)(u:Value),BindsTo s c #[[u],[]] [("_law_script",u)])/\∀base:Heap,(K w.params).In base->base.Ns mainGlobals mg->lj l.prog w (K w.params) mg base CX0 17 b c ["_law_script"] (DL (K w.params))):
  PySem.W.WalkO q loose XP YP l.row.toRowW d [] (λf vs=>PySem.call f vs):=
 L2.DA (n:=63) (k:=17) (x:= "_law_script") (CX:=λ_=>CX0) (sp:=λw=>DL (K w.params)) j ∅ i #[2442] g F (λ_ _ a ns hl _ e=>#[a,ns,2,e,hl,λ_=>rfl]) λ_ _ _ _ _ z=>z
end BhK
end
namespace Hd
open PySem PySem.W PySem.Calls PyProof.Rows
theorem _root_.PySem.W.Fast.te7239439084724097079:True:=trivial
open PySem.W.Fast PySem.Challenge BhK
noncomputable section
theorem _root_.PySem.W.Fast.tw14636612726748105703:True:=trivial
noncomputable abbrev R(a:Nat):Value:= .ref a
noncomputable abbrev V(x:Str)(t:Nat):Value:= .str x t
noncomputable abbrev I(i:Int):Value:= .int i 0
noncomputable abbrev E(P:Params)(x:Str)(t:Nat)(v:Value):DictEntry:=⟨PyData.keyHash P x, .str x t,v⟩
noncomputable abbrev Y:Obj:=⟨.type "tuple",none, .seq #[] 0, #[]⟩
noncomputable abbrev T(l:List Value):Obj:=⟨.type "tuple",none, .seq ⟨l⟩ 0, #[]⟩
noncomputable abbrev Z:Obj:=⟨.none,none, .fields #[], #[]⟩
noncomputable abbrev W(l:List Value):Obj:=⟨.none,none, .fields ⟨l⟩, #[]⟩
noncomputable abbrev F(n q:Str)(s:Stmt)(g:Nat)(dv kv doc pm:Value)(an:Option Nat)(cd ct:Value)(b:Nat):FuncData:=⟨n,q,L2.eC s, .stmts (L2.bx s),L2.aq s,g,[],dv,kv,doc,pm,an,cd,ct,b⟩
noncomputable abbrev C(n q:Str)(t:Nat)(l k g:Int)(x:Nat)(b:Bool)(u v w:Value)(d:Nat):Obj:=⟨.type "code",none, .fields ⟨[.str n t, .str q (t.add 1), .str "/claim/cut.py" (t.add 2), .int l 0, .int k 0, .int 0 0, .int 0 0, .int g 0, .ref x, .bool b, .int 181 0, .ref (x.add 1), .none,u,v,w, .int d 0, .int l 0, .str "/claim/cut.py" (d.add 1)]⟩, #[]⟩
abbrev ff(n q:Str)(s:Stmt):Obj:=⟨.none,none, .func (F n q s 0 .none .none .none .none none .none .none 0), #[]⟩
abbrev fk(n q:Str)(s:Stmt)(m:Value)(c:Nat):Obj:=⟨.type "function",none, .func (F n q s 3 .none .none .none m none (.ref c) .none 0), #[]⟩
abbrev f1(n:Str)(s:Stmt):Obj:=ff n n s
abbrev f2(n:Str)(s:Stmt)(m:Value)(c:Nat):Obj:=fk n n s m c
abbrev C1(n:Str)(t:Nat)(l k g:Int)(x:Nat)(b:Bool)(u v w:Value)(d:Nat):Obj:=C n n t l k g x b u v w d
abbrev kc(n q:Str)(t:Nat)(l k:Int)(w:Nat):Obj:=C n q t l k 3 (w.sub 2) true .none .none (R w) (t.add 3)
abbrev kd(n q:Str)(t:Nat)(l k:Int)(w d:Nat):Obj:=C n q t l k 3 (w.sub 4) true (R (w.sub 2)) (R (w.sub 1)) (R w) d
abbrev ka(n:Str)(t:Nat)(l k:Int)(w:Nat):Obj:=kc n n t l k w
abbrev kb(n:Str)(t:Nat)(l k:Int)(w d:Nat):Obj:=kd n n t l k w d
abbrev D(l:List DictEntry)(k:Nat):Obj:=⟨.type "dict",none, .dict ⟨l⟩ k, #[]⟩
abbrev fr(a b:Nat)(m:Value):Obj:=⟨.type "frame",none,Data.plain, #[some (R a),some (R 3),some (R b),none,some m,none,some (R 0)]⟩
abbrev bf(n:String)(v:Value):Obj:=⟨.type "builtin_function_or_method",none, .fields ⟨[.builtin n,v]⟩, #[]⟩
abbrev m0:=V "basehouse.tellings" 383
abbrev m1:=V "basehouse.sets" 187
abbrev m2:=V "basehouse.houses" 271
abbrev m3:=V "House" 281
abbrev m4:=V "House" 273
abbrev m5:=V "basehouse.pivots" 561
abbrev m6:=V "basehouse.turned" 410
abbrev m7:=V "basehouse.barred" 524
abbrev m8:=V "basehouse.tables" 760
abbrev m9:=V "basehouse.fields" 597
abbrev m10:=V "basehouse.nets" 710
abbrev m11:=V "law_basehouse_k44_whole_tables" 792
abbrev o13:=C1 "<module>" 182 1 0 0 11 false .none .none .none 185
abbrev o14:=fr 13 3 (V "__main__" 164)
abbrev g0(P:Params):List DictEntry:=[E P "__name__" 165 m0]
abbrev g1(P:Params):List DictEntry:=[E P "__doc__" 166 .none,E P "__package__" 167 .none,E P "__loader__" 168 (.builtin "__main__.__loader__#opaque"),E P "__spec__" 169 .none,E P "__annotations__" 170 (R 6),E P "__builtins__" 171 (R 4),E P "__file__" 173 (V "/claim/cut.py" 172),E P "__cached__" 174 .none,E P "holds" 196 (R 21),E P "things" 202 (R 26),E P "size" 209 (R 33),E P "set_of" 218 (R 40),E P "within" 226 (R 47),E P "parts" 232 (R 52),E P "choices" 238 (R 57),E P "spread" 244 (R 62),E P "all_of" 251 (R 69),E P "less" 259 (R 76),E P "exchanged" 270 (R 83),E P "House" 316 (R 114),E P "Even" 350 (R 142),E P "Listed" 382 (R 166)]
abbrev g2:=[I 2]
abbrev g3:=[I 0,R 20,I 4,I 0,R 25,I 6,I 0,R 32,I 8,I 0,R 39,I 13,I 0,R 46,I 15,I 0,R 51,I 20,I 0,R 56,I 22,I 0,R 61,I 24,I 0,R 68,I 26,I 0,R 75,I 29,I 0,R 82,I 32,I 0,R 89,I 42,I 0,R 124,I 50,I 0,R 150]
abbrev o17:=T [V "s" 192,V "thing" 193]
abbrev o19:=f1 "holds" pG
abbrev o20:=kb "holds" 189 2 2 19 194
abbrev o21:=f2 "holds" pG m1 20
abbrev o25:=ka "things" 197 4 1 24
abbrev o26:=f2 "things" l9 m1 25
abbrev o29:=T [V "s" 206]
abbrev o32:=kb "size" 203 6 1 31 207
abbrev o33:=f2 "size" tX m1 32
abbrev o36:=T [V "some" 213,V "s" 214,V "thing" 215]
abbrev o39:=kb "set_of" 210 8 1 38 216
abbrev o40:=f2 "set_of" mf m1 39
abbrev o43:=T [V "s" 222,V "t" 223]
abbrev o46:=kb "within" 219 13 2 45 224
abbrev o47:=f2 "within" l7 m1 46
abbrev o51:=ka "parts" 227 15 1 50
abbrev o52:=f2 "parts" pF m1 51
abbrev o56:=ka "choices" 233 20 2 55
abbrev o57:=f2 "choices" kI m1 56
abbrev o61:=ka "spread" 239 22 2 60
abbrev o62:=f2 "spread" ma m1 61
abbrev o65:=T [V "n" 248]
abbrev o68:=kb "all_of" 245 24 1 67 249
abbrev o69:=f2 "all_of" mj m1 68
abbrev o72:=T [V "s" 255,V "t" 256]
abbrev o75:=kb "less" 252 26 2 74 257
abbrev o76:=f2 "less" tY m1 75
abbrev o79:=T [V "s" 265,V "thing" 266,V "y" 267]
abbrev o82:=kb "exchanged" 262 29 3 81 268
abbrev o83:=f2 "exchanged" i7 (V "basehouse.breaks" 260) 82
abbrev o93:=T [V "self" 288,V "n" 289]
abbrev o96:=kd "__init__" "House.__init__" 285 34 2 95 290
abbrev o97:=fk "__init__" "House.__init__" dS m2 96
abbrev o107:=T [V "self" 304]
abbrev o109:=ff "everything" "House.everything" cX
abbrev o110:=kd "everything" "House.everything" 301 40 1 109 305
abbrev o111:=fk "everything" "House.everything" cX m2 110
abbrev o112:=T [V "many" 308]
abbrev o113(P:Params):=D ([E P "__module__" 280 m2,E P "__firstlineno__" 284 (.int 32 283),E P "__init__" 292 (R 97),E P "rank" 300 (R 104),E P "everything" 307 (R 111),E P "__static_attributes__" 309 (R 112),E P "__dict__" 311 (R 115),E P "__weakref__" 313 (R 116),E P "__doc__" 314 .none]) 4
abbrev o115:Obj:=⟨(.type "getset_descriptor"),none, .fields ⟨[V "__dict__" 310,R 114,(.builtin "function.__dict__"),(.builtin "function.__dict__#set")]⟩, #[]⟩
abbrev o116:Obj:=⟨(.type "getset_descriptor"),none, .fields ⟨[V "__weakref__" 312,R 114,(.builtin "ExceptionGroup.__weakref__"), .none]⟩, #[]⟩
abbrev o117:Obj:=⟨(.type "super"),none, .fields ⟨[R 114,R 114,R 114]⟩, #[]⟩
abbrev o118:=bf "object.__init_subclass__" (R 114)
abbrev o119:=T [R 114]
abbrev o128:=T [V "self" 332,V "n" 333,V "k" 334]
abbrev o131:=kd "__init__" "Even.__init__" 329 44 3 130 335
abbrev o132:=fk "__init__" "Even.__init__" eJ m2 131
abbrev o135:=T [V "self" 341,V "s" 342]
abbrev o138:=kd "rank" "Even.rank" 338 48 2 137 343
abbrev o139:=fk "rank" "Even.rank" jb m2 138
abbrev o140:=T [V "most" 346]
abbrev o141(P:Params):=D ([E P "__module__" 324 m2,E P "__firstlineno__" 328 (.int 42 327),E P "__init__" 337 (R 132),E P "rank" 345 (R 139),E P "__static_attributes__" 347 (R 140),E P "__doc__" 348 .none]) 2
abbrev o142:Obj:=⟨(.type "type"),none,Data.cls {name:=Str.ofString "Even",bases:=[Value.ref 114],mro:=[Value.ref 142,Value.ref 114,Value.type "object"],ns:=141,qualname:=Str.ofString "Even"}, #[some (R 119),none,some (V "Even" 317),some (V "Even" 325),some (.builtin "object.__new__"),some (.bool true)]⟩
abbrev o145:=T [R 114]
abbrev o154:=T [V "self" 366,V "n" 367,V "some" 368]
abbrev o157:=kd "__init__" "Listed.__init__" 363 52 3 156 369
abbrev o158:=fk "__init__" "Listed.__init__" dC m2 157
abbrev o162:=kc "rank" "Listed.rank" 372 56 2 161
abbrev o163:=fk "rank" "Listed.rank" gc m2 162
abbrev o164:=T [V "listed" 378]
abbrev o165(P:Params):=D ([E P "__module__" 358 m2,E P "__firstlineno__" 362 (.int 50 361),E P "__init__" 371 (R 158),E P "rank" 377 (R 163),E P "__static_attributes__" 379 (R 164),E P "__doc__" 380 .none]) 2
abbrev o166:Obj:=⟨(.type "type"),none,Data.cls {name:=Str.ofString "Listed",bases:=[Value.ref 114],mro:=[Value.ref 166,Value.ref 114,Value.type "object"],ns:=165,qualname:=Str.ofString "Listed"}, #[some (R 145),none,some (V "Listed" 351),some (V "Listed" 359),some (.builtin "object.__new__"),some (.bool true)]⟩
abbrev o168:=bf "object.__init_subclass__" (R 166)
abbrev g4(P:Params):List DictEntry:=[E P "__name__" 165 m5]
abbrev g5(P:Params):List DictEntry:=[E P "whole_rank" 391 (R 175),E P "ranks" 397 (R 180),E P "frees" 403 (R 185),E P "bases" 409 (R 190),E P "Other" 447 (R 214),E P "Minor" 486 (R 240),E P "Side" 523 (R 266),E P "TWO_OF_FOUR" 527 (V "two of four" 526),E P "TWO_OF_FIVE" 529 (V "two of five" 528),E P "THREE_OF_FIVE" 531 (V "three of five" 530),E P "SEVEN" 533 (V "seven" 532),E P "OTHER_SEVEN" 535 (V "other seven" 534),E P "is_even" 541 (R 273),E P "holders" 547 (R 278),E P "is_seven" 553 (R 283),E P "kind_of" 560 (R 290),E P "rests" 568 (R 295),E P "pivot_place" 578 (R 302)]
abbrev g6:=[I 59,I 0,R 174,I 61,I 0,R 179,I 63,I 0,R 184,I 65,I 0,R 189,I 69,I 0,R 196,I 80,I 0,R 222,I 92,I 0,R 248,I 109,I 0,R 272,I 113,I 0,R 277,I 115,I 0,R 282,I 121,I 0,R 289,I 134,I 0,R 294,I 138,I 0,R 301]
abbrev o171:=T [V "house" 388]
abbrev o174:=kb "whole_rank" 385 59 1 173 389
abbrev o175:=f2 "whole_rank" gO m0 174
abbrev o179:=ka "ranks" 392 61 1 178
abbrev o180:=f2 "ranks" pE m0 179
abbrev o184:=ka "frees" 398 63 1 183
abbrev o185:=f2 "frees" pH m0 184
abbrev o189:=ka "bases" 404 65 1 188
abbrev o190:=f2 "bases" pI m0 189
abbrev o191:=T [R 114]
abbrev o200:=T [V "self" 427,V "house" 428]
abbrev o203:=kd "__init__" "Other.__init__" 424 71 2 202 429
abbrev o204:=fk "__init__" "Other.__init__" dP m6 203
abbrev o207:=T [V "self" 435,V "s" 436,V "outside" 437]
abbrev o210:=kd "rank" "Other.rank" 432 77 2 209 438
abbrev o211:=fk "rank" "Other.rank" hU m6 210
abbrev o212:=T [V "full" 441,V "full_rank" 442,V "house" 443]
abbrev o213(P:Params):=D ([E P "__module__" 419 m6,E P "__firstlineno__" 423 (.int 69 422),E P "__init__" 431 (R 204),E P "rank" 440 (R 211),E P "__static_attributes__" 444 (R 212),E P "__doc__" 445 .none]) 2
abbrev o214:Obj:=⟨(.type "type"),none,Data.cls {name:=Str.ofString "Other",bases:=[Value.ref 114],mro:=[Value.ref 214,Value.ref 114,Value.type "object"],ns:=213,qualname:=Str.ofString "Other"}, #[some (R 191),none,some (V "Other" 412),some (V "Other" 420),some (.builtin "object.__new__"),some (.bool true)]⟩
abbrev o217:=T [R 114]
abbrev o226:=T [V "self" 463,V "house" 464,V "out" 465,V "drawn" 466,V "kept" 467]
abbrev o229:=kd "__init__" "Minor.__init__" 460 82 4 228 468
abbrev o230:=fk "__init__" "Minor.__init__" dQ m6 229
abbrev o233:=T [V "self" 474,V "s" 475]
abbrev o236:=kd "rank" "Minor.rank" 471 90 2 235 476
abbrev o237:=fk "rank" "Minor.rank" ia m6 236
abbrev o238:=T [V "drawn" 479,V "drawn_rank" 480,V "house" 481,V "kept" 482]
abbrev o239(P:Params):=D ([E P "__module__" 455 m6,E P "__firstlineno__" 459 (.int 80 458),E P "__init__" 470 (R 230),E P "rank" 478 (R 237),E P "__static_attributes__" 483 (R 238),E P "__doc__" 484 .none]) 2
abbrev o240:Obj:=⟨(.type "type"),none,Data.cls {name:=Str.ofString "Minor",bases:=[Value.ref 114],mro:=[Value.ref 240,Value.ref 114,Value.type "object"],ns:=239,qualname:=Str.ofString "Minor"}, #[some (R 217),none,some (V "Minor" 448),some (V "Minor" 456),some (.builtin "object.__new__"),some (.bool true)]⟩
abbrev o243:=T [R 114]
abbrev o252:=T [V "self" 502,V "one" 503,V "other" 504]
abbrev o255:=kd "__init__" "Side.__init__" 499 94 3 254 505
abbrev o256:=fk "__init__" "Side.__init__" eI m6 255
abbrev o259:=T [V "self" 511,V "s" 512]
abbrev o262:=kd "rank" "Side.rank" 508 101 2 261 513
abbrev o263:=fk "rank" "Side.rank" ja m6 262
abbrev o264:=T [V "first" 516,V "first_full" 517,V "first_many" 518,V "second" 519]
abbrev o265(P:Params):=D ([E P "__module__" 494 m6,E P "__firstlineno__" 498 (.int 92 497),E P "__init__" 507 (R 256),E P "rank" 515 (R 263),E P "__static_attributes__" 520 (R 264),E P "__doc__" 521 .none]) 2
abbrev o266:Obj:=⟨(.type "type"),none,Data.cls {name:=Str.ofString "Side",bases:=[Value.ref 114],mro:=[Value.ref 266,Value.ref 114,Value.type "object"],ns:=265,qualname:=Str.ofString "Side"}, #[some (R 243),none,some (V "Side" 487),some (V "Side" 495),some (.builtin "object.__new__"),some (.bool true)]⟩
abbrev o272:=ka "is_even" 536 109 3 271
abbrev o273:=f2 "is_even" kE m7 272
abbrev o277:=ka "holders" 542 113 2 276
abbrev o278:=f2 "holders" kF m7 277
abbrev o282:=ka "is_seven" 548 115 1 281
abbrev o283:=f2 "is_seven" jF m7 282
abbrev o286:=T [V "house" 557]
abbrev o289:=kb "kind_of" 554 121 1 288 558
abbrev o290:=f2 "kind_of" kD m7 289
abbrev o294:=ka "rests" 563 134 2 293
abbrev o295:=f2 "rests" pD m5 294
abbrev o298:=T [V "rows" 572,V "column" 573,V "place" 574,V "row" 575]
abbrev o300:=f1 "pivot_place" fZ
abbrev o301:=kb "pivot_place" 569 138 2 300 576
abbrev o302:=f2 "pivot_place" fZ m5 301
abbrev g7(P:Params):List DictEntry:=[E P "__name__" 165 m8]
abbrev g8(P:Params):List DictEntry:=[E P "cleared" 584 (R 307),E P "all_cleared" 590 (R 312),E P "rank_of" 596 (R 317),E P "Known" 631 (R 341),E P "columns_with" 637 (R 348),E P "fits" 643 (R 353),E P "column_for" 649 (R 358),E P "single" 655 (R 363),E P "table_for" 661 (R 368),E P "left_barred" 675 (R 375),E P "told_over" 688 (R 382),E P "over_two" 695 (R 389),E P "over_three" 703 (R 396),E P "over_all" 709 (R 401),E P "tied" 717 (R 406),E P "Net" 759 (R 435)]
abbrev g9:=[I 143,I 0,R 306,I 147,I 0,R 311,I 151,I 0,R 316,I 167,I 0,R 323,I 175,I 0,R 347,I 184,I 0,R 352,I 191,I 0,R 357,I 198,I 0,R 362,I 200,I 0,R 367,I 212,I 0,R 374,I 220,I 0,R 381,I 230,I 0,R 388,I 232,I 0,R 395,I 235,I 0,R 400,I 244,I 0,R 405,I 248,I 0,R 412]
abbrev o306:=ka "cleared" 579 143 4 305
abbrev o307:=f2 "cleared" kG m5 306
abbrev o311:=ka "all_cleared" 585 147 4 310
abbrev o312:=f2 "all_cleared" f7 m5 311
abbrev o316:=ka "rank_of" 591 151 2 315
abbrev o317:=f2 "rank_of" kC m5 316
abbrev o318:=T [R 114]
abbrev o327:=T [V "self" 614,V "house" 615]
abbrev o330:=kd "__init__" "Known.__init__" 611 169 2 329 616
abbrev o331:=fk "__init__" "Known.__init__" dR m9 330
abbrev o334:=T [V "self" 622,V "s" 623]
abbrev o337:=kd "rank" "Known.rank" 619 173 2 336 624
abbrev o338:=fk "rank" "Known.rank" ic m9 337
abbrev o339:=T [V "told" 627]
abbrev o340(P:Params):=D ([E P "__module__" 606 m9,E P "__firstlineno__" 610 (.int 167 609),E P "__init__" 618 (R 331),E P "rank" 626 (R 338),E P "__static_attributes__" 628 (R 339),E P "__doc__" 629 .none]) 2
abbrev o341:Obj:=⟨(.type "type"),none,Data.cls {name:=Str.ofString "Known",bases:=[Value.ref 114],mro:=[Value.ref 341,Value.ref 114,Value.type "object"],ns:=340,qualname:=Str.ofString "Known"}, #[some (R 318),none,some (V "Known" 599),some (V "Known" 607),some (.builtin "object.__new__"),some (.bool true)]⟩
abbrev o347:=ka "columns_with" 632 175 2 346
abbrev o348:=f2 "columns_with" fw m9 347
abbrev o352:=ka "fits" 638 184 5 351
abbrev o353:=f2 "fits" tZ m9 352
abbrev o357:=ka "column_for" 644 191 5 356
abbrev o358:=f2 "column_for" gQ m9 357
abbrev o362:=ka "single" 650 198 2 361
abbrev o363:=f2 "single" md m9 362
abbrev o367:=ka "table_for" 656 200 2 366
abbrev o368:=f2 "table_for" i6 m9 367
abbrev o371:=T [V "house" 665,V "kind" 666,V "many" 667,V "rank" 668,V "kept" 669,V "rest" 670,V "drawn" 671,V "out" 672]
abbrev o374:=kb "left_barred" 662 212 4 373 673
abbrev o375:=f2 "left_barred" f6 m9 374
abbrev o378:=T [V "house" 679,V "prime" 680,V "kinds" 681,V "known" 682,V "rows" 683,V "kind" 684,V "found" 685]
abbrev o381:=kb "told_over" 676 220 3 380 686
abbrev o382:=f2 "told_over" i5 m9 381
abbrev o385:=T [V "house" 692]
abbrev o388:=kb "over_two" 689 230 1 387 693
abbrev o389:=f2 "over_two" jD m9 388
abbrev o392:=T [V "house" 699,V "kinds" 700]
abbrev o395:=kb "over_three" 696 232 1 394 701
abbrev o396:=f2 "over_three" gP m9 395
abbrev o400:=ka "over_all" 704 235 1 399
abbrev o401:=f2 "over_all" jE m9 400
abbrev o405:=ka "tied" 712 244 2 404
abbrev o406:=f2 "tied" tW m10 405
abbrev o407:=T [R 114]
abbrev o417:=kc "__init__" "Net.__init__" 730 250 4 416
abbrev o418:=fk "__init__" "Net.__init__" fA m10 417
abbrev o421:=T [V "self" 739,V "s" 740,V "marks" 741,V "thing" 742]
abbrev o424:=kd "pieces" "Net.pieces" 736 255 2 423 743
abbrev o425:=fk "pieces" "Net.pieces" h9 m10 424
abbrev o428:=T [V "self" 749,V "s" 750]
abbrev o431:=kd "rank" "Net.rank" 746 261 2 430 751
abbrev o432:=fk "rank" "Net.rank" jI m10 431
abbrev o433:=T [V "points" 754,V "ties" 755]
abbrev o434(P:Params):=D ([E P "__module__" 725 m10,E P "__firstlineno__" 729 (.int 248 728),E P "__init__" 735 (R 418),E P "pieces" 745 (R 425),E P "rank" 753 (R 432),E P "__static_attributes__" 756 (R 433),E P "__doc__" 757 .none]) 2
abbrev o435:Obj:=⟨(.type "type"),none,Data.cls {name:=Str.ofString "Net",bases:=[Value.ref 114],mro:=[Value.ref 435,Value.ref 114,Value.type "object"],ns:=434,qualname:=Str.ofString "Net"}, #[some (R 407),none,some (V "Net" 718),some (V "Net" 726),some (.builtin "object.__new__"),some (.bool true)]⟩
abbrev o436:Obj:=⟨(.type "super"),none, .fields ⟨[R 435,R 435,R 435]⟩, #[]⟩
abbrev o437:=bf "object.__init_subclass__" (R 435)
abbrev g10(P:Params):List DictEntry:=[E P "__name__" 165 m11]
abbrev g11(P:Params):List DictEntry:=[E P "Tabled" 791 (R 457),E P "_law_whole" 800 (R 466),E P "_law_size" 808 (R 473),E P "_law_far" 814 (R 478),E P "_law_net" 826 (R 485),E P "_law_table" 840 (R 492),E P "_law_signs" 854 (R 499),E P "_law_house" 864 (R 506),E P "_law_minor" 870 (R 511),E P "_law_seven" 876 (R 516),E P "_law_kind" 882 (R 521),E P "_law_determinant" 895 (R 528),E P "_law_numbers" 907 (R 535),E P "_law_table_right" 913 (R 540),E P "_law_kinds" 920 (R 547),E P "_law_asked" 928 (R 554),E P "_law_tells" 940 (R 561),E P "law" 959 (R 568)]
abbrev o3v4(P:Params):=D ((g10 P).append ((g1 P).append ((g5 P).append ((g8 P).append (g11 P))))) 75
abbrev g12:=[I 264,I 0,R 443,I 275,I 0,R 465,I 277,I 0,R 472,I 283,I 0,R 477,I 293,I 0,R 484,I 300,I 0,R 491,I 309,I 0,R 498,I 318,I 0,R 505,I 329,I 0,R 510,I 339,I 0,R 515,I 348,I 0,R 520,I 361,I 0,R 527,I 373,I 0,R 534,I 385,I 0,R 539,I 404,I 0,R 546,I 410,I 0,R 553,I 416,I 0,R 560,I 436,I 0,R 567]
abbrev o114v3:Obj:=⟨(.type "type"),none,Data.cls {name:=Str.ofString "House",bases:=[Value.type "object"],mro:=[Value.ref 114,Value.type "object"],ns:=113,qualname:=Str.ofString "House",subclasses:=[Value.ref 142,Value.ref 166,Value.ref 214,Value.ref 240,Value.ref 266,Value.ref 341,Value.ref 435,Value.ref 457]}, #[none,none,some m4,some m3,some (.builtin "object.__new__"),some (.bool true)]⟩
abbrev o438:=T [R 114]
abbrev o448:=kc "__init__" "Tabled.__init__" 774 266 4 447
abbrev o449:=fk "__init__" "Tabled.__init__" dB m8 448
abbrev o453:=kc "rank" "Tabled.rank" 780 271 2 452
abbrev o454:=fk "rank" "Tabled.rank" f9 m8 453
abbrev o455:=T [V "prime" 786,V "rows" 787]
abbrev o456(P:Params):=D ([E P "__module__" 769 m8,E P "__firstlineno__" 773 (.int 264 772),E P "__init__" 779 (R 449),E P "rank" 785 (R 454),E P "__static_attributes__" 788 (R 455),E P "__doc__" 789 .none]) 2
abbrev o457:Obj:=⟨(.type "type"),none,Data.cls {name:=Str.ofString "Tabled",bases:=[Value.ref 114],mro:=[Value.ref 457,Value.ref 114,Value.type "object"],ns:=456,qualname:=Str.ofString "Tabled"}, #[some (R 438),none,some (V "Tabled" 762),some (V "Tabled" 770),some (.builtin "object.__new__"),some (.bool true)]⟩
abbrev o462:=T [V "_law_found" 797]
abbrev o465:=kb "_law_whole" 794 275 1 464 798
abbrev o466:=f2 "_law_whole" gR m11 465
abbrev o469:=T [V "_law_s" 804,V "_law_many" 805]
abbrev o472:=kb "_law_size" 801 277 1 471 806
abbrev o473:=f2 "_law_size" i8 m11 472
abbrev o477:=ka "_law_far" 809 283 3 476
abbrev o478:=f2 "_law_far" jH m11 477
abbrev o481:=T [V "_law_cells" 818,V "_law_many" 819,V "_law_points" 820,V "_law_ties" 821,V "_law_k" 822,V "_law_mixed" 823]
abbrev o484:=kb "_law_net" 815 293 2 483 824
abbrev o485:=f2 "_law_net" jG m11 484
abbrev o488:=T [V "_law_cells" 830,V "_law_many" 831,V "_law_prime" 832,V "_law_rows" 833,V "_law_j" 834,V "_law_row" 835,V "_law_k" 836,V "_law_cell" 837]
abbrev o491:=kb "_law_table" 827 300 3 490 838
abbrev o492:=f2 "_law_table" gT m11 491
abbrev o495:=T [V "_law_cells" 844,V "_law_many" 845,V "_law_prime" 846,V "_law_rows" 847,V "_law_j" 848,V "_law_row" 849,V "_law_k" 850,V "_law_cell" 851]
abbrev o498:=kb "_law_signs" 841 309 3 497 852
abbrev o499:=f2 "_law_signs" gU m11 498
abbrev o502:=T [V "_law_cells" 858,V "_law_many" 859,V "_law_way" 860,V "_law_rank" 861]
abbrev o505:=kb "_law_house" 855 318 3 504 862
abbrev o506:=f2 "_law_house" gY m11 505
abbrev o510:=ka "_law_minor" 865 329 4 509
abbrev o511:=f2 "_law_minor" gW m11 510
abbrev o515:=ka "_law_seven" 871 339 1 514
abbrev o516:=f2 "_law_seven" gV m11 515
abbrev o520:=ka "_law_kind" 877 348 1 519
abbrev o521:=f2 "_law_kind" i9 m11 520
abbrev o524:=T [V "_law_rows" 886,V "_law_told" 887,V "_law_s" 888,V "_law_row" 889,V "_law_total" 890,V "_law_turn" 891,V "_law_k" 892]
abbrev o527:=kb "_law_determinant" 883 361 1 526 893
abbrev o528:=f2 "_law_determinant" cW m11 527
abbrev o531:=T [V "_law_row" 899,V "_law_many" 900,V "_law_word" 901,V "_law_low" 902,V "_law_high" 903,V "_law_number" 904]
abbrev o534:=kb "_law_numbers" 896 373 3 533 905
abbrev o535:=f2 "_law_numbers" fz m11 534
abbrev o539:=ka "_law_table_right" 908 385 4 538
abbrev o540:=f2 "_law_table_right" cV m11 539
abbrev o543:=T [V "_law_word" 917]
abbrev o546:=kb "_law_kinds" 914 404 1 545 918
abbrev o547:=f2 "_law_kinds" gX m11 546
abbrev o550:=T [V "_law_word" 924,V "_law_house_here" 925]
abbrev o553:=kb "_law_asked" 921 410 2 552 926
abbrev o554:=f2 "_law_asked" gZ m11 553
abbrev o557:=T [V "_law_word" 932,V "_law_house_here" 933,V "_law_found" 934,V "_law_out" 935,V "_law_drawn" 936,V "_law_kind_here" 937]
abbrev o560:=kb "_law_tells" 929 416 2 559 938
abbrev o561:=f2 "_law_tells" gS m11 560
abbrev o564:=T [V "_law_script" 944,V "_law_cells" 945,V "_law_many" 946,V "_law_way" 947,V "_law_house_here" 948,V "_law_turn" 949,V "_law_out" 950,V "_law_drawn" 951,V "_law_due" 952,V "_law_thing" 953,V "_law_beside" 954,V "_law_at" 955,V "_law_word" 956]
abbrev o567:=kb "law" 941 436 1 566 957
abbrev o568:=f2 "law" eF m11 567
abbrev ub(x:Obj)(P:Params):List Obj:=[boot_o_0 P,boot_o_1 P,boot_o_2 P,x,boot_o_4 P,boot_o_5 P,boot_o_6 P,boot_o_7 P,boot_o_8 P,boot_o_9 P,boot_o_10 P,Y]
abbrev u0(P:Params):=ub (boot_o_3 P) P
abbrev u1(P:Params):=[Z,o13,o14]
abbrev u2(P:Params):=ub (D ((g0 P).append (g1 P)) 23) P
abbrev u3(P:Params):=[W (g2.append g3),o13,o14,Y,Z,o17,Y,o19,o20,o21,Y,Z]
abbrev u4(P:Params):=[f1 "things" l9,o25,o26,Y,Z,o29,Y,f1 "size" tX,o32,o33,Y,Z]
abbrev u5(P:Params):=[o36,Y,f1 "set_of" mf,o39,o40,Y,Z,o43,Y,f1 "within" l7,o46,o47]
abbrev u6(P:Params):=[Y,Z,f1 "parts" pF,o51,o52,Y,Z,f1 "choices" kI,o56,o57,Y,Z]
abbrev u7(P:Params):=[f1 "spread" ma,o61,o62,Y,Z,o65,Y,f1 "all_of" mj,o68,o69,Y,Z]
abbrev u8(P:Params):=[o72,Y,f1 "less" tY,o75,o76,Y,Z,o79,Y,f1 "exchanged" i7,o82,o83]
abbrev u9(P:Params):=[Y,bf "type.__prepare__" (.type "type"),D ([E P "__module__" 280 m2,E P "__qualname__" 282 m3,E P "__firstlineno__" 284 (.int 32 283),E P "__init__" 292 (R 97),E P "rank" 300 (R 104),E P "everything" 307 (R 111),E P "__static_attributes__" 309 (R 112)]) 7,Y,W [I 34,I 4,R 96,I 37,I 4,R 103,I 40,I 4,R 110],C1 "House" 275 32 0 0 87 false .none .none .none 278,fr 89 86 m2,Y,Z,o93,Y,ff "__init__" "House.__init__" dS]
abbrev u10(P:Params):=[o96,o97,Y,Z,T [V "self" 296,V "s" 297],Y,ff "rank" "House.rank" pJ,kd "rank" "House.rank" 293 37 2 102 298,fk "rank" "House.rank" pJ m2 103,Y,Z,o107]
abbrev u11(P:Params):=[Y,o109,o110,o111,o112,o113 P,⟨(.type "type"),none,Data.cls {name:=Str.ofString "House",bases:=[Value.type "object"],mro:=[Value.ref 114,Value.type "object"],ns:=113,qualname:=Str.ofString "House",subclasses:=[Value.ref 142,Value.ref 166]}, #[none,none,some m4,some m3,some (.builtin "object.__new__"),some (.bool true)]⟩,o115,o116,o117,o118,o119]
abbrev u12(P:Params):=[bf "type.__prepare__" (.type "type"),D ([E P "__module__" 324 m2,E P "__qualname__" 326 (V "Even" 325),E P "__firstlineno__" 328 (.int 42 327),E P "__init__" 337 (R 132),E P "rank" 345 (R 139),E P "__static_attributes__" 347 (R 140)]) 6,Y,W [I 44,I 4,R 131,I 48,I 4,R 138],C1 "Even" 319 42 0 0 122 false .none .none .none 322,fr 124 121 m2,Y,Z,o128,Y,ff "__init__" "Even.__init__" eJ,o131]
abbrev u13(P:Params):=[o132,Y,Z,o135,Y,ff "rank" "Even.rank" jb,o138,o139,o140,o141 P,o142,⟨(.type "super"),none, .fields ⟨[R 142,R 142,R 142]⟩, #[]⟩]
abbrev u14(P:Params):=[bf "object.__init_subclass__" (R 142),o145,bf "type.__prepare__" (.type "type"),D ([E P "__module__" 358 m2,E P "__qualname__" 360 (V "Listed" 359),E P "__firstlineno__" 362 (.int 50 361),E P "__init__" 371 (R 158),E P "rank" 377 (R 163),E P "__static_attributes__" 379 (R 164)]) 6,Y,W [I 52,I 4,R 157,I 56,I 4,R 162],C1 "Listed" 353 50 0 0 148 false .none .none .none 356,fr 150 147 m2,Y,Z,o154,Y]
abbrev u15(P:Params):=[ff "__init__" "Listed.__init__" dC,o157,o158,Y,Z,ff "rank" "Listed.rank" gc,o162,o163,o164,o165 P,o166,⟨(.type "super"),none, .fields ⟨[R 166,R 166,R 166]⟩, #[]⟩]
abbrev u16(P:Params):=[o168]
abbrev u17(P:Params):=ub (D ((g4 P).append ((g1 P).append (g5 P))) 41) P
abbrev u18(P:Params):=[W (g2.append (g3.append g6)),o13,o14,Y,Z,o17,Y,o19,o20,o21,Y,Z]
abbrev u19(P:Params):=[Y,o109,o110,o111,o112,o113 P,⟨(.type "type"),none,Data.cls {name:=Str.ofString "House",bases:=[Value.type "object"],mro:=[Value.ref 114,Value.type "object"],ns:=113,qualname:=Str.ofString "House",subclasses:=[Value.ref 142,Value.ref 166,Value.ref 214,Value.ref 240,Value.ref 266]}, #[none,none,some m4,some m3,some (.builtin "object.__new__"),some (.bool true)]⟩,o115,o116,o117,o118,o119]
abbrev u20(P:Params):=[o168,Y,Z,o171,Y,f1 "whole_rank" gO,o174,o175,Y,Z,f1 "ranks" pE,o179]
abbrev u21(P:Params):=[o180,Y,Z,f1 "frees" pH,o184,o185,Y,Z,f1 "bases" pI,o189,o190,o191]
abbrev u22(P:Params):=[bf "type.__prepare__" (.type "type"),D ([E P "__module__" 419 m6,E P "__qualname__" 421 (V "Other" 420),E P "__firstlineno__" 423 (.int 69 422),E P "__init__" 431 (R 204),E P "rank" 440 (R 211),E P "__static_attributes__" 444 (R 212)]) 6,Y,W [I 71,I 4,R 203,I 77,I 4,R 210],C1 "Other" 414 69 0 0 194 false .none .none .none 417,fr 196 193 m6,Y,Z,o200,Y,ff "__init__" "Other.__init__" dP,o203]
abbrev u23(P:Params):=[o204,Y,Z,o207,Y,ff "rank" "Other.rank" hU,o210,o211,o212,o213 P,o214,⟨(.type "super"),none, .fields ⟨[R 214,R 214,R 214]⟩, #[]⟩]
abbrev u24(P:Params):=[bf "object.__init_subclass__" (R 214),o217,bf "type.__prepare__" (.type "type"),D ([E P "__module__" 455 m6,E P "__qualname__" 457 (V "Minor" 456),E P "__firstlineno__" 459 (.int 80 458),E P "__init__" 470 (R 230),E P "rank" 478 (R 237),E P "__static_attributes__" 483 (R 238)]) 6,Y,W [I 82,I 4,R 229,I 90,I 4,R 236],C1 "Minor" 450 80 0 0 220 false .none .none .none 453,fr 222 219 m6,Y,Z,o226,Y]
abbrev u25(P:Params):=[ff "__init__" "Minor.__init__" dQ,o229,o230,Y,Z,o233,Y,ff "rank" "Minor.rank" ia,o236,o237,o238,o239 P]
abbrev u26(P:Params):=[o240,⟨(.type "super"),none, .fields ⟨[R 240,R 240,R 240]⟩, #[]⟩,bf "object.__init_subclass__" (R 240),o243,bf "type.__prepare__" (.type "type"),D ([E P "__module__" 494 m6,E P "__qualname__" 496 (V "Side" 495),E P "__firstlineno__" 498 (.int 92 497),E P "__init__" 507 (R 256),E P "rank" 515 (R 263),E P "__static_attributes__" 520 (R 264)]) 6,Y,W [I 94,I 4,R 255,I 101,I 4,R 262],C1 "Side" 489 92 0 0 246 false .none .none .none 492,fr 248 245 m6,Y,Z]
abbrev u27(P:Params):=[o252,Y,ff "__init__" "Side.__init__" eI,o255,o256,Y,Z,o259,Y,ff "rank" "Side.rank" ja,o262,o263]
abbrev u28(P:Params):=[o264,o265 P,o266,⟨(.type "super"),none, .fields ⟨[R 266,R 266,R 266]⟩, #[]⟩,bf "object.__init_subclass__" (R 266),Y,Z,f1 "is_even" kE,o272,o273,Y,Z]
abbrev u29(P:Params):=[f1 "holders" kF,o277,o278,Y,Z,f1 "is_seven" jF,o282,o283,Y,Z,o286,Y]
abbrev u30(P:Params):=[f1 "kind_of" kD,o289,o290,Y,Z,f1 "rests" pD,o294,o295,Y,Z,o298,Y]
abbrev u31(P:Params):=[o300,o301,o302]
abbrev u32(P:Params):=ub (D ((g7 P).append ((g1 P).append ((g5 P).append (g8 P)))) 57) P
abbrev u33(P:Params):=[W (g2.append (g3.append (g6.append g9))),o13,o14,Y,Z,o17,Y,o19,o20,o21,Y,Z]
abbrev u34(P:Params):=[Y,o109,o110,o111,o112,o113 P,⟨(.type "type"),none,Data.cls {name:=Str.ofString "House",bases:=[Value.type "object"],mro:=[Value.ref 114,Value.type "object"],ns:=113,qualname:=Str.ofString "House",subclasses:=[Value.ref 142,Value.ref 166,Value.ref 214,Value.ref 240,Value.ref 266,Value.ref 341,Value.ref 435]}, #[none,none,some m4,some m3,some (.builtin "object.__new__"),some (.bool true)]⟩,o115,o116,o117,o118,o119]
abbrev u35(P:Params):=[o300,o301,o302,Y,Z,f1 "cleared" kG,o306,o307,Y,Z,f1 "all_cleared" f7,o311]
abbrev u36(P:Params):=[o312,Y,Z,f1 "rank_of" kC,o316,o317,o318,bf "type.__prepare__" (.type "type"),D ([E P "__module__" 606 m9,E P "__qualname__" 608 (V "Known" 607),E P "__firstlineno__" 610 (.int 167 609),E P "__init__" 618 (R 331),E P "rank" 626 (R 338),E P "__static_attributes__" 628 (R 339)]) 6,Y,W [I 169,I 4,R 330,I 173,I 4,R 337],C1 "Known" 601 167 0 0 321 false .none .none .none 604]
abbrev u37(P:Params):=[fr 323 320 m9,Y,Z,o327,Y,ff "__init__" "Known.__init__" dR,o330,o331,Y,Z,o334,Y]
abbrev u38(P:Params):=[ff "rank" "Known.rank" ic,o337,o338,o339,o340 P,o341,⟨(.type "super"),none, .fields ⟨[R 341,R 341,R 341]⟩, #[]⟩,bf "object.__init_subclass__" (R 341),Y,Z,f1 "columns_with" fw,o347]
abbrev u39(P:Params):=[o348,Y,Z,f1 "fits" tZ,o352,o353,Y,Z,f1 "column_for" gQ,o357,o358,Y]
abbrev u40(P:Params):=[Z,f1 "single" md,o362,o363,Y,Z,f1 "table_for" i6,o367,o368,Y,Z,o371]
abbrev u41(P:Params):=[Y,f1 "left_barred" f6,o374,o375,Y,Z,o378,Y,f1 "told_over" i5,o381,o382,Y]
abbrev u42(P:Params):=[Z,o385,Y,f1 "over_two" jD,o388,o389,Y,Z,o392,Y,f1 "over_three" gP,o395]
abbrev u43(P:Params):=[o396,Y,Z,f1 "over_all" jE,o400,o401,Y,Z,f1 "tied" tW,o405,o406,o407]
abbrev u44(P:Params):=[bf "type.__prepare__" (.type "type"),D ([E P "__module__" 725 m10,E P "__qualname__" 727 (V "Net" 726),E P "__firstlineno__" 729 (.int 248 728),E P "__init__" 735 (R 418),E P "pieces" 745 (R 425),E P "rank" 753 (R 432),E P "__static_attributes__" 756 (R 433)]) 7,Y,W [I 250,I 4,R 417,I 255,I 4,R 424,I 261,I 4,R 431],C1 "Net" 720 248 0 0 410 false .none .none .none 723,fr 412 409 m10,Y,Z,ff "__init__" "Net.__init__" fA,o417,o418,Y]
abbrev u45(P:Params):=[Z,o421,Y,ff "pieces" "Net.pieces" h9,o424,o425,Y,Z,o428,Y,ff "rank" "Net.rank" jI,o431]
abbrev u46(P:Params):=[o432,o433,o434 P,o435,o436,o437]
abbrev u47(P:Params):=ub (o3v4 P) P
abbrev u48(P:Params):=[W (g2.append (g3.append (g6.append (g9.append g12)))),o13,o14,Y,Z,o17,Y,o19,o20,o21,Y,Z]
abbrev u49(P:Params):=[Y,o109,o110,o111,o112,o113 P,o114v3,o115,o116,o117,o118,o119]
abbrev u50(P:Params):=[o432,o433,o434 P,o435,o436,o437,o438,bf "type.__prepare__" (.type "type"),D ([E P "__module__" 769 m8,E P "__qualname__" 771 (V "Tabled" 770),E P "__firstlineno__" 773 (.int 264 772),E P "__init__" 779 (R 449),E P "rank" 785 (R 454),E P "__static_attributes__" 788 (R 455)]) 6,Y,W [I 266,I 4,R 448,I 271,I 4,R 453],C1 "Tabled" 764 264 0 0 441 false .none .none .none 767]
abbrev u51(P:Params):=[fr 443 440 m8,Y,Z,ff "__init__" "Tabled.__init__" dB,o448,o449,Y,Z,ff "rank" "Tabled.rank" f9,o453,o454,o455]
abbrev u52(P:Params):=[o456 P,o457,⟨(.type "super"),none, .fields ⟨[R 457,R 457,R 457]⟩, #[]⟩,bf "object.__init_subclass__" (R 457),Y,Z,o462,Y,f1 "_law_whole" gR,o465,o466,Y]
abbrev u53(P:Params):=[Z,o469,Y,f1 "_law_size" i8,o472,o473,Y,Z,f1 "_law_far" jH,o477,o478,Y]
abbrev u54(P:Params):=[Z,o481,Y,f1 "_law_net" jG,o484,o485,Y,Z,o488,Y,f1 "_law_table" gT,o491]
abbrev u55(P:Params):=[o492,Y,Z,o495,Y,f1 "_law_signs" gU,o498,o499,Y,Z,o502,Y]
abbrev u56(P:Params):=[f1 "_law_house" gY,o505,o506,Y,Z,f1 "_law_minor" gW,o510,o511,Y,Z,f1 "_law_seven" gV,o515]
abbrev u57(P:Params):=[o516,Y,Z,f1 "_law_kind" i9,o520,o521,Y,Z,o524,Y,f1 "_law_determinant" cW,o527]
abbrev u58(P:Params):=[o528,Y,Z,o531,Y,f1 "_law_numbers" fz,o534,o535,Y,Z,f1 "_law_table_right" cV,o539]
abbrev u59(P:Params):=[o540,Y,Z,o543,Y,f1 "_law_kinds" gX,o546,o547,Y,Z,o550,Y]
abbrev u60(P:Params):=[f1 "_law_asked" gZ,o553,o554,Y,Z,o557,Y,f1 "_law_tells" gS,o560,o561,Y,Z]
abbrev u61(P:Params):=[o564,Y,f1 "law" eF,o567,o568]
theorem yu0:([u0,u1,u2,u3,u4,u5,u6,u7,u8,u9,u10,u11,u12,u13,u14,u15,u16,u17,u18,u19,u20,u21,u22,u23,u24,u25,u26,u27,u28,u29]:List (Params->List Obj)).all (λ_=>true)=true:=by k_qdec
theorem yu30:([u30,u31,u32,u33,u34,u35,u36,u37,u38,u39,u40,u41,u42,u43,u44,u45,u46,u47,u48,u49,u50,u51,u52,u53,u54,u55,u56,u57,u58,u59]:List (Params->List Obj)).all (λ_=>true)=true:=by k_qdec
theorem yu60:([u60,u61]:List (Params->List Obj)).all (λ_=>true)=true:=by k_qdec
abbrev spl(l:List Obj):List Obj×List Obj:= @List.rec Obj (λ_=>List Obj×List Obj) ([],[]) (λx _ ih=>(x::ih.2,ih.1)) l
abbrev mkT(n:Nat):List Obj->BT:= @Nat.rec (λ_=>List Obj->BT) (λ_=> .nil) (λ_ ih l=> @List.rec Obj (λ_=>BT) .nil (λx r _=> .node x (ih (spl r).1) (ih (spl r).2)) l) n
theorem qh{α:Sort u}{a b c d:α}(h:a=b)(k:d=c)(e:b=c):a=d:=h.trans (e.trans k.symm)
abbrev l0(P:Params):=(tw13894225608423057668 P).append (tw17531079430653816501 P)
abbrev p0(P:Params):=(tw1912701158020654693 P).append ((tw2188347355606102534 P).append ((tw16368670287772101220 P).append ((tw14842115654739255404 P).append ((tw4717311838995323452 P).append ((tw594758545415977400 P).append ((tw10895325593200808953 P).append ((tw10037743213843438893 P).append ((tw10009084784789568687 P).append ((tw5084553986333570498 P).append ((tw16641277437810104112 P).append (tw11875653558476324687 P)))))))))))
abbrev l2(P:Params):=(tw13809737476558091540 P).append ((tw2367299412457286945 P).append ((p0 P).append (tw1672153094372761355 P)))
abbrev p1(P:Params):=(tw1912701158020654693 P).append ((tw2188347355606102534 P).append ((tw16368670287772101220 P).append ((tw14842115654739255404 P).append ((tw4717311838995323452 P).append ((tw594758545415977400 P).append ((tw10895325593200808953 P).append ((tw2560371371167247513 P).append ((tw10009084784789568687 P).append ((tw5084553986333570498 P).append ((tw16641277437810104112 P).append ((tw11875653558476324687 P).append ((tw13463505119322665063 P).append ((tw18077194039007663117 P).append ((tw17755462387555777923 P).append ((tw6492967895434240573 P).append ((tw537001028611820367 P).append ((tw9833210585337712870 P).append ((tw12708430989920435073 P).append ((tw3132545959879029114 P).append ((tw15893686080707579532 P).append ((tw12419440788177488941 P).append (tw13144694907161067814 P))))))))))))))))))))))
abbrev l3(P:Params):=(tw4580522010931877059 P).append ((tw15163288008780518816 P).append ((p1 P).append (tw9051403873925241803 P)))
abbrev p2(P:Params):=(tw1912701158020654693 P).append ((tw2188347355606102534 P).append ((tw16368670287772101220 P).append ((tw14842115654739255404 P).append ((tw4717311838995323452 P).append ((tw594758545415977400 P).append ((tw10895325593200808953 P).append ((tw7924019476267374970 P).append ((tw10009084784789568687 P).append ((tw5084553986333570498 P).append ((tw16641277437810104112 P).append ((tw11875653558476324687 P).append ((tw13463505119322665063 P).append ((tw18077194039007663117 P).append ((tw17755462387555777923 P).append ((tw6492967895434240573 P).append ((tw537001028611820367 P).append ((tw9833210585337712870 P).append ((tw12708430989920435073 P).append ((tw3132545959879029114 P).append ((tw15893686080707579532 P).append ((tw12419440788177488941 P).append ((tw13144694907161067814 P).append ((tw4163898066171597766 P).append ((tw108614505241798827 P).append ((tw13403271955525184085 P).append ((tw9008512798899243008 P).append ((tw5233117687303994960 P).append ((tw15952828016916965751 P).append ((tw15380438544845262330 P).append ((tw3498231505995959436 P).append ((tw11379478403280837710 P).append ((tw1829372832393830862 P).append (tw15315517357904613441 P)))))))))))))))))))))))))))))))))
abbrev l4(P:Params):=(tw9532798600492905429 P).append ((tw13540884194310252285 P).append ((p2 P).append (tw464002682377336327 P)))
abbrev l5(P:Params):=(tw9818214866579459264 P).append ((tw12500792342951176350 P).append ((tw1912701158020654693 P).append ((tw2188347355606102534 P).append ((tw16368670287772101220 P).append ((tw14842115654739255404 P).append ((tw4717311838995323452 P).append ((tw594758545415977400 P).append ((tw10895325593200808953 P).append ((tw13796877066481274120 P).append ((tw10009084784789568687 P).append ((tw5084553986333570498 P).append ((tw16641277437810104112 P).append ((tw11875653558476324687 P).append ((tw13463505119322665063 P).append ((tw18077194039007663117 P).append ((tw17755462387555777923 P).append ((tw6492967895434240573 P).append ((tw537001028611820367 P).append ((tw9833210585337712870 P).append ((tw12708430989920435073 P).append ((tw3132545959879029114 P).append ((tw15893686080707579532 P).append ((tw12419440788177488941 P).append ((tw13144694907161067814 P).append ((tw4163898066171597766 P).append ((tw108614505241798827 P).append ((tw13403271955525184085 P).append ((tw9008512798899243008 P).append ((tw5233117687303994960 P).append ((tw15952828016916965751 P).append ((tw15380438544845262330 P).append ((tw3498231505995959436 P).append ((tw11379478403280837710 P).append ((tw1829372832393830862 P).append ((tw15315517357904613441 P).append ((tw14515330622082756866 P).append ((tw14785798428834493632 P).append ((tw18201935550050738069 P).append ((tw10454839870730503995 P).append ((tw5571871322767964819 P).append ((tw15018400351400277463 P).append ((tw11561923852052835483 P).append ((tw6372914150048047727 P).append ((tw5599453077622544939 P).append ((tw4093087934762282484 P).append ((tw17158561351216856475 P).append (tw9474750161309284266 P)))))))))))))))))))))))))))))))))))))))))))))))
abbrev env:Env:={scope:=(pw_basehouse_k44_whole_tables).main.scope,locals:=mainNs,globals:=mainNs,cells:=[],code:=Value.ref 13,frame:=some 14}
abbrev G0:List Stmt:=[top 0,top 1,top 2,top 3,top 4,top 5,top 6,top 7,top 8,top 9,top 10,top 11,top 12,top 13,top 14,top 15,top 16,top 17]
abbrev G1:List Stmt:=[top 18,top 19,top 20,top 21,top 22,top 23,top 24,top 25,top 26,top 27,top 28,top 29,top 30,top 31,top 32,top 33,top 34,top 35,top 36,top 37,top 38]
abbrev G2:List Stmt:=[top 39,top 40,top 41,top 42,top 43,top 44,top 45,top 46,top 47,top 48,top 49,top 50,top 51,top 52,top 53,top 54,top 55,top 56,top 57]
abbrev G3:List Stmt:=[top 58,top 59,top 60,top 61,top 62,top 63,top 64,top 65,top 66,top 67,top 68,top 69,top 70,top 71,top 72,top 73,top 74,top 75,top 76]
abbrev B0:List Stmt:=G0++(G1++(G2++(G3++([]))))
abbrev c0:Code:= .body B0 env
abbrev f0:List Frame:=[topFrame ⟨0,0,0,0⟩]
def L0:World->OsState->Option (Shared×Thread):=λw os=>topGo treeTable pw_basehouse_k44_whole_tables w 11 (some (Value.ref 6)) 12 ⟨boot_heap w.params,⟨[]⟩,boot_drawn,boot_toks,os⟩ (topStub pw_basehouse_k44_whole_tables)
def M0:World->OsState->Option (Shared×Thread):=λw os=>some (⟨⟨⟨l0 w.params⟩,{}⟩,⟨[]⟩,{},187,os⟩,⟨denote treeTable c0,c0,⟨0,0,0,0⟩,f0⟩)
theorem yL0:((λ_=>true) L0&&(λ_=>true) M0)=true:=by k_qdec
theorem qL0:L0=M0:=qh te4453942571644881324 te7285866895703208684 (by kernel_rfl)
def L1:World->OsState->Option (Flow×Shared×Code×Pos):=λw os=>segRun treeTable pw_basehouse_k44_whole_tables w 11 (some (Value.ref 6)) 1 1 ⟨⟨⟨l0 w.params⟩,{}⟩,⟨[]⟩,{},187,os⟩ (blockOf B0 env c0 ⟨0,0,0,0⟩ f0)
def M1:World->OsState->Option (Flow×Shared×Code×Pos):=λw os=>some (.next,(SharedT.mk (mkT 12 (l0 w.params)) 15 {} ⟨[]⟩ {} 187 os).abs,c0,⟨0,0,0,0⟩)
theorem yL1:((λ_=>true) L1&&(λ_=>true) M1)=true:=by k_qdec
theorem qL1:L1=M1:=qh te6387051279210280424 te10385057629971820802 (by kernel_rfl)
def L2:World->OsState->Option (Flow×SharedT×Code×Pos):=λw os=>segRunT treeTable pw_basehouse_k44_whole_tables w 11 (some (Value.ref 6)) 1 1188 (SharedT.mk (mkT 12 (l0 w.params)) 15 {} ⟨[]⟩ {} 187 os) (piecesOf G0 env c0 ⟨0,0,0,0⟩ f0)
def M2:World->OsState->Option (Flow×SharedT×Code×Pos):=λw os=>some (.next,(SharedT.mk (mkT 12 (l2 w.params)) 169 {} ⟨[]⟩ {} 385 os),c0,⟨58,0,58,8⟩)
theorem yL2:((λ_=>true) L2&&(λ_=>true) M2)=true:=by k_qdec
theorem qL2:L2=M2:=qh te9171306275460833034 te1760210624324108040 (by kernel_rfl)
def L3:World->OsState->Option (Flow×SharedT×Code×Pos):=λw os=>segRunT treeTable pw_basehouse_k44_whole_tables w 11 (some (Value.ref 6)) 1 1189 (SharedT.mk (mkT 12 (l2 w.params)) 169 {} ⟨[]⟩ {} 385 os) (piecesOf G1 env c0 ⟨58,0,58,8⟩ f0)
def M3:World->OsState->Option (Flow×SharedT×Code×Pos):=λw os=>some (.next,(SharedT.mk (mkT 12 (l3 w.params)) 303 {} ⟨[]⟩ {} 579 os),c0,⟨138,0,142,15⟩)
theorem yL3:((λ_=>true) L3&&(λ_=>true) M3)=true:=by k_qdec
theorem qL3:L3=M3:=qh te6196771281854559479 te2789812635788466785 (by kernel_rfl)
def L4:World->OsState->Option (Flow×SharedT×Code×Pos):=λw os=>segRunT treeTable pw_basehouse_k44_whole_tables w 11 (some (Value.ref 6)) 1 1003 (SharedT.mk (mkT 12 (l3 w.params)) 303 {} ⟨[]⟩ {} 579 os) (piecesOf G2 env c0 ⟨138,0,142,15⟩ f0)
def M4:World->OsState->Option (Flow×SharedT×Code×Pos):=λw os=>some (.next,(SharedT.mk (mkT 12 (l4 w.params)) 438 {} ⟨[]⟩ {} 762 os),c0,⟨263,0,263,8⟩)
theorem yL4:((λ_=>true) L4&&(λ_=>true) M4)=true:=by k_qdec
theorem qL4:L4=M4:=qh te18063231807419426806 te4793386113839911487 (by kernel_rfl)
def L5:World->OsState->Option (Flow×SharedT×Code×Pos):=λw os=>segRunT treeTable pw_basehouse_k44_whole_tables w 11 (some (Value.ref 6)) 1 810 (SharedT.mk (mkT 12 (l4 w.params)) 438 {} ⟨[]⟩ {} 762 os) (piecesOf G3 env c0 ⟨263,0,263,8⟩ f0)
def M5:World->OsState->Option (Flow×SharedT×Code×Pos):=λw os=>some (.next,(SharedT.mk (mkT 12 (l5 w.params)) 569 {} ⟨[]⟩ {} 960 os),c0,⟨436,0,457,137⟩)
theorem yL5:((λ_=>true) L5&&(λ_=>true) M5)=true:=by k_qdec
theorem qL5:L5=M5:=qh te7289443652863241282 te11685339832826840484 (by kernel_rfl)
def L6:World->OsState->Option Shared:=λw os=>topRun treeTable pw_basehouse_k44_whole_tables w 11 (some (Value.ref 6)) 2 (SharedT.mk (mkT 12 (l5 w.params)) 569 {} ⟨[]⟩ {} 960 os).abs (restOf [] env c0 ⟨436,0,457,137⟩ f0)
def M6:World->OsState->Option Shared:=λw os=>some ⟨⟨⟨l5 w.params⟩,{}⟩,⟨[]⟩,{},960,os⟩
theorem yL6:((λ_=>true) L6&&(λ_=>true) M6)=true:=by k_qdec
theorem qL6:L6=M6:=qh te11518265509499319272 te9035903999391717805 (by kernel_rfl)
abbrev Hf(P:Params):Heap:=⟨⟨l5 P⟩,{}⟩
abbrev Mn:Nat:=12+(1+(1188+(1189+(1003+(810+(2))))))
theorem rn(w:World)(os:OsState):topRun treeTable pw_basehouse_k44_whole_tables w 11 (some (Value.ref 6)) Mn ⟨boot_heap w.params,⟨[]⟩,boot_drawn,boot_toks,os⟩ (topStub pw_basehouse_k44_whole_tables)=some ⟨Hf w.params,⟨[]⟩,{},960,os⟩:=go_top (Qo (Qo qL0 w) os) (piece_block (Qo (Qo qL1 w) os) (piece_app (segRun_of (Qo (Qo qL2 w) os)) (piece_app (segRun_of (Qo (Qo qL3 w) os)) (piece_app (segRun_of (Qo (Qo qL4 w) os)) (piece_app (segRun_of (Qo (Qo qL5 w) os)) (Qo (Qo qL6 w) os))))))
abbrev vw:Program:={(pw_basehouse_k44_whole_tables)with main:={(pw_basehouse_k44_whole_tables).main with body:=[top 76]}}
abbrev KF:Params->Frag:=λP=>(nat_lit 2,boot_o_2 P)::(nat_lit 3,o3v4 P)::(nat_lit 15,Y)::(nat_lit 17,o17)::(nat_lit 18,Y)::(nat_lit 20,o20)::(nat_lit 21,o21)::(nat_lit 22,Y)::(nat_lit 25,o25)::(nat_lit 26,o26)::(nat_lit 27,Y)::(nat_lit 29,o29)::(nat_lit 30,Y)::(nat_lit 32,o32)::(nat_lit 33,o33)::(nat_lit 34,Y)::(nat_lit 36,o36)::(nat_lit 37,Y)::(nat_lit 39,o39)::(nat_lit 40,o40)::(nat_lit 41,Y)::(nat_lit 43,o43)::(nat_lit 44,Y)::(nat_lit 46,o46)::(nat_lit 47,o47)::(nat_lit 48,Y)::(nat_lit 51,o51)::(nat_lit 52,o52)::(nat_lit 53,Y)::(nat_lit 56,o56)::(nat_lit 57,o57)::(nat_lit 58,Y)::(nat_lit 61,o61)::(nat_lit 62,o62)::(nat_lit 63,Y)::(nat_lit 65,o65)::(nat_lit 66,Y)::(nat_lit 68,o68)::(nat_lit 69,o69)::(nat_lit 70,Y)::(nat_lit 72,o72)::(nat_lit 73,Y)::(nat_lit 75,o75)::(nat_lit 76,o76)::(nat_lit 77,Y)::(nat_lit 79,o79)::(nat_lit 80,Y)::(nat_lit 82,o82)::(nat_lit 83,o83)::(nat_lit 91,Y)::(nat_lit 93,o93)::(nat_lit 94,Y)::(nat_lit 96,o96)::(nat_lit 97,o97)::(nat_lit 105,Y)::(nat_lit 107,o107)::(nat_lit 108,Y)::(nat_lit 110,o110)::(nat_lit 111,o111)::(nat_lit 112,o112)::(nat_lit 113,o113 P)::(nat_lit 114,o114v3)::(nat_lit 115,o115)::(nat_lit 116,o116)::(nat_lit 119,o119)::(nat_lit 126,Y)::(nat_lit 128,o128)::(nat_lit 129,Y)::(nat_lit 131,o131)::(nat_lit 132,o132)::(nat_lit 133,Y)::(nat_lit 135,o135)::(nat_lit 136,Y)::(nat_lit 138,o138)::(nat_lit 139,o139)::(nat_lit 140,o140)::(nat_lit 141,o141 P)::(nat_lit 142,o142)::(nat_lit 145,o145)::(nat_lit 152,Y)::(nat_lit 154,o154)::(nat_lit 155,Y)::(nat_lit 157,o157)::(nat_lit 158,o158)::(nat_lit 159,Y)::(nat_lit 162,o162)::(nat_lit 163,o163)::(nat_lit 164,o164)::(nat_lit 165,o165 P)::(nat_lit 166,o166)::(nat_lit 169,Y)::(nat_lit 171,o171)::(nat_lit 172,Y)::(nat_lit 174,o174)::(nat_lit 175,o175)::(nat_lit 176,Y)::(nat_lit 179,o179)::(nat_lit 180,o180)::(nat_lit 181,Y)::(nat_lit 184,o184)::(nat_lit 185,o185)::(nat_lit 186,Y)::(nat_lit 189,o189)::(nat_lit 190,o190)::(nat_lit 191,o191)::(nat_lit 198,Y)::(nat_lit 200,o200)::(nat_lit 201,Y)::(nat_lit 203,o203)::(nat_lit 204,o204)::(nat_lit 205,Y)::(nat_lit 207,o207)::(nat_lit 208,Y)::(nat_lit 210,o210)::(nat_lit 211,o211)::(nat_lit 212,o212)::(nat_lit 213,o213 P)::(nat_lit 214,o214)::(nat_lit 217,o217)::(nat_lit 224,Y)::(nat_lit 226,o226)::(nat_lit 227,Y)::(nat_lit 229,o229)::(nat_lit 230,o230)::(nat_lit 231,Y)::(nat_lit 233,o233)::(nat_lit 234,Y)::(nat_lit 236,o236)::(nat_lit 237,o237)::(nat_lit 238,o238)::(nat_lit 239,o239 P)::(nat_lit 240,o240)::(nat_lit 243,o243)::(nat_lit 250,Y)::(nat_lit 252,o252)::(nat_lit 253,Y)::(nat_lit 255,o255)::(nat_lit 256,o256)::(nat_lit 257,Y)::(nat_lit 259,o259)::(nat_lit 260,Y)::(nat_lit 262,o262)::(nat_lit 263,o263)::(nat_lit 264,o264)::(nat_lit 265,o265 P)::(nat_lit 266,o266)::(nat_lit 269,Y)::(nat_lit 272,o272)::(nat_lit 273,o273)::(nat_lit 274,Y)::(nat_lit 277,o277)::(nat_lit 278,o278)::(nat_lit 279,Y)::(nat_lit 282,o282)::(nat_lit 283,o283)::(nat_lit 284,Y)::(nat_lit 286,o286)::(nat_lit 287,Y)::(nat_lit 289,o289)::(nat_lit 290,o290)::(nat_lit 291,Y)::(nat_lit 294,o294)::(nat_lit 295,o295)::(nat_lit 296,Y)::(nat_lit 298,o298)::(nat_lit 299,Y)::(nat_lit 301,o301)::(nat_lit 302,o302)::(nat_lit 303,Y)::(nat_lit 306,o306)::(nat_lit 307,o307)::(nat_lit 308,Y)::(nat_lit 311,o311)::(nat_lit 312,o312)::(nat_lit 313,Y)::(nat_lit 316,o316)::(nat_lit 317,o317)::(nat_lit 318,o318)::(nat_lit 325,Y)::(nat_lit 327,o327)::(nat_lit 328,Y)::(nat_lit 330,o330)::(nat_lit 331,o331)::(nat_lit 332,Y)::(nat_lit 334,o334)::(nat_lit 335,Y)::(nat_lit 337,o337)::(nat_lit 338,o338)::(nat_lit 339,o339)::(nat_lit 340,o340 P)::(nat_lit 341,o341)::(nat_lit 344,Y)::(nat_lit 347,o347)::(nat_lit 348,o348)::(nat_lit 349,Y)::(nat_lit 352,o352)::(nat_lit 353,o353)::(nat_lit 354,Y)::(nat_lit 357,o357)::(nat_lit 358,o358)::(nat_lit 359,Y)::(nat_lit 362,o362)::(nat_lit 363,o363)::(nat_lit 364,Y)::(nat_lit 367,o367)::(nat_lit 368,o368)::(nat_lit 369,Y)::(nat_lit 371,o371)::(nat_lit 372,Y)::(nat_lit 374,o374)::(nat_lit 375,o375)::(nat_lit 376,Y)::(nat_lit 378,o378)::(nat_lit 379,Y)::(nat_lit 381,o381)::(nat_lit 382,o382)::(nat_lit 383,Y)::(nat_lit 385,o385)::(nat_lit 386,Y)::(nat_lit 388,o388)::(nat_lit 389,o389)::(nat_lit 390,Y)::(nat_lit 392,o392)::(nat_lit 393,Y)::(nat_lit 395,o395)::(nat_lit 396,o396)::(nat_lit 397,Y)::(nat_lit 400,o400)::(nat_lit 401,o401)::(nat_lit 402,Y)::(nat_lit 405,o405)::(nat_lit 406,o406)::(nat_lit 407,o407)::(nat_lit 414,Y)::(nat_lit 417,o417)::(nat_lit 418,o418)::(nat_lit 419,Y)::(nat_lit 421,o421)::(nat_lit 422,Y)::(nat_lit 424,o424)::(nat_lit 425,o425)::(nat_lit 426,Y)::(nat_lit 428,o428)::(nat_lit 429,Y)::(nat_lit 431,o431)::(nat_lit 432,o432)::(nat_lit 433,o433)::(nat_lit 434,o434 P)::(nat_lit 435,o435)::(nat_lit 438,o438)::(nat_lit 445,Y)::(nat_lit 448,o448)::(nat_lit 449,o449)::(nat_lit 450,Y)::(nat_lit 453,o453)::(nat_lit 454,o454)::(nat_lit 455,o455)::(nat_lit 456,o456 P)::(nat_lit 457,o457)::(nat_lit 460,Y)::(nat_lit 462,o462)::(nat_lit 463,Y)::(nat_lit 465,o465)::(nat_lit 466,o466)::(nat_lit 467,Y)::(nat_lit 469,o469)::(nat_lit 470,Y)::(nat_lit 472,o472)::(nat_lit 473,o473)::(nat_lit 474,Y)::(nat_lit 477,o477)::(nat_lit 478,o478)::(nat_lit 479,Y)::(nat_lit 481,o481)::(nat_lit 482,Y)::(nat_lit 484,o484)::(nat_lit 485,o485)::(nat_lit 486,Y)::(nat_lit 488,o488)::(nat_lit 489,Y)::(nat_lit 491,o491)::(nat_lit 492,o492)::(nat_lit 493,Y)::(nat_lit 495,o495)::(nat_lit 496,Y)::(nat_lit 498,o498)::(nat_lit 499,o499)::(nat_lit 500,Y)::(nat_lit 502,o502)::(nat_lit 503,Y)::(nat_lit 505,o505)::(nat_lit 506,o506)::(nat_lit 507,Y)::(nat_lit 510,o510)::(nat_lit 511,o511)::(nat_lit 512,Y)::(nat_lit 515,o515)::(nat_lit 516,o516)::(nat_lit 517,Y)::(nat_lit 520,o520)::(nat_lit 521,o521)::(nat_lit 522,Y)::(nat_lit 524,o524)::(nat_lit 525,Y)::(nat_lit 527,o527)::(nat_lit 528,o528)::(nat_lit 529,Y)::(nat_lit 531,o531)::(nat_lit 532,Y)::(nat_lit 534,o534)::(nat_lit 535,o535)::(nat_lit 536,Y)::(nat_lit 539,o539)::(nat_lit 540,o540)::(nat_lit 541,Y)::(nat_lit 543,o543)::(nat_lit 544,Y)::(nat_lit 546,o546)::(nat_lit 547,o547)::(nat_lit 548,Y)::(nat_lit 550,o550)::(nat_lit 551,Y)::(nat_lit 553,o553)::(nat_lit 554,o554)::(nat_lit 555,Y)::(nat_lit 557,o557)::(nat_lit 558,Y)::(nat_lit 560,o560)::(nat_lit 561,o561)::(nat_lit 562,Y)::(nat_lit 564,o564)::(nat_lit 565,Y)::(nat_lit 567,o567)::(nat_lit 568,o568)::[]
abbrev aL:List Addr:=2::3::15::17::18::20::21::22::25::26::27::29::30::32::33::34::36::37::39::40::41::43::44::46::47::48::51::52::53::56::57::58::61::62::63::65::66::68::69::70::72::73::75::76::77::79::80::82::83::91::93::94::96::97::105::107::108::110::111::112::113::114::115::116::119::126::128::129::131::132::133::135::136::138::139::140::141::142::145::152::154::155::157::158::159::162::163::164::165::166::169::171::172::174::175::176::179::180::181::184::185::186::189::190::191::198::200::201::203::204::205::207::208::210::211::212::213::214::217::224::226::227::229::230::231::233::234::236::237::238::239::240::243::250::252::253::255::256::257::259::260::262::263::264::265::266::269::272::273::274::277::278::279::282::283::284::286::287::289::290::291::294::295::296::298::299::301::302::303::306::307::308::311::312::313::316::317::318::325::327::328::330::331::332::334::335::337::338::339::340::341::344::347::348::349::352::353::354::357::358::359::362::363::364::367::368::369::371::372::374::375::376::378::379::381::382::383::385::386::388::389::390::392::393::395::396::397::400::401::402::405::406::407::414::417::418::419::421::422::424::425::426::428::429::431::432::433::434::435::438::445::448::449::450::453::454::455::456::457::460::462::463::465::466::467::469::470::472::473::474::477::478::479::481::482::484::485::486::488::489::491::492::493::495::496::498::499::500::502::503::505::506::507::510::511::512::515::516::517::520::521::522::524::525::527::528::529::531::532::534::535::536::539::540::541::543::544::546::547::548::550::551::553::554::555::557::558::560::561::562::564::565::567::568::[]
theorem eK(P:Params):aL=(KF P).map (·.1):=by kernel_rfl
abbrev HK:Hook:=kHook KF aL eK
abbrev lsN:List Str:=((pw_basehouse_k44_whole_tables.main.scope.names.filter λx=>x.2== .local).map (·.1)).tail.dropLast
abbrev rw0:RowW:=OpenRow.toRowW (OpenLaw.row rw_basehouse_k44_whole_tables)
abbrev Xt(s:Shared):Bool:=xlAt vw [] s&&recOk (RowW.records rw0) s
def Lz:World->OsState->Bool×Nat×Option Value:=λw os=>((boot_heap w.params).isNs mainGlobals&&(⟨[]⟩:Array GenState).size==0,(boot_heap w.params).objs.size,(boot_heap w.params).nsMap mainGlobals "__annotations__")
def Mz:World->OsState->Bool×Nat×Option Value:=λw os=>(true,11,(some (Value.ref 6)))
theorem yLz:((λ_=>true) Lz&&(λ_=>true) Mz)=true:=by k_qdec
theorem qLz:Lz=Mz:=Eq.trans te17831390912981975158 (by kernel_rfl:tw17831390912981975158=Mz)
def Ll:=λ(w:World) (os:OsState)=>((staticsOk (importedModules (pw_basehouse_k44_whole_tables).main.body) (boot_heap w.params) (Hf w.params)&&namesBound pw_basehouse_k44_whole_tables (Hf w.params)&&gensDone ⟨Hf w.params,⟨[]⟩,{},960,os⟩&&laidKept (boot_heap w.params) (Hf w.params)),openSeen vw lsN (importedModules (pw_basehouse_k44_whole_tables).main.body) Xt true ⟨Hf w.params,⟨[]⟩,{},960,os⟩,aL.map (Hf w.params).get?)
def Ml:=λ(w:World) (_:OsState)=>(true,openGood vw lsN,(KF w.params).map λp=>some p.2)
theorem yLl:((λ_=>true) Ll&&(λ_=>true) Ml)=true:=by k_qdec
abbrev tL:=tw17448342430068451512
abbrev tv:=tw7000725165481098050
theorem ck{α β:Type}{l:List β}{m:List α}{f:α->β}(i n:Nat)(h:(l.drop i).take n=((m.drop i).take n).map f)(k:l.drop (i+n)=(m.drop (i+n)).map f):l.drop i=(m.drop i).map f:=by rw[<-Ti n (l.drop i),h,List.drop_drop,k,<-Qs,<-List.drop_drop,Ti]
theorem x0:(λw os=>(tL w os).1)=λw _=>true:=by kernel_rfl
theorem x1:(λw os=>(tL w os).2.1.1)=λw _=>expectedOf tv:=by kernel_rfl
theorem x2:(λw os=>(tL w os).2.1.2.1)=λw _=>bltViewBooted:=by kernel_rfl
theorem x3:(λw os=>(tL w os).2.1.2.2.1)=λw _=>true:=by kernel_rfl
theorem x4:(λw os=>(tL w os).2.1.2.2.2.1)=λw _=>true:=by kernel_rfl
theorem x5:(λw os=>(tL w os).2.1.2.2.2.2.1)=λw _=>pinGoodD (drecsOf tv):=by kernel_rfl
theorem x6:(λw os=>(tL w os).2.1.2.2.2.2.2.1)=λw _=>plainGoodE tv (looseW tv lsN):=by kernel_rfl
theorem x7:(λw os=>(tL w os).2.1.2.2.2.2.2.2.1)=λw _=>plainGoodD tv lsN:=by kernel_rfl
theorem x8:(λw os=>(tL w os).2.1.2.2.2.2.2.2.2.1)=λw _=>wideGood tv:=by kernel_rfl
theorem x9:(λw os=>(tL w os).2.1.2.2.2.2.2.2.2.2)=λw _=>clsGoodW tv lsN:=by kernel_rfl
theorem x10_0:(λw os=>((tL w os).2.2.drop 0).take 150)=λw _=>((((KF w.params).drop 0).take 150).map λp=>some p.2):=by kernel_rfl
theorem x10_1:(λw os=>((tL w os).2.2.drop 150).take 150)=λw _=>((((KF w.params).drop 150).take 150).map λp=>some p.2):=by kernel_rfl
theorem x10_2:(λw os=>((tL w os).2.2.drop 300))=λw _=>((((KF w.params).drop 300)).map λp=>some p.2):=by kernel_rfl
theorem x10:(λw os=>(tL w os).2.2)=λw _=>(KF w.params).map λp=>some p.2:=funext λw=>funext λos=>ck 0 150 (Qo (Qo x10_0 w) os) (ck 150 150 (Qo (Qo x10_1 w) os) (Qo (Qo x10_2 w) os))
theorem xx{A B C D E F G H I J K:Type}{x:A× (B×C×D×E×F×G×H×I×J)×K}{a b c d e f g h i j k}(y0:x.1=a)(y1:x.2.1.1=b)(y2:x.2.1.2.1=c)(y3:x.2.1.2.2.1=d)(y4:x.2.1.2.2.2.1=e)(y5:x.2.1.2.2.2.2.1=f)(y6:x.2.1.2.2.2.2.2.1=g)(y7:x.2.1.2.2.2.2.2.2.1=h)(y8:x.2.1.2.2.2.2.2.2.2.1=i)(y9:x.2.1.2.2.2.2.2.2.2.2=j)(y10:x.2.2=k):x=(a,(b,c,d,e,f,g,h,i,j),k):=by obtain⟨_,⟨_,_,_,_,_,_,_,_,_⟩,_⟩:=x;cases y0;cases y1;cases y2;cases y3;cases y4;cases y5;cases y6;cases y7;cases y8;cases y9;cases y10;rfl
theorem qLl:Ll=Ml:=qh te17448342430068451512 te15266112935050528847 (funext λw=>funext λos=>xx (Qo (Qo x0 w) os) (Qo (Qo x1 w) os) (Qo (Qo x2 w) os) (Qo (Qo x3 w) os) (Qo (Qo x4 w) os) (Qo (Qo x5 w) os) (Qo (Qo x6 w) os) (Qo (Qo x7 w) os) (Qo (Qo x8 w) os) (Qo (Qo x9 w) os) (Qo (Qo x10 w) os))
theorem hl:LeftO pw_basehouse_k44_whole_tables vw lsN Xt HK.obs HK.val 8498:=LeftO.of_pieces (m₀:=11) (ann:=(some (Value.ref 6))) (boot_open (by kernel_rfl) (by decide) (λs=>by kernel_rfl)) (λw=>Qo (Qo qLz w) default) rn (by decide+kernel) (λw=>Qo qLl w)
end
end Hd
open PySem PySem.W PyProof.Rows
set_option maxRecDepth 100000 in
set_option maxHeartbeats 0 in
theorem PySem.Challenge.cw_basehouse_k44_whole_tables_holds : PySem.Challenge.rw_basehouse_k44_whole_tables.Holds := by
 w_on;o_law
 refine holds_open (q:=Hd.vw) (loose:=Hd.lsN) (Xt:=Hd.Xt) (XP:=XL Hd.vw []) (Yf:=Hd.HK.obs) (Ya:=Hd.HK.val) (YP:=(kHook Hd.KF Hd.aL Hd.eK).says) (N:=8498) Hd.hl Hd.HK.of Hd.HK.keeps (λs e=>xl_of s (Bool.and_eq_true_iff.mp e).1) XL.keeps (by rfl) (by rfl) (by rfl) (λs e=>recFacts_of (Bool.and_eq_true_iff.mp e).2) (by rfl) (by first|assumption|decide+kernel) (by decide+kernel) ⟨rfl,rfl,rfl,rfl,rfl,by decide+kernel⟩ ?hw ?hc
 (case hw=>w_witness2)
 k_fill
 refine BhK.walk (l:=PySem.Challenge.rw_basehouse_k44_whole_tables) rfl rfl (λw h Y=>PySem.W.kIn_of Y) ?F
 case F=>
  intro w mg fa h KX G hmg
  refine' BhK.all_mk KX G hmg ?_ ?_ ?_ ?_ ?_ ?_ ?_ ?_ ?_ ?_ ?_ ?_ ?_ ?_ ?_ ?_ ?_ ?_ ?_ ?_ ?_ ?_ ?_ ?_ ?_ ?_ ?_ ?_ ?_ ?_ ?_ ?_ ?_ ?_ ?_ ?_ ?_ ?_ ?_ ?_ ?_ ?_ ?_ ?_ ?_ ?_ ?_ ?_ ?_ ?_ ?_ ?_ ?_ ?_ ?_ ?_ ?_ ?_ ?_ ?_ ?_ ?_ ?_ ?_ ?_ ?_ ?_ ?_ ?_ ?_ ?_ ?_ ?_ ?_ ?_ ?_ ?_ ?_ ?_ ?_ ?_ ?_ ?_ ?_ ?_ ?_ ?_ ?_ ?_ ?_ ?_ ?_ ?_ ?_ ?_ ?_ ?_ ?_ ?_ ?_ ?_ ?_ ?_ ?_ ?_ ?_ ?_ ?_ ?_ ?_ ?_ ?_ ?_ ?_ ?_ ?_ ?_ ?_ ?_ ?_ ?_ ?_ ?_ ?_ ?_ ?_ ?_ ?_ ?_ ?_ ?_ ?_ ?_ ?_ ?_ ?_ ?_ ?_ ?_ ?_ ?_ ?_ ?_ ?_ ?_ ?_ ?_ ?_ ?_ ?_ ?_ ?_ ?_ ?_ ?_ ?_ ?_ ?_ ?_ ?_ ?_ ?_ ?_ ?_ ?_ ?_ ?_ ?_ ?_
  all_goals try first|k_is|kit_is|decide|kernel_rfl|(refine' BhK.HL.mk ?_ ?_ ?_ ?_ ?_ ?_ ?_<;>try k_is)|(refine' BhK.HM.mk ?_ ?_ ?_ ?_ ?_<;>try k_is)|(refine' BhK.HD.mk ?_ ?_ ?_ ?_<;>try k_is)|(refine' BhK.HI.mk ?_ ?_ ?_ ?_<;>try k_is)
