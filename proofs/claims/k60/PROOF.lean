import PyProof.Rows.All
import Wide.All
import OpenK.AllK
import Wide.FinOn
import Lean
import PyProof.EqAt
import PyProof.EqKinds
import PyProof.TupleCall
import PyProof.AttrMissHeap
import KE.KIntText
import PyProof.Rows.Range3
import PyProof.EqKinds
import PySem.Challenge.RW_basehouse_k60_lines_read
set_option maxHeartbeats 4000000
set_option Elab.async false
set_option linter.all false
set_option maxRecDepth 100000
open PySem.W(Frag instObj methodObj hideAll lookIn plainGet hasDictIn findIn isFn takerIn makesIn emptyDict keepIn specialIn mroIn kitOne fnOf codeIn nsIn excIn Looks clsIn findCls readsIn exmOne)
abbrev fx:=Array (Option PySem.Value)
abbrev f6:=PySem.Value->PySem.Shared->Prop
abbrev f7:=List (PySem.Str×PySem.NameKind)
abbrev hX:=Unit->PySem.Shared->Prop
abbrev i2:=PySem.Str->Option PySem.Value
abbrev jb:=Array (Int×PySem.Value)
abbrev js:=List (PySem.Addr×PySem.Obj)
abbrev mm:=List (PySem.Str×PySem.Addr)
abbrev pw:=List (List Int)
abbrev px:=Option PySem.Addr
abbrev qs:=Array PySem.Value
abbrev qR:=List PySem.Value
abbrev q7:=List PySem.Expr
abbrev r9:=List PySem.Str
abbrev sk:=List Nat
abbrev sv:=List Int
abbrev ti:=List PySem.Env
abbrev tj:=PySem.Program
abbrev tr:=PySem.Shared
abbrev tT:=String
abbrev vr:=PySem.Around
abbrev vu:=PySem.World
section
local macro_rules|`(#[$x,*])=>do{let w<-`(_);let q<-`(rfl);let d<-`(by decide);let g<-`(?_);let l<-`(by lia);let f:=fun c:Char=>if c=='1' then [w] else if c=='2' then [q] else if c=='3' then [w,w,w,q,q] else if c=='4' then [d] else if c=='6' then [g] else if c=='7' then [w,q] else if c=='8' then [w,w,q,q] else [l];let n:=fun e:Lean.TSyntax `term=>e.raw.isNatLit?.getD 0;let z:=x.getElems.toList;let y:=((z.map fun e=>if n e==0 then [e] else (toString (n e)).toList.flatMap f).flatten).toArray;match z with|[e]=>if n e==9 then `(by decide +kernel) else if n e==5 then `(by simp) else if n e==6 then `(fun _ _ _ _ h=>by rcases h with⟨⟩;subst_vars;rfl) else `(⟨$y,*⟩)|[a,e]=>if n a==5 then `(by simpa using $e) else `(⟨$y,*⟩)|_=>`(⟨$y,*⟩)}
local macro_rules|`(tactic|show#[$x,*])=>`(tactic|refine#[$x,*])
local macro_rules|`(#v[$x,*])=>`(List.toArray [$x,*])
local macro_rules|`(())=>`(by lia)
local macro_rules|`(∅)=>`(by decide)
local macro_rules|`(⋯)=>`(by rfl)
abbrev Tp:List String:=["enumerate","zip","dict_itemiterator","dict_reverseitemiterator","odict_iterator","itertools.zip_longest","itertools.pairwise"]
abbrev Tq:="__debug__"
abbrev Tr:="BaseException.__getattribute__"
abbrev Ts:="list"
abbrev Tu:="abcdefghijklmnopqrstuvwxyz"
abbrev Tv:="BaseException"
abbrev Tw:="set_iterator"
abbrev Tx:="range"
abbrev Tz:="object.__class__"
abbrev TB:="set-order"
abbrev TC:="enumerate"
abbrev TF:="__init__"
abbrev TH:="dict"
abbrev TJ:="type.__call__"
abbrev TK:="isinstance"
abbrev TL:="many"
abbrev TM:="object.__setattr__"
abbrev TN:="tuple"
abbrev TQ:="method_descriptor"
abbrev TR:="set_iterator.__next__"
abbrev TU:="set_iterator.__iter__"
abbrev TV:="__getattribute__"
abbrev TX:="bases"
abbrev TY:="rings"
abbrev TZ:="flats"
abbrev T2:="str_ascii_iterator"
abbrev T3:="__setattr__"
abbrev T4:="heaviest"
abbrev T5:="table"
abbrev T6:="proto.unchain"
abbrev T7:="getset_descriptor.__get__"
abbrev T8:="set"
abbrev T9:="everything"
abbrev Ua:="dict.update.loop"
abbrev Ub:="ValueError"
abbrev Uc:="__next__"
abbrev Ud:="__name__"
abbrev Ue:="sorted"
abbrev Ug:="rank"
abbrev Uh:="list.__iadd__"
abbrev Ui:="even"
abbrev Uj:="StopIteration"
abbrev Uk:="0123456789"
abbrev Ul:="function"
abbrev Um:="closed"
abbrev Uo:="str_iterator"
abbrev Up:="other"
abbrev Uq:="__class__"
abbrev Ur:="object"
abbrev Us:="common"
abbrev Ut:="worth"
abbrev Uu:="drawn"
abbrev Uv:="net"
abbrev Uw:="line"
abbrev My:=@List.length_map
abbrev NU:=@PySem.wpAny_bind
abbrev NV:=@Nat.le_trans
abbrev NW:=@if_neg
abbrev NX:=@decide_eq_false
abbrev NY:=@PySem.Heap.get?_push_of_some
abbrev NZ:=@if_pos
abbrev N0:=@PySem.wpAny_pure
abbrev N1:=@List.mem_cons
abbrev N2:=@decide_eq_true
abbrev N3:=@Nat.le_refl
abbrev N4:=@List.mem_cons_of_mem
abbrev N5:=@List.mem_of_getElem?
abbrev N6:=@PySem.Heap.lt_size
abbrev N7:=@Nat.lt_of_lt_of_le
abbrev N8:=@List.mem_cons_self
abbrev N9:=@Int.toNat_natCast
abbrev Oa:=@List.length_cons
abbrev Ob:=@List.getElem?_eq_getElem
abbrev Oc:=@List.getElem?_eq_some_iff
abbrev Od:=@List.length_append
abbrev Oe:=@Nat.ne_of_lt
abbrev Of:=@List.mem_map
abbrev Og:=@True.intro
abbrev Oh:=@congrFun
abbrev Oi:=@PySem.Heap.get?_push_size
abbrev Oj:=@List.mem_singleton
abbrev Om:=@Nat.lt_of_le_of_lt
abbrev Oo:=@Bool.false_ne_true
abbrev Oq:=@List.size_toArray
abbrev Ot:=@List.getElem?_map
abbrev Ou:=@Array.length_toList
abbrev Ov:=@of_decide_eq_true
abbrev Ow:=@List.length_take
abbrev Ox:=@decide_eq_decide
abbrev Oy:=@PySem.Heap.get?_update_other
abbrev Oz:=@Bool.and_eq_true
abbrev OA:=@Option.some.inj
abbrev OB:=@decide_eq_true_eq
abbrev OC:=@PySem.Heap.get?_update_self
abbrev OD:=@List.getD_eq_getElem?_getD
abbrev OE:=@List.map_map
abbrev OF:=@PyProof.Rows.boot_str
abbrev OG:=@Nat.pow_le_pow_right
abbrev OH:=@PyProof.Rows.cps_toList_append
abbrev OI:=@List.map_cons
abbrev OJ:=@Int.eq_ofNat_of_zero_le
abbrev OL:=@congrArg
abbrev OM:=@Bool.and_false
abbrev ON:=@PySem.wpAny_mono
abbrev OO:=@Bool.true_and
abbrev OP:=@List.append_nil
abbrev OQ:=@List.mem_range
abbrev OR:=@List.mem_append_right
abbrev OS:=@List.mem_append
abbrev OT:=@PySem.W.hideAll_get
abbrev OU:=@List.length_drop
abbrev OV:=@List.take_length
abbrev OW:=@List.length_filter_le
abbrev OX:=@of_decide_eq_false
abbrev OY:=@Array.getElem?_eq_getElem
abbrev OZ:=@PySem.mem_of_lookup
abbrev O1:=@List.map_append
abbrev O2:=@List.length_range
abbrev O3:=@List.all_eq_true
abbrev O4:=@PySem.wpAny_holding
abbrev O5:=@PySem.F.plainAttrs_str
abbrev O6:=@PyProof.Rows.callWith_type1
abbrev O7:=@PySem.Obj.data_mapFields
abbrev O8:=@Bool.eq_iff_iff
abbrev O9:=@List.filter_eq_self
abbrev Pa:=@PySem.F.plainAttrs_list
abbrev Pb:=@Bool.not_eq_true'
abbrev Pc:=@Int.natCast_nonneg
abbrev Pd:=@PySem.Heap.size_push
abbrev Pe:=@PyProof.Rows.boot_isinstance
abbrev Pf:=@PySem.W.kia_one
abbrev Pg:=@PySem.F.slot_list_append
abbrev Ph:=@PySem.F.type_list_append
abbrev Pj:=@Ne.symm
abbrev Pk:=@List.take_add_one
abbrev Pl:=@decide_eq_false_iff_not
abbrev Pn:=@List.length_eq_zero_iff
abbrev Po:=@PySem.strLen_append
abbrev Pp:=@List.mem_filter
abbrev Pq:=@List.getElem?_of_mem
abbrev Pr:=@List.lookup_cons
abbrev Pt:=@Nat.lt_irrefl
abbrev Pu:=@Array.getElem?_toList
abbrev Pw:=@Nat.zero_le
abbrev Px:=@PySem.codeAny_builtin
abbrev Py:=@Int.emod_lt_of_pos
abbrev PB:=@Nat.lt_succ_self
abbrev PD:=@List.getElem_mem
abbrev PF:=@List.not_mem_nil
abbrev PH:=@List.getElem?_append_right
abbrev PJ:=@Nat.lt_trans
abbrev PK:=@PySem.F.excBase_ValueError
abbrev PL:=@List.take_of_length_le
abbrev PM:=@PySem.wpAny_loadPart_at
abbrev PN:=@PySem.Heap.SameBut.update
abbrev PQ:=@List.getElem?_append_left
abbrev PR:=@Or.inl
abbrev PU:=@Int.emod_nonneg
abbrev PV:=@Classical.byContradiction
abbrev PX:=@PySem.wpAny_Call_Name_kw
abbrev PY:=@PySem.W.callWith_K
abbrev PZ:=@Bool.false_eq_true
abbrev P0:=@List.filter_append
abbrev P1:=@PySem.F.called_set
abbrev P2:=@PySem.wpAny_setField
abbrev P4:=@PySem.Around.under_plainId
abbrev P5:=@PySem.boot_len
abbrev P6:=@PySem.wpAny_truthy_bool
abbrev P7:=@beq_eq_false_iff_ne
abbrev P8:=@List.filterMap_cons
abbrev P9:=@Nat.add_le_add_left
abbrev Qa:=@Nat.le_of_lt
abbrev Qb:=@Nat.ne_of_gt
abbrev Qc:=@Nat.testBit_lt_two_pow
abbrev Qd:=@beq_iff_eq
abbrev Qe:=@Array.getElem?_eq_some_iff
abbrev Qf:=@Nat.le_of_not_lt
abbrev Qg:=@PySem.wpAny_call_entry
abbrev Qh:=@PySem.W.of_hideAll
abbrev Qi:=@List.mem_filterMap
abbrev Qj:=@PySem.W.methodCall_KW
abbrev Qk:=@PySem.Obj.isFreed_of_fields
abbrev Ql:=@PySem.W.piece_app
abbrev Qm:=@PySem.W.segRun_of
abbrev Qn:=@List.foldl_cons
abbrev Qo:=@Nat.testBit_and
abbrev Qp:=@List.length_nil
abbrev Qq:=@Int.zero_add
abbrev Qr:=@Nat.lt_succ_of_lt
abbrev Qs:=@PySem.wpAny_newObj_type
abbrev Qt:=@List.count_append
abbrev Qu:=@PySem.wpAny_standAt
abbrev Qv:=@PySem.codeAny_mono
abbrev Qw:=@PySem.Code.quiet_builtin
abbrev Qx:=@PySem.wpAny_execs_nil
abbrev Qy:=@List.nodup_cons
abbrev Qz:=@List.find?_cons
abbrev QA:=@PySem.wpAny_ite_split
abbrev QB:=@List.getElem?_eq_none
abbrev QC:=@List.take_append_drop
abbrev QD:=@PySem.F.slot_str_join
abbrev QE:=@PySem.F.type_str_join
abbrev QF:=@Nat.le_add_left
abbrev QG:=@List.any_cons
abbrev QH:=@Nat.le_of_succ_le
abbrev QI:=@PySem.W.looks_findIn
abbrev QJ:=@Nat.eq_of_testBit_eq
abbrev QK:=@PySem.codeAny_call_builtin
abbrev QL:=@List.mem_of_mem_drop
abbrev QM:=@Nat.le_succ
abbrev QN:=@PySem.wpAny_field
abbrev QO:=@Nat.pow_pos
abbrev QP:=@PySem.W.any_some
abbrev QQ:=@List.any_eq_true
abbrev QR:=@Nat.succ_le_succ
abbrev QS:=@PySem.wpAny_askSetting
abbrev QT:=@Nat.sub_lt_sub_left
abbrev QU:=@List.map_eq_nil_iff
abbrev QV:=@PySem.wpAny_getItem_str_slice
abbrev QW:=@PySem.wpAny_callSpecial?_slot
abbrev QX:=@List.filter_cons_of_neg
abbrev QY:=@PyProof.Rows.boot_tuple
abbrev QZ:=@PySem.wpAny_call
abbrev Q0:=@Nat.min_eq_left
abbrev Q1:=@Array.size_extract
abbrev Q2:=@PySem.W.funFrames_hide
abbrev Q3:=@Option.map_eq_some_iff
abbrev Q4:=@PySem.wpAny_pyIter_list
abbrev Q5:=@List.foldl_append
abbrev Q6:=@bne_self_eq_false
abbrev Q7:=@List.length_replicate
abbrev Q8:=@List.length_singleton
abbrev Q9:=@PySem.World.withFollow_self
abbrev Ra:=@PySem.W.hideAll_none
abbrev Rb:=@List.mem_append_left
abbrev Rc:=@PySem.wpAny_execs_cons
abbrev Rf:=@PySem.Calls.evalArgs_plain
abbrev Rg:=@or_false
abbrev Rh:=@List.isEmpty_nil
abbrev Ri:=@List.mem_of_mem_take
abbrev Rj:=@PySem.wpAny_attempt
abbrev Rk:=@Bool.false_or
abbrev Rm:=@PySem.plainId_quiet
abbrev Rn:=@PySem.W.looks_clsIn
abbrev Ro:=@PySem.wpAny_isSubtype_exc
abbrev Rp:=@List.map_congr_left
abbrev Rq:=@PySem.wpAny_passesOwn
abbrev Rr:=@Bool.or_eq_true
abbrev Rt:=@List.filter_map
abbrev Ru:=@Array.append_assoc
abbrev Rv:=@Option.isSome_iff_exists
abbrev Rw:=@List.getElem?_take_of_lt
abbrev Rx:=@PySem.tupleKind_room_in1
abbrev Ry:=@PySem.F.slot_list_getattribute
abbrev Rz:=@Bool.false_and
abbrev RA:=@PySem.typeIs_str
abbrev RB:=@PyProof.Rows.F.plain_set_update_loop
abbrev RC:=@PySem.wpAny_pyIter_enum
abbrev RD:=@Option.isSome_map
abbrev RE:=@List.all_eq_false
abbrev RF:=@List.getElem?_set_self
abbrev RG:=@PySem.Calls.callWith_builtin
abbrev RH:=@PyProof.Rows.split_pos
abbrev RI:=@Nat.log2_lt
abbrev RJ:=@List.filter_eq_nil_iff
abbrev RK:=@List.length_eq_one_iff
abbrev RL:=@Int.one_mul
abbrev RM:=@PySem.F.slot_str_split
abbrev RN:=@PySem.F.type_str_split
abbrev RO:=@PySem.W.mg_of
abbrev RP:=@Bool.not_true
abbrev RQ:=@List.cons.inj
abbrev RR:=@Nat.le_add_right
abbrev RS:=@PySem.builtinLookup_eq_fast
abbrev RT:=@PyProof.Rows.boot_int
abbrev RU:=@PyProof.Rows.boot_max
abbrev RV:=@PySem.plainObj_wpAny_Assign_Attribute
abbrev RW:=@PySem.Heap.get?_none_of_le
abbrev RX:=@List.getElem?_set_ne
abbrev RY:=@Nat.le_antisymm
abbrev RZ:=@PySem.call_meets
abbrev R0:=@Nat.zero_add
abbrev R1:=@PySem.post_val_or_str
abbrev R3:=@Option.map_some
abbrev R4:=@PySem.wpAny_typeOf
abbrev R5:=@PySem.codeAny_of_tree
abbrev R6:=@List.count_le_length
abbrev R7:=@List.forall_mem_cons
abbrev R8:=@PySem.W.plainGet_of
abbrev R9:=@ne_true_of_eq_false
abbrev Sa:=@PySem.wpAny_loadPart
abbrev Sb:=@if_true
abbrev Sd:=@PySem.wpAny_runValue
abbrev Se:=@PySem.wpAny_fieldsOf
abbrev Sf:=@List.Perm.refl
abbrev Sg:=@PyProof.Rows.joinParts_cons
abbrev Sh:=@List.dropLast_concat_getLast
abbrev Si:=@List.map_id
abbrev Sj:=@PySem.Calls.Constant_str
abbrev Sk:=@PySem.W.Looks.here
abbrev Sl:=@PySem.F.args_str_split_2
abbrev Sm:=@Nat.isDigit_of_mem_toDigits
abbrev Sn:=@Nat.testBit_two_pow_sub_one
abbrev So:=@PySem.F.slot_str_startswith
abbrev Sq:=@PySem.F.type_str_startswith
abbrev Sr:=@Int.fdiv_eq_ediv_of_nonneg
abbrev Ss:=@PySem.wpAny_newList
abbrev Su:=@List.length_eraseIdx_of_lt
abbrev Sv:=@Nat.length_toDigits_le_iff
abbrev Sw:=@PyProof.Rows.slice_from_eq
abbrev Sx:=@PyProof.Rows.firstMet_succ
abbrev Sy:=@PySem.Value.isInt_shape
abbrev Sz:=@PySem.wpAny_Assign_Name
abbrev SA:=@PySem.Within.cons
abbrev SD:=@Bool.eq_false_iff
abbrev SE:=@PySem.F.entry_str_split
abbrev SG:=@Nat.le_succ_of_le
abbrev SH:=@PySem.Obj.cls_mapFields
abbrev SI:=@PySem.F.slot_dict_getitem
abbrev SJ:=@Nat.not_lt
abbrev SK:=@PySem.F.plain_extend_loop
abbrev SM:=@Nat.lt_pow_two_of_testBit
abbrev SN:=@PySem.wpAny_lookBehind
abbrev SO:=@PySem.pastItsLine_dict
abbrev SQ:=@List.map_nil
abbrev SR:=@Nat.min_eq_right
abbrev SS:=@List.cons_append
abbrev SU:=@PySem.Txt.slice_le
abbrev SV:=@PySem.W.Looks.ld
abbrev SW:=@PySem.wpAny_landsW
abbrev SX:=@PySem.F.slot_str_split
abbrev SY:=@Bool.true_or
abbrev S0:=@PySem.F.slot_dict_values
abbrev S1:=@PyProof.Rows.boot_sorted
abbrev S2:=@List.getElem?_replicate
abbrev S3:=@List.filter_cons_of_pos
abbrev S4:=@List.of_mem_zip
abbrev S5:=@Nat.and_le_left
abbrev S6:=@PySem.pushCells_keeps
abbrev S7:=@PySem.typeLookup_type
abbrev S8:=@Nat.not_lt_zero
abbrev S9:=@PySem.wpAny_looks_onW
abbrev Ta:=@PySem.sizeLine_eq
abbrev Tc:=@Nat.mul_one
abbrev Td:=@List.drop_zero
abbrev Te:=@Nat.testBit_or
abbrev Tf:=@List.drop_drop
abbrev Tg:=@if_false
abbrev Th:=@Nat.mod_lt
abbrev Ti:=@Bool.or_false
abbrev Tj:=@List.all_cons
abbrev Tn:=@List.map_take
abbrev To:=@List.map_drop
namespace L2
open PySem PySem.Spec PyProof.Rows
abbrev Key:=Sum Int Str
def tY:Key->Value->Bool
 | .inl k,v=>Value.isInt k v
 | .inr x,v=>Value.isStrOf x v
def NN(w:vu):Key->Int
 | .inl k=>hashInt k
 | .inr x=>hashStr w x
theorem bV:∀ {k:Key} {v:Value},tY k v=true->(∃i t,k=Sum.inl i/\v=Value.int i t)\/(∃x t,k=Sum.inr x/\v=Value.str x t)
 | .inl i,v,h=>by obtain⟨t,e⟩:=Sy (k:=i) (v:=v) h;exact .inl #[i,t,2,e]
 | .inr x,v,h=>by obtain⟨t,e⟩:=Value.isStrOf_shape (x:=x) (v:=v) h;exact .inr #[x,t,2,e]
theorem Dp(i:Int)(t:Tok):tY (.inl i) (.int i t)=true:=by simp[tY,Value.isInt]
theorem Dm(x:Str)(t:Tok):tY (.inr x) (.str x t)=true:=by simp[tY,Value.isStrOf]
theorem LU(a b:Int):decide ((Sum.inl a:Key)=Sum.inl b)=(a==b):=by
 by_cases e:a=b
 .subst e;simp
 .have h:¬(Sum.inl a:Key)=Sum.inl b:=λq=>e (Sum.inl.inj q);rw[NX h];exact(P7.mpr e).symm
theorem LP(a b:Str):decide ((Sum.inr a:Key)=Sum.inr b)=decide (a=b):=by
 by_cases e:a=b
 .subst e;simp
 .have h:¬(Sum.inr a:Key)=Sum.inr b:=λq=>e (Sum.inr.inj q);rw[NX h,NX e]
theorem LR(a:Int)(b:Str):decide ((Sum.inl a:Key)=Sum.inr b)=false:=NX (λq=>nomatch q)
theorem LQ(a:Str)(b:Int):decide ((Sum.inr a:Key)=Sum.inl b)=false:=NX (λq=>nomatch q)
def bD(prog:tj)(w:vu):PySem.KeyKind prog w Key where
 is:=tY
 hash:=NN w
 inj:=λv a b f hb=>by
  rcases bV f with ⟨i,t,rfl,rfl⟩|⟨x,t,rfl,rfl⟩
  .rcases bV hb with ⟨j,u,rfl,e⟩|⟨y,u,rfl,e⟩
   .injection e with c _;rw[c]
   .exact nomatch e
  .rcases bV hb with ⟨j,u,rfl,e⟩|⟨y,u,rfl,e⟩
   .exact nomatch e
   .injection e with c _;rw[c]
 byValue:=λk v h=>by rcases bV h with ⟨i,t,rfl,rfl⟩|⟨x,t,rfl,rfl⟩<;>rfl
 pyHash:=λd h=>by
  rcases bV d with ⟨i,t,rfl,rfl⟩|⟨x,t,rfl,rfl⟩
  .exact wpAny_pyHash_int h
  .exact wpAny_pyHash_str h
 eqBool:=λg d h=>by
  rcases bV g with ⟨i,t,rfl,rfl⟩|⟨x,t,rfl,rfl⟩
  .rcases bV d with ⟨j,u,rfl,rfl⟩|⟨y,u,rfl,rfl⟩
   .rw[LU]at h;exact wpAny_eqBool_int h
   .rw[LR]at h;exact SeqAt.EqAt.int_str i t y u _ _ _ _ h
  .rcases bV d with ⟨j,u,rfl,rfl⟩|⟨y,u,rfl,rfl⟩
   .rw[LQ]at h;exact SeqAt.EqAt.str_int x t j u _ _ _ _ h
   .rw[LP]at h;exact wpAny_eqBool_str h
 «strs»:=λk x t v h=>by
  rcases bV h with ⟨i,u,rfl,e⟩|⟨y,u,rfl,e⟩
  .exact nomatch e
  .injection e with c _
   subst c;cases v<;>rfl
theorem xB(prog:tj)(w:vu)(i:Int)(t:Tok):(bD prog w).is (.inl i) (.int i t)=true:=Dp i t
theorem eN(prog:tj)(w:vu)(x:Str)(t:Tok):(bD prog w).is (.inr x) (.str x t)=true:=Dm x t
inductive V where
 |non|bl (b:Bool)|int (i:Int)|str (x:Str)|byt (b:Array UInt8)|flt (b:UInt64)|ref (a:Addr)|ty (n:tT)
 deriving DecidableEq
abbrev XS(a:Addr):Option V:=some (.ref a)
abbrev XQ(n:Nat):Option V:=some (.int n)
abbrev XZ(n:Int):Option V:=some (.int n)
def bo:V->Value->Prop
 | .non,u=>u=Value.none
 | .bl b,u=>u=Value.bool b
 | .int i,u=>∃t,u=Value.int i t
 | .str x,u=>∃t,u=Value.str x t
 | .byt b,u=>∃t,u=Value.bytes b t
 | .flt b,u=>∃t,u=Value.float b t
 | .ref a,u=>u=Value.ref a
 | .ty n,u=>u=Value.type n
abbrev Vals:List V->List Value->Prop:=Paired bo
theorem Vals.length{xs:List V}{us:qR}(r:Vals xs us):xs.length=us.length:=Paired.length r
theorem Vals.get:∀ {xs:List V} {us:qR} {i:Nat} {x:V},Vals xs us->xs[i]?=some x->∃u,us[i]?=some u/\bo x u
 |_,_,_,_, .nil,e=>by simp at e
 |_,_,0,_, .cons r _,e=>by simp at e;subst e;show#[7,r]
 |_,_,i+1,x, .cons _ t,e=>by obtain⟨u,a,b⟩:=Vals.get (i:=i) (x:=x) t #[5,e];show#[u,#[5,a],b]
theorem Vals.append:∀ {xs a:List V} {us ws:qR},Vals xs us->Vals a ws->Vals (xs++a) (us++ws)
 |_,_,_,_, .nil,s=>s
 |_,_,_,_, .cons r t,s=> .cons r (Vals.append t s)
theorem Vals.take:∀ {xs:List V} {us:qR} (n:Nat),Vals xs us->Vals (xs.take n) (us.take n)
 |_,_,0,_=> .nil
 |_,_,_+1, .nil=> .nil
 |_,_,n+1, .cons r t=> .cons r (Vals.take n t)
theorem Vals.drop:∀ {xs:List V} {us:qR} (n:Nat),Vals xs us->Vals (xs.drop n) (us.drop n)
 |_,_,0,r=>r
 |_,_,_+1, .nil=> .nil
 |_,_,n+1, .cons _ t=>Vals.drop n t
def ie:Option V->Option Value->Prop
 |some v,some u=>bo v u
 |none,none=>True
 |_,_=>False
def KV{a:Type}:List (a×V)->List (a×Value)->Prop:=Paired λ(p:a×V) (q:a×Value)=>p.1=q.1/\bo p.2 q.2
def kV:Key->V
 | .inl i=> .int i
 | .inr x=> .str x
inductive HO where
 |lst (xs:List V)
 |tup (xs:List V)
 |dK (kvs:List (Key×V))|dT (kvs:List (List Key×V))
 |set (S:Int->Bool) (n:Nat)
 |ins (C dx:Addr) (fs:List (Str×V))
 |own (x:Addr)
 |xd (fs:List (Str×V))
 |met (f x:Addr)
 |rng (lo hi:Int)
 |frz (o:Obj) (u:HO)
 |tbl (ps:qs)
 |ext (φ:Heap->Prop)
abbrev Hp:=Addr->Option HO
def upd(H:Hp)(a:Addr)(o:HO):Hp:=λb=>if b=a then some o else H b
theorem ag:upd H a o a=some o:=by unfold upd;rw[NZ rfl]
theorem aj(h:b≠a):upd H a o b=H b:=by unfold upd;rw[NW h]
theorem eC:upd (upd H a o) a u=upd H a u:=by funext b;unfold upd;split<;>rfl
theorem jG{H:Hp}(h:H a=some o)(h':H b=some u)(d:o≠u):a≠b:=by intro e;subst e;rw[h]at h';exact d (OA h')
theorem ah{H:Hp}(h:H a=some o)(h':H b=none):a≠b:=by intro e;subst e;rw[h]at h';cases h'
section
variable(P:tj)(w:vu)
def bx(H:Hp)(h:Heap)(a:Addr):HO->Prop
 | .lst xs=>xs.length<=sizeLine/\∃(c:qR)(n:Nat),Vals xs c/\h.get? a=some {cls:= .type Ts,data:= .seq c.toArray n}
 | .tup xs=>xs.length<=sizeLine/\∃c:List Value,Vals xs c/\IsTup h a c.toArray
 | .dK kvs=>kvs.length<=sizeLine/\(a==sysModules)=false/\∃vs,KV kvs vs/\h.DictOf (bD P w) a vs
 | .dT kvs=>kvs.length<=sizeLine/\(a==sysModules)=false/\∃xs:List (List Key×Addr×Value),
   Paired (λ(p:List Key×V) (q:List Key×Addr×Value)=>p.1=q.1/\H q.2.1=some (.tup (p.1.map kV))/\bo p.2 q.2.2) kvs xs/\
   ∃o es ep,h.get? a=some o/\o.ExactDict/\o.data= .dict es ep/\es.toList=xs.map (entryOfKey (tupleKind (bD P w)))/\(xs.map (·.1)).Nodup
 | .set S n=>h.SetOf (intKind P w) a S n
 | .ins C d fs=>H d=some (.own a)/\fs.length<=1000/\d≠a/\h.get? a=some (instObj C d)/\
   ∃b,h.Ns1 d b/\(∀f,ie (fs.lookup f) (b f))/\PySem.Within b (fs.map (·.1))
 | .own _=>∃o,h.get? a=some o
 | .xd fs=>∃b,h.Ns1 a b/\∀f,ie (fs.lookup f) (b f)
 | .rng k j=>∃t u v,h.get? a=some {cls:= .type Tx,data:= .fields #v[.int k t, .int j u, .int 1 v]}
 | .frz o u=>h.get? a=some o/\bx H h a u
 | .tbl ps=>h.get? a=some {cls:= .none,data:= .fields ps}
 | .met f x=>h.get? a=some (methodObj (.ref f) (.ref x))
 | .ext e=>e h/\(∃o,h.get? a=some o)/\∀g i:Heap,e g->(∀o,g.get? a=some o->i.get? a=some o)->e i
def HOk(H:Hp)(h:Heap):Prop:=∀a o,H a=some o->bx P w H h a o
end
section
variable{P:tj}{w:vu}{H H':Hp}{h h':Heap}{a:Addr}{o:HO}
theorem bx.lt(x:bx P w H h a o):a<h.objs.size:=by
 cases o with
 |lst xs=>obtain⟨_,_,_,_,e⟩:=x;exact N6 e
 |tup xs=>obtain⟨_,_,_,p⟩:=x;exact p.lt
 |dK kvs=>obtain⟨_,_,_,_,o,_,_,e,_⟩:=x;exact N6 e
 |dT kvs=>obtain⟨_,_,_,_,o,_,_,e,_⟩:=x;exact N6 e
 |set S n=>obtain⟨o,_,_,_,e,_⟩:=x;exact N6 e
 |ins C b fs=>obtain⟨_,_,_,e,_⟩:=x;exact N6 e
 |own y=>obtain⟨_,e⟩:=x;exact N6 e
 |xd fs=>obtain⟨_,⟨_,_,_,e,_⟩,_⟩:=x;exact N6 e
 |rng d c=>obtain⟨_,_,_,e⟩:=x;exact N6 e
 |frz g u=>obtain⟨e,_⟩:=x;exact N6 e
 |tbl ps=>exact N6 (show h.get? a=some _ from x)
 |met f y=>exact N6 (show h.get? a=some _ from x)
 |ext i=>obtain⟨_,⟨_,e⟩,_⟩:=x;exact N6 e
theorem Paired.mapP:∀ {c:List d} {l₂:List e},Paired F c l₂->(∀a b,F a b->G a b)->Paired G c l₂
 |_,_, .nil,_=> .nil
 |_,_, .cons r t,f=> .cons (f _ _ r) (Paired.mapP t f)
theorem bx.stay(x:bx P w H h a o)(k:∀b u,(b=a\/H b=some (.own a))->h.get? b=some u->h'.get? b=some u)(m:∀b,H b=some (.own a)->H' b=some (.own a))(s:∀b xs,H b=some (.tup xs)->H' b=some (.tup xs)):bx P w H' h' a o:=by
 induction o with
 |lst xs=>obtain⟨z,i,n,r,e⟩:=x;show#[z,i,n,r,k _ _ (.inl rfl) e]
 |tup xs=>obtain⟨z,i,r,g,e,c⟩:=x;show#[z,i,r,g,k _ _ (.inl rfl) e,c]
 |dK kvs=>obtain⟨z,y,vs,r,g,es,ep,e,c⟩:=x;show#[z,y,vs,r,g,es,ep,k _ _ (.inl rfl) e,c]
 |dT kvs=>
  obtain⟨z,y,xs,r,g,es,ep,e,c⟩:=x;show#[z,y,xs,Paired.mapP r λp q z=>#[z.1,s _ _ z.2.1,z.2.2],g,es,ep,k _ _ (.inl rfl) e,c]
 |set S n=>obtain⟨g,es,ep,t,e,c⟩:=x;show#[g,es,ep,t,k _ _ (.inl rfl) e,c]
 |ins C B fs=>
  obtain⟨d,z,ne,e,j,⟨od,es,ep,l,c⟩,r⟩:=x;show#[m _ d,z,ne,k _ _ (.inl rfl) e,j,#[od,es,ep,k _ _ (.inr d) l,c],r]
 |own y=>obtain⟨g,e⟩:=x;show#[g,k _ _ (.inl rfl) e]
 |xd fs=>obtain⟨j,⟨od,es,ep,e,c⟩,r⟩:=x;show#[j,#[od,es,ep,k _ _ (.inl rfl) e,c],r]
 |rng J G=>obtain⟨t,u,v,e⟩:=x;show#[t,u,v,k _ _ (.inl rfl) e]
 |frz g u A=>obtain⟨e,q⟩:=x;show#[k _ _ (.inl rfl) e,A q]
 |tbl ps=>
  have e:h.get? a=some {cls:= .none,data:= .fields ps}:=x;show h'.get? a=some {cls:= .none,data:= .fields ps};exact k a _ (.inl rfl) e
 |met f y=>
  have e:h.get? a=some (methodObj (.ref f) (.ref y)):=x;show h'.get? a=some (methodObj (.ref f) (.ref y));exact k a _ (.inl rfl) e
 |ext K=>obtain⟨p,⟨o,e⟩,st⟩:=x;show#[st _ _ p λo q=>k _ _ (.inl rfl) q,#[o,k _ _ (.inl rfl) e],st]
theorem HOk.lt(x:HOk P w H h)(e:H a=some o):a<h.objs.size:=(x a o e).lt
theorem HOk.fresh(x:HOk P w H h)(e:h.objs.size<=a):H a=none:=by
 cases q:H a with
 |none=>rfl
 |some u=>exact absurd (N7 (x.lt q) e) (Pt _)
theorem HOk.kept(x:HOk P w H h)(k:∀b u,h.get? b=some u->h'.get? b=some u):HOk P w H h':=λa o e=>
 (x a o e).stay (λb u _ q=>k b u q) (λ_ q=>q) λ_ _ q=>q
theorem HOk.laid(x:HOk P w H h)(k:∀b u,h.get? b=some u->h'.get? b=some u)(f:h.objs.size<=a)(new:bx P w (upd H a o) h' a o):HOk P w (upd H a o) h':=λb u e=>by
 have d:=x.fresh f;by_cases hb:b=a
 .subst hb;rw[ag]at e;cases e;exact new
 .rw[aj hb]at e;exact(x b u e).stay (λc v _ q=>k c v q) (λc q=>by rw[aj (ah q d)];exact q) λc xs q=>by rw[aj (ah q d)];exact q
end
def Rd(H:Hp)(a:Addr)(u:HO):Prop:=H a=some u\/∃o,H a=some (.frz o u)
theorem Rd.ok(r:Rd H a u)(x:HOk P w H h):bx P w H h a u:=by
 rcases r with r|⟨o,r⟩
 .exact x a u r
 .obtain⟨_,q⟩:=x a _ r;exact q
def Mut:Option HO->Prop
 |some (.lst _)=>True
 |some (.dK _)=>True
 |some (.dT _)=>True
 |some (.set _ _)=>True
 |some (.ins _ _ _)=>True
 |some (.ext _)=>True
 |_=>False
section
variable{P:tj}{w:vu}{H:Hp}{h h':Heap}{x e:Addr}{o':HO}
theorem HOk.write(ok:HOk P w H h)(f:Mut (H x))(g:e=x\/H e=some (.own x))(k:∀b u,b≠e->h.get? b=some u->h'.get? b=some u)(l:∃u,h'.get? e=some u)(new:bx P w (upd H x o') h' x o'):HOk P w (upd H x o') h':=λb u q=>by
 have i:∀c y,H c=some (.own y)->c≠x:=λc y r z=>by subst z;rwa[r]at f
 have n:∀c xs,H c=some (.tup xs)->c≠x:=λc xs r z=>by subst z;rwa[r]at f
 by_cases hb:b=x
 .subst hb;rw[ag]at q;cases q;exact new
 .rw[aj hb]at q;by_cases a:b=e
  .have j:H b=some (.own x):=by
    rcases g with z|z
    .exact absurd (a.trans z) hb
    .rw[a];exact z
   rw[q]at j;cases j;obtain⟨v,m⟩:=l;show#[v,by rw[a];exact m]
  .refine(ok b u q).stay (λc v d r=>k c v ?_ r) (λc r=>by rw[aj (i c b r)];exact r) λc xs r=>by rw[aj (n c xs r)];exact r
   rcases d with rfl|d
   .exact a
   .rintro rfl;rcases g with z|z
    .exact i c b d z
    .rw[d]at z;cases z;exact hb rfl
end
structure Un(fs ex:List Addr)(H H':Hp)(h h':Heap):Prop where
 keep:∀b o,h.get? b=some o->H b=none->b∉fs->b∉ex->h'.get? b=some o
 slot:∀b o,h.get? b=some o->H b=none->b∈fs->b∉ex->∃sl,h'.get? b=some {o with slots:=sl}
 free:∀b o,h.get? b=some o->H b=none->b∉ex->H' b=none
 there:∀b o,h.get? b=some o->b∉ex->∃o',h'.get? b=some o'
 tups:∀b xs,H b=some (.tup xs)->H' b=some (.tup xs)
 frzs:∀b o u,H b=some (.frz o u)->H' b=some (.frz o u)
 tbls:∀b ps,H b=some (.tbl ps)->∃more,H' b=some (.tbl (ps++more))
section
variable{fs fs' ex ex':List Addr}{H H1 H2:Hp}{h h1 h2 h':Heap}{a x e:Addr}{o:HO}
theorem Un.any(u:Un fs ex H H1 h h1)(q:h.get? b=some c)(n:H b=none)(hx:b∉ex):∃d,h1.get? b=some {c with slots:=d}:=by
 by_cases hb:b∈fs
 .exact u.slot b c q n hb hx
 .show#[c.slots,u.keep b c q n hb hx]
theorem Un.kept(k:∀b u,h.get? b=some u->h'.get? b=some u):Un fs ex H H h h':=
 #[λb c q _ _ _=>k b c q,λb c q _ _ _=>#[c.slots,k b c q],λ_ _ _ n _=>n,λb c q _=>#[c,k b c q],λ_ _ q=>q,λ_ _ _ q=>q,λ_ ps q=>#[#v[],by rw[q];simp]]
theorem Un.refl:Un fs ex H H h h:=Un.kept λ_ _ q=>q
theorem Un.laid(k:∀b u,h.get? b=some u->h'.get? b=some u)(d:h.objs.size<=a)(c:H a=none):Un fs ex H (upd H a o) h h' where
 keep:=λb u q _ _ _=>k b u q
 slot:=λb u q _ _ _=>#[u.slots,k b u q]
 free:=λb u q n _=>by rw[aj (Oe (N7 (N6 q) d))];exact n
 there:=λb u q _=>#[u,k b u q]
 tups:=λb xs q=>by rw[aj (ah q c)];exact q
 frzs:=λb u xs q=>by rw[aj (ah q c)];exact q
 tbls:=λb ps q=>#[#v[],by rw[aj (ah q c),q];simp]
theorem Un.write(c:Mut (H x))(g:e=x\/H e=some (.own x))(k:∀b u,b≠e->h.get? b=some u->h'.get? b=some u)(i:∃u,h'.get? e=some u):Un fs ex H (upd H x o) h h':=by
 have hx:∀b,H b=none->b≠x:=λb n z=>by subst z;rwa[n]at c
 have hb:∀b,H b=none->b≠e:=λb n z=>by
  subst z;rcases g with r|r
  .exact hx b n r
  .rw[n]at r;cases r
 have d:∀b u,H b=some u->¬Mut (some u)->b≠x:=λb u q nm z=>by subst z;rw[q]at c;exact nm c
 show#[λb u q n _ _=>k b u (hb b n) q,λb u q n _ _=>#[u.slots,k b u (hb b n) q],λb u q n _=>by rw[aj (hx b n)];exact n,λb u q _=> ?_,
  λb xs q=>by rw[aj (d b _ q λz=>z)];exact q,λb u xs q=>by rw[aj (d b _ q λz=>z)];exact q,λb ps q=>#[#v[],by rw[aj (d b _ q λz=>z),q];simp]]
 by_cases f:b=e
 .subst f;exact i
 .show#[u,k b u f q]
end
def trk(h:Heap)(H:Hp):List Addr:=(List.range h.objs.size).filter λa=>(H a).isSome
def vI(h:Heap)(H:Hp):Heap:=hideAll h (trk h H)
theorem Du(h:Heap)(H:Hp):(vI h H).objs.size=h.objs.size:=PySem.W.hideAll_size _ _
theorem Ga{h:Heap}(e:h.get? b=some o)(n:H b=none):(vI h H).get? b=some o:=
 OT _ e λa=>by have q:(H b).isSome=true:=(Pp.mp a).2;rw[n]at q;simp at q
theorem Jc{h:Heap}(e:(vI h H).get? b=some o):h.get? b=some o/\H b=none:=by
 have a:h.get? b=some o:=Qh (trk h H) e;show#[a,6];cases q:H b with
 |none=>rfl
 |some x=>
  have c:b∈trk h H:=Pp.mpr #[OQ.mpr (N6 a),by simp[q]];have z:(vI h H).get? b=none:=Ra (trk h H) c;rw[z]at e;cases e
def JX(g h:Heap)(L:Addr):List (Addr×Obj):=(List.range h.objs.size).filterMap λa=>if a=L\/(g.get? a).isSome=true then none else(h.get? a).map λo=>(a,o)
def rest(g h:Heap)(L d:Addr):List (Addr×Obj):=(JX g h L).filter λp=>decide (p.1≠d)
structure Mod(K:Frag)(mg:i2)(base:Heap):Prop where
 kin:K.In base
 glob:base.Ns mainGlobals mg
 blt:∃mb,base.Ns builtinsNs mb/\∀x:Str,x≠ Ud->mb x=bootBuiltins x
 nolimit:base.NoLimit
structure Cx where
 prog:Program
 w:World
 K:Frag
 mg:Str->Option Value
 base:Heap
 A:Around
 N:List Str
 s₀:Shared
 H₀:Hp
 env:Env
 outer:List Env
 stack:List Env
 ex:List Addr
 fn:Str->Bool
 calm:Bool
 pn:List (Addr×Obj)
 xe:Value->Shared->Prop
def frs(l:ti):List Addr:=l.filterMap (·.frame)
abbrev Cx.fs(X:Cx):List Addr:=frs X.outer
def Vis(a:Scope)(x:Str):Prop:=a.names.lookup x=some .local\/a.names.lookup x=some .cell\/a.names.lookup x=some .free
def Loc(a:Scope)(x:Str):Prop:=a.names.lookup x=some .local\/a.names.lookup x=some .cell
def Look(env:Env)(h:Heap)(m:i2)(x:Str)(u:Value):Prop:=
 (env.kindOf x=some .local/\m x=some u)\/((env.kindOf x=some .cell\/env.kindOf x=some .free)/\∃c,env.cells.lookup x=some c/\h.IsCell c (some u))
structure Cx.Ok(X:Cx):Prop where
 mod:Mod X.K X.mg X.base
 kind:X.env.scope.kind= .function
 glob:X.env.globals=mainGlobals
 blt:X.env.builtins=builtinsNs
 above:X.s₀.heap.objs.size<=X.env.locals
 inj:∀x y c,X.env.cells.lookup x=some c->X.env.cells.lookup y=some c->x=y
 has:∀x,(X.env.kindOf x=some .cell\/X.env.kindOf x=some .free)->∃c,X.env.cells.lookup x=some c
 cab:∀x c,X.fn x=true->X.env.cells.lookup x=some c->X.s₀.heap.objs.size<=c
 hd:X.calm=true->X.A.handled=none
 frames:X.A.frames=some X.stack
 stk:X.stack=X.outer\/(X.stack=X.env::X.outer/\X.env.frame=some X.env.locals)
 exf:∀b∈X.ex,b≠X.env.locals/\∀x c,X.env.cells.lookup x=some c->c≠b
 bs:∀b o,X.base.get? b=some o->X.s₀.heap.get? b=some o/\X.H₀ b=none
 bsz:X.base.objs.size<=X.s₀.heap.objs.size
 noex:∀b o,X.base.get? b=some o->b∉X.ex
 exfs:∀b∈X.ex,b∉X.fs
 funs:X.s₀.heap.FunFrames X.base X.outer
 frf:∀b∈X.fs,X.H₀ b=none
structure Inv(X:Cx)(pins:js)(σ:List (Option V))(H:Hp)(s:tr):Prop where
 ok:X.Ok
 os:s.os=X.s₀.os
 bare:AllBare s.gens
 base:Un X.fs X.ex X.H₀ H X.s₀.heap s.heap
 loc:∃m,s.heap.Ns X.env.locals m/\∀(i:Nat)(x:Str)(v:V),X.N[i]?=some x->σ[i]?=some (some v)->Vis X.env.scope x->∃u,bo v u/\Look X.env s.heap m x u
 cell:∀x c,X.env.cells.lookup x=some c->∃v,s.heap.IsCell c v
 free:H X.env.locals=none
 freeC:∀x c,X.env.cells.lookup x=some c->H c=none
 pin:∀p∈X.pn++pins,s.heap.get? p.1=some p.2/\H p.1=none/\p.1≠X.env.locals/\p.1∉X.fs/\∀v,p.2.data≠ .cell v
 hok:HOk X.prog X.w H s.heap
 len:σ.length=X.N.length
section
variable{X:Cx}{pins:js}{σ:List (Option V)}{H H':Hp}{s:tr}{h':Heap}
theorem Cx.Ok.nofr(ok:X.Ok)(e:X.base.get? b=some o):b∉X.fs:=λhb=>by have:=(ok.funs.mem hb).1;rw[e]at this;cases this
theorem Inv.bs(I:Inv X pins σ H s):∀b o,X.base.get? b=some o->s.heap.get? b=some o/\H b=none:=λb o e=>
 #[I.base.keep b o (I.ok.bs b o e).1 (I.ok.bs b o e).2 (I.ok.nofr e) (I.ok.noex b o e),I.base.free b o (I.ok.bs b o e).1 (I.ok.bs b o e).2 (I.ok.noex b o e)]
theorem Inv.bk(I:Inv X pins σ H s):∀b o,X.base.get? b=some o->s.heap.get? b=some o:=λb o e=>(I.bs b o e).1
theorem Inv.mod(I:Inv X pins σ H s):Mod X.K X.mg X.base:=I.ok.mod
theorem Inv.kIn(I:Inv X pins σ H s):X.K.In s.heap:=I.ok.mod.kin.keeps I.bk
theorem Inv.lt(I:Inv X pins σ H s):X.env.locals<s.heap.objs.size:=let⟨_,a,_⟩:=I.loc;a.lt
theorem Inv.sz(I:Inv X pins σ H s):X.s₀.heap.objs.size<=s.heap.objs.size:=NV I.ok.above (Qa I.lt)
theorem Inv.nofs(I:Inv X pins σ H s){a:Addr}(h:s.heap.objs.size<=a):a∉X.fs:=λhb=>by obtain⟨_,o,b,_⟩:=I.ok.funs.mem hb;exact absurd (N7 (N6 b) (NV I.sz h)) (Pt _)
theorem Inv.cne(I:Inv X pins σ H s):∀x c,X.env.cells.lookup x=some c->c≠X.env.locals:=λx c e z=>by obtain⟨v,o,b,a⟩:=I.cell x c e;obtain⟨m,⟨g,es,ep,f,d,_⟩,_⟩:=I.loc;rw[z,f]at b;cases b;rw[d]at a;cases a
theorem Inv.funs(I:Inv X pins σ H s):s.heap.FunFrames X.base X.outer:=by
 have all:∀(l:ti),(∀b∈frs l,b∈X.fs)->X.s₀.heap.FunFrames X.base l->s.heap.FunFrames X.base l:=by
  intro l
  induction l with
  |nil=>intro _ _;trivial
  |cons env r k=>
   intro d hl;obtain⟨g,⟨L,o,c,h,i,f⟩,j⟩:=hl;have a:L∈X.fs:=d L (by unfold frs;rw[P8,c];exact N8);obtain⟨m,e⟩:=I.base.slot L o i (I.ok.frf L a) a λz=>I.ok.exfs L z a;show#[g,#[L,_,c,h,e,f],k (λb hb=>d b (by unfold frs;rw[P8,c];exact N4 _ hb)) j]
 exact all X.outer (λ_ hb=>hb) I.ok.funs
theorem Inv.stack(I:Inv X pins σ H s):s.heap.FunFrames X.base X.stack:=by
 rcases I.ok.stk with e|⟨e,a⟩
 .rw[e];exact I.funs
 .rw[e];obtain⟨m,b,_⟩:=I.loc;refine .cons (by rw[I.ok.kind];decide) a b ?_ I.funs;exact RW (NV I.ok.bsz I.ok.above)
theorem Inv.stkSub(I:Inv X pins σ H s):∀b∈frs X.stack,b∈X.env.locals::X.fs:=λb hb=>by
 rcases I.ok.stk with e|⟨e,a⟩
 .rw[e]at hb;exact N4 _ hb
 .rw[e]at hb;unfold frs at hb;rwa[P8,a]at hb
theorem Inv.stkFree(I:Inv X pins σ H s):∀b∈frs X.stack,H b=none:=λb hb=>by
 rcases N1.mp (I.stkSub b hb)with e|hb
 .rw[e];exact I.free
 .obtain⟨_,o,a,_⟩:=I.ok.funs.mem hb;exact I.base.free b o a (I.ok.frf b hb) λz=>I.ok.exfs b z hb
theorem Inv.step{ch:List Addr}(I:Inv X pins σ H s)(h:∀b∈ch,(b∈X.ex\/X.s₀.heap.objs.size<=b)/\b≠X.env.locals/\(∀x c,X.env.cells.lookup x=some c->c≠b)/\∀p∈X.pn++pins,p.1≠b)(keep:∀b o,b≠X.env.locals->b∉X.fs->b∉ch->s.heap.get? b=some o->H b=none->h'.get? b=some o)(slot:∀b o,b≠X.env.locals->b∈X.fs->b∉ch->s.heap.get? b=some o->H b=none->∃B,h'.get? b=some {o with slots:=B})(free:∀b o,b∉ch->s.heap.get? b=some o->H b=none->H' b=none)(there:∀b o,b∉ch->s.heap.get? b=some o->∃t,h'.get? b=some t)(ar:∀b xs,H b=some (.tup xs)->H' b=some (.tup xs))(N:∀b o u,H b=some (.frz o u)->H' b=some (.frz o u))(af:∀b ps,H b=some (.tbl ps)->∃more,H' b=some (.tbl (ps++more)))(ns:∀m,s.heap.Ns X.env.locals m->h'.Ns X.env.locals m)(U:HOk X.prog X.w H' h')(O:AllBare g'):
  Inv X pins σ H' {s with heap:=h',gens:=g',drawn:=d',toks:=t'}:=by
 have K:∀b o,X.s₀.heap.get? b=some o->b≠X.env.locals:=λb o e=>Oe (N7 (N6 e) I.ok.above);have y:∀b o,X.s₀.heap.get? b=some o->b∉X.ex->b∉ch:=λb o e hx hb=>by
  rcases(h b hb).1 with z|z
  .exact hx z
  .exact absurd (N7 (N6 e) z) (Pt _)
 have cellK:∀x c,X.env.cells.lookup x=some c->∀v,s.heap.IsCell c v->h'.IsCell c v:=λx c e v ⟨o,f,A⟩=>by
  have j:c∉ch:=λz=>(h c z).2.2.1 x c e rfl;by_cases G:c∈X.fs
  .obtain⟨B,q⟩:=slot c o (I.cne x c e) G j f (I.freeC x c e);show#[_,q,A]
  .show#[o,keep c o (I.cne x c e) G j f (I.freeC x c e),A]
 show#[I.ok,I.os,O,#[λb o e n hb hx=> ?_,λb o e n hb hx=> ?_,λb o e n hx=> ?_,λb o e hx=> ?_,λb xs e=>ar b xs (I.base.tups b xs e),λb o xs e=>N b o xs (I.base.frzs b o xs e),λb ps e=> ?_],6,λx c e=> ?_,6,λx c e=> ?_,λp J=> ?_,U,I.len]
 .exact keep b o (K b o e) hb (y b o e hx) (I.base.keep b o e n hb hx) (I.base.free b o e n hx)
 .obtain⟨B,a⟩:=I.base.slot b o e n hb hx;obtain⟨ab,g⟩:=slot b _ (K b o e) hb (y b o e hx) a (I.base.free b o e n hx);show#[ab,g]
 .obtain⟨t,a⟩:=I.base.there b o e hx;exact free b t (y b o e hx) a (I.base.free b o e n hx)
 .obtain⟨t,a⟩:=I.base.there b o e hx;exact there b t (y b o e hx) a
 .obtain⟨m1,a⟩:=I.base.tbls b ps e;obtain⟨m2,g⟩:=af b _ a;show#[m1++m2,by rw[g,Ru]]
 .obtain⟨m,Q,hl⟩:=I.loc;show#[m,ns m Q,λi x v a g M=> ?_];obtain⟨u,r,l⟩:=hl i x v a g M;show#[u,r,6];rcases l with l|⟨k,c,e,z⟩
  .exact .inl l
  .exact .inr #[k,c,e,cellK x c e _ z]
 .obtain⟨v,z⟩:=I.cell x c e;show#[v,cellK x c e v z]
 .obtain⟨m,⟨o,_,_,f,_⟩,_⟩:=I.loc;exact free _ o (λz=>(h _ z).2.1 rfl) f I.free
 .obtain⟨v,o,f,A⟩:=I.cell x c e;exact free c o (λz=>(h c z).2.2.1 x c e rfl) f (I.freeC x c e)
 .obtain⟨e,n,ne,L,d⟩:=I.pin p J;have j:p.1∉ch:=λz=>(h p.1 z).2.2.2 p J rfl;show#[keep p.1 p.2 ne L j e n,free p.1 p.2 j e n,ne,L,d]
theorem Inv.un(I:Inv X pins σ H s)(u:Un X.fs [] H H' s.heap h')(i:HOk X.prog X.w H' h'):Inv X pins σ H' {s with heap:=h',toks:=t'}:=by
 obtain⟨m,⟨o,es,ep,a,r⟩,_⟩:=id I.loc;obtain⟨p,g⟩:=u.any a I.free #[5];exact I.step (g':=s.gens) (d':=s.drawn) (ch:=[]) (λ_ z=>nomatch z) (λb o _ hb _ e n=>u.keep b o e n hb #[5]) (λb o _ hb _ e n=>u.slot b o e n hb #[5]) (λb o _ e n=>u.free b o e n #[5]) (λb o _ e=>u.there b o e #[5]) u.tups u.frzs u.tbls (λk h=>by obtain⟨l,f,d,c,j⟩:=h;rw[a]at c;cases c;show#[_,f,d,g,j]) i I.bare
theorem Inv.call(I:Inv X pins σ H s)(u:Un (frs X.stack) ch H H' s.heap h')(q:HOk X.prog X.w H' h')(k:AllBare g')(f:∀b∈ch,(b∈X.ex\/X.s₀.heap.objs.size<=b)/\b≠X.env.locals/\(∀x c,X.env.cells.lookup x=some c->c≠b)/\∀p∈X.pn++pins,p.1≠b):
  Inv X pins σ H' {s with heap:=h',gens:=g',drawn:=d',toks:=t'}:=by
 obtain⟨m,⟨o,es,ep,g,r⟩,_⟩:=id I.loc;obtain⟨A,d⟩:=u.any g I.free λz=>(f _ z).2.1 rfl;exact I.step (ch:=ch) f (λb o d hb a e n=>u.keep b o e n (λz=>(N1.mp (I.stkSub b z)).elim d hb) a) (λb o _ _ a e n=>u.any e n a) (λb o a e n=>u.free b o e n a) (λb o a e=>u.there b o e a) u.tups u.frzs u.tbls (λv l=>by obtain⟨y,j,i,h,t⟩:=l;rw[g]at h;cases h;show#[_,j,i,d,t]) q k
theorem Inv.turned(I:Inv X pins σ H s)(k:∀b o,b≠it->s.heap.get? b=some o->h'.get? b=some o)(l:H it=none)(d:it≠X.env.locals)(g:it∈X.ex\/X.s₀.heap.objs.size<=it)(h:∀x c,X.env.cells.lookup x=some c->c≠it)(i:∀p∈X.pn++pins,p.1≠it):Inv X pins σ H {s with heap:=h',toks:=t'}:=by
 have f:∀b u,H b=some u->b≠it:=λb u e z=>by rw[z,l]at e;cases e
 refine I.step (g':=s.gens) (d':=s.drawn) (ch:=[it]) (λb hb=> ?_) (λb o _ _ a e _=>k b o (λz=>a (by simp[z])) e) (λb o _ _ a e _=>#[o.slots,k b o (λz=>a (by simp[z])) e]) (λ_ _ _ _ n=>n)
  (λb o a e=>#[o,k b o (λz=>a (by simp[z])) e]) (λ_ _ e=>e) (λ_ _ _ e=>e) (λb ps e=>#[#v[],by rw[e];simp]) (λm j=> ?_) (λb u e=> ?_) I.bare
 .have e:b=it:=#[5,hb]
  subst e;show#[g,d,h,i]
 .obtain⟨o,es,ep,t,r⟩:=j;show#[o,es,ep,k _ o (Pj d) t,r]
 .refine(I.hok b u e).stay (λc v a q=>k c v ?_ q) (λ_ q=>q) λ_ _ q=>q;rcases a with z|z
  .rw[z];exact f b u e
  .exact f c _ z
theorem Inv.tok(I:Inv X pins σ H s)(t:Nat):Inv X pins σ H {s with toks:=t}:=I.un (h':=s.heap) (t':=t) Un.refl I.hok
theorem Inv.kept(I:Inv X pins σ H s)(k:∀b u,s.heap.get? b=some u->h'.get? b=some u):Inv X pins σ H {s with heap:=h',toks:=t'}:=I.un (Un.kept k) (I.hok.kept k)
theorem Inv.laid{a:Addr}(I:Inv X pins σ H s)(k:∀b u,s.heap.get? b=some u->h'.get? b=some u)(c:s.heap.objs.size<=a)(new:bx X.prog X.w (upd H a o) h' a o):
  Inv X pins σ (upd H a o) {s with heap:=h',toks:=t'}:=I.un (Un.laid k c (I.hok.fresh c)) (I.hok.laid k c new)
theorem Inv.write(I:Inv X pins σ H s)(d:Mut (H x))(a:e=x\/H e=some (.own x))(k:∀b u,b≠e->s.heap.get? b=some u->h'.get? b=some u)(c:∃u,h'.get? e=some u)(new:bx X.prog X.w (upd H x o) h' x o):Inv X pins σ (upd H x o) {s with heap:=h',toks:=t'}:=I.un (Un.write d a k c) (I.hok.write d a k c new)
theorem Inv.pins_of(I:Inv X pins σ H s)(h:∀p∈pins',s.heap.get? p.1=some p.2/\H p.1=none/\p.1≠X.env.locals/\p.1∉X.fs/\∀v,p.2.data≠ .cell v):Inv X pins' σ H s:=
 #[I.ok,I.os,I.bare,I.base,I.loc,I.cell,I.free,I.freeC,λp a=>(OS.mp a).elim (λz=>I.pin p (Rb _ z)) (h p),I.hok,I.len]
theorem qY{N:r9}(e:N.Nodup){i j:Nat}(a:N[i]?=some x)(b:N[j]?=some x):i=j:=by obtain⟨f,c⟩:=Oc.mp a;obtain⟨g,d⟩:=Oc.mp b;exact(List.getElem_inj e).mp (c.trans d.symm)
theorem sT{M:Model}{A:vr}{E:f6}{i:Nat}{x:Str}{v:V}{u:Value}{Q:hX}(I:Inv X pins σ H s)(hN:X.N.Nodup)(J:X.N[i]?=some x)(hx:Loc X.env.scope x)(r:bo v u)(h:∀s',Inv X pins (σ.set i (some v)) H s'->(∃a,Heap.SameBut a s.heap s'.heap/\(a=X.env.locals\/X.env.cells.lookup x=some a))->Q Unit.unit s')(hf:X.fn x=true\/X.env.scope.names.lookup x=some .local:=by first|exact .inl rfl|exact .inr rfl|assumption):wpAny M A (storeName X.env x u) Q E s:=by
 obtain⟨m,hn,hl⟩:=id I.loc;have b5:(X.env.scope.kind== .class||(X.env.scope.kind== .module&&X.env.locals !=X.env.globals))=false:=by rw[I.ok.kind];rfl
 have b1:i<σ.length:=by rw[I.len];exact(Oc.mp J).1
 have cne:=I.cne;have tracked:∀ {a:Addr} {h':Heap},(∃o,s.heap.get? a=some o/\H a=none)->Heap.SameBut a s.heap h'->HOk X.prog X.w H h':=λ{a h'} ha f b ob e=>by
  obtain⟨_,_,b0⟩:=ha;refine(I.hok b ob e).stay (λc L l q=>(f.2 c ?_).trans q) (λ_ q=>q) λ_ _ q=>q;rintro rfl;rcases l with rfl|l
  .rw[b0]at e;cases e
  .rw[b0]at l;cases l
 rcases hx with B|B
 .refine wpAny_storeName_local B hn (λh' b7 f=> ?_) b5;obtain⟨oL,_,_,b8,_⟩:=id hn;refine h _ #[I.ok,I.os,I.bare,#[λb o e n hb hx=> ?_,λb o e n hb hx=> ?_,I.base.free,λb o e hx=> ?_,I.base.tups,I.base.frzs,I.base.tbls],#[_,b7,λj y v' g t O=> ?_],λy c e=> ?_,I.free,I.freeC,λp hp=> ?_,tracked #[oL,b8,I.free] f,#[5,I.len]] #[_,f, .inl rfl]
  .exact(f.2 b (Oe (N7 (N6 e) I.ok.above))).trans (I.base.keep b o e n hb hx)
  .obtain⟨sl,g⟩:=I.base.slot b o e n hb hx;show#[sl,(f.2 b (Oe (N7 (N6 e) I.ok.above))).trans g]
  .obtain⟨o',g⟩:=I.base.there b o e hx;show#[o',(f.2 b (Oe (N7 (N6 e) I.ok.above))).trans g]
  .by_cases G:j=i
   .subst G;rw[J]at g;cases g;rw[RF b1]at t;cases t;show#[u,r, .inl #[B,#[5]]]
   .rw[RX (Pj G)]at t;obtain⟨u',r',q⟩:=hl j y v' g t O;show#[u',r',6];rcases q with ⟨k,e⟩|⟨k,c,e,z⟩
    .refine .inl #[k,6];have:y≠x:=λe=>G (qY hN g (e▸J));simp[this,e]
    .exact .inr #[k,c,e,z.sameBut f (cne y c e)]
  .obtain⟨L,z⟩:=I.cell y c e;show#[L,z.sameBut f (cne y c e)]
  .obtain⟨e,n,ne,nf,d⟩:=I.pin p hp;show#[(f.2 p.1 ne).trans e,n,ne,nf,d]
 .have U:X.fn x=true:=by
   rcases hf with z|z
   .exact z
   .rw[z]at B;cases B
  obtain⟨c,l⟩:=I.ok.has x (.inl B);obtain⟨L,z⟩:=I.cell x c l;refine wpAny_storeName_cell I.ok.kind B l z (λh' bp f=> ?_);obtain⟨oc,b2,cm⟩:=id z;refine h {s with heap:=h'} #[I.ok,I.os,I.bare,#[λb o e n hb hx=> ?_,λb o e n hb hx=> ?_,I.base.free,λb o e hx=> ?_,I.base.tups,I.base.frzs,I.base.tbls],#[m,hn.sameBut f (Pj (cne x c l)),λj y v' g t O=> ?_],λy K e=> ?_,I.free,I.freeC,λp hp=> ?_,tracked #[oc,b2,I.freeC x c l] f,#[5,I.len]] #[c,f, .inr l]
  .exact(f.2 b (Oe (N7 (N6 e) (I.ok.cab x c U l)))).trans (I.base.keep b o e n hb hx)
  .obtain⟨sl,g⟩:=I.base.slot b o e n hb hx;show#[sl,(f.2 b (Oe (N7 (N6 e) (I.ok.cab x c U l)))).trans g]
  .obtain⟨o',g⟩:=I.base.there b o e hx;show#[o',(f.2 b (Oe (N7 (N6 e) (I.ok.cab x c U l)))).trans g]
  .by_cases G:j=i
   .subst G;rw[J]at g;cases g;rw[RF b1]at t;cases t;show#[u,r, .inr #[.inl B,c,l,bp]]
   .rw[RX (Pj G)]at t;obtain⟨u',r',q⟩:=hl j y v' g t O;show#[u',r',6];rcases q with q|⟨k,K,e,z'⟩
    .exact .inl q
    .refine .inr #[k,K,e,z'.sameBut f ?_];rintro rfl;exact G (qY hN g (I.ok.inj _ _ _ e l▸J))
  .by_cases bN:K=c
   .subst bN;show#[_,bp]
   .obtain⟨w2,z2⟩:=I.cell y K e;show#[w2,z2.sameBut f bN]
  .obtain⟨e,n,ne,nf,d⟩:=I.pin p hp;show#[(f.2 p.1 ?_).trans e,n,ne,nf,d];intro q;rw[q,b2]at e;have q':oc=p.2:=OA e;exact d L (by rw[<-q'];exact cm)
theorem jd{M:Model}{A:vr}{E:f6}{i:Nat}{x:Str}{v:V}{u:Value}{Q:hX}(I:Inv X pins σ H s)(b:X.N.Nodup)(d:X.N[i]?=some x)(hx:Loc X.env.scope x)(r:bo v u)(h:∀s',Inv X pins (σ.set i (some v)) H s'->Q Unit.unit s')(c:X.fn x=true\/X.env.scope.names.lookup x=some .local:=by first|exact .inl rfl|exact .inr rfl|assumption):wpAny M A (storeName X.env x u) Q E s:=
 sT I b d hx r (λs' a _=>h s' a) c
theorem Inv.call'{s':tr}(I:Inv X pins σ H s)(f:s'.os=s.os)(u:Un (frs X.stack) ch H H' s.heap s'.heap)(g:HOk X.prog X.w H' s'.heap)(d:AllBare s'.gens)(a:∀b∈ch,(b∈X.ex\/X.s₀.heap.objs.size<=b)/\b≠X.env.locals/\(∀x c,X.env.cells.lookup x=some c->c≠b)/\∀p∈X.pn++pins,p.1≠b):Inv X pins σ H' s':=by
 obtain⟨h',g',d',t',h⟩:=s';have e:h=s.os:=f;subst e;exact I.call (g':=g') (t':=t') (d':=d') u g d a
end
abbrev XK:=Value->Option Addr->Hp->Prop
abbrev St:=List (Option V)
abbrev VK:=V->Hp->Prop
abbrev TE:=St->Hp->VK->Prop
abbrev TT:=St->Hp->(Bool->Hp->Prop)->Prop
abbrev TA:=St->Hp->(List V->Hp->Prop)->Prop
structure Ends where
 nx:St->Hp->Prop
 rt:VK
 bk:St->Hp->Prop:=λ_ _=>False
 ct:St->Hp->Prop:=λ_ _=>False
abbrev TS:=Ends->St->Hp->Prop
def EP(X:Cx)(a:js)(b:St)(Q:VK)(u:Value)(s':tr):Prop:=∃v H',Inv X a b H' s'/\bo v u/\Q v H'
def TP(X:Cx)(a:js)(c:St)(Q:Bool->Hp->Prop)(b:Bool)(s':tr):Prop:=∃H',Inv X a c H' s'/\Q b H'
def AP(X:Cx)(a:js)(b:St)(Q:List V->Hp->Prop)(us:qR)(s':tr):Prop:=∃vs H',Inv X a b H' s'/\Vals vs us/\Q vs H'
def SP(X:Cx)(b:js)(D:Ends)(f:Flow)(s':tr):Prop:=
 match f with
 | .next=>∃a H',Inv X b a H' s'/\D.nx a H'
 | .brk=>∃a H',Inv X b a H' s'/\D.bk a H'
 | .cont=>∃a H',Inv X b a H' s'/\D.ct a H'
 | .ret u=>∃v a H',Inv X b a H' s'/\bo v u/\D.rt v H'
def PE(X:Cx)(e:Expr)(t:TE):Prop:=
 ∀(b:js) (s:tr) (a:St) (H:Hp) (Q:VK),Inv X b a H s->t a H Q->wpAny (model X.prog X.w) X.A (eval e X.env) (EP X b a Q) X.xe s
def PT(X:Cx)(e:Expr)(t:TT):Prop:=
 ∀(b:js) (s:tr) (a:St) (H:Hp) (Q:Bool->Hp->Prop),Inv X b a H s->t a H Q->wpAny (model X.prog X.w) X.A (isTrue e X.env (eval e X.env)) (TP X b a Q) X.xe s
def PW(X:Cx)(e:Expr)(t:TT):Prop:=
 ∀(whole:Sem Value) (b:js) (s:tr) (a:St) (H:Hp) (Q:Bool->Hp->Prop),Inv X b a H s->t a H Q->wpAny (model X.prog X.w) X.A (isTrue e X.env whole) (TP X b a Q) X.xe s
theorem PW.pt(h:PW X e t):PT X e t:=h _
def PA(X:Cx)(es:q7)(t:TA):Prop:=
 ∀(pos:Pos) (b:js) (s:tr) (a:St) (H:Hp) (Q:List V->Hp->Prop),Inv X b a H s->t a H Q->wpAny (model X.prog X.w) X.A (spliced (backTo pos (starEach es X.env))) (AP X b a Q) X.xe s
def PS(X:Cx)(st:Stmt)(t:TS):Prop:=
 ∀(a:js) (s:tr) (b:St) (H:Hp) (D:Ends),Inv X a b H s->t D b H->wpAny (model X.prog X.w) X.A (exec st X.env) (SP X a D) X.xe s
def PSs(X:Cx)(st:List Stmt)(t:TS):Prop:=
 ∀(a:js) (s:tr) (b:St) (H:Hp) (D:Ends),Inv X a b H s->t D b H->wpAny (model X.prog X.w) X.A (execs st X.env) (SP X a D) X.xe s
theorem thn(h:wpAny M A t Q E s)(b:∀a s,Q a s->Q' a s):wpAny M A t Q' E s:=ON h b λ_ _ x=>x
section
variable{X:Cx}
inductive RdV(o:Option (Option V))(H:Hp)(Q:VK):Prop
 |mk(v:V) (e:o=some (some v)) (q:Q v H):RdV o H Q
def Mm(i:Nat):TE:=λa H Q=>RdV a[i]? H Q
def tC(v:V):TE:=λ_ H Q=>Q v H
theorem Ls{i:Nat}{x:Str}{pos:Pos}(j:X.N[i]?=some x)(p:Vis X.env.scope x)(d:(x==(Tq:Str))=false:=by decide)(k:(x==("__classdict__":Str))=false:=by decide):PE X (.Name x pos) (Mm i):=by
 intro q s t H Q I h;obtain⟨v,e,h⟩:=h;obtain⟨m,o,hl⟩:=I.loc;obtain⟨u,r,l⟩:=hl i x v j e p;have b:EP X q t Q u s:=#[v,H,I,r,h];rcases l with ⟨a,n⟩|⟨a,c,f,g⟩
 .exact wpAny_Name (wpAny_loadName_local I.ok.kind a o n b) d
 .rcases a with a|a
  .exact wpAny_Name (wpAny_loadName_cell I.ok.kind a f g b) d
  .exact wpAny_Name (wpAny_loadName_free I.ok.kind a f g b k) d
theorem aa{i j pos}:PE X (.Constant (.int i) j pos) (tC (.int i)):=λ_ _ _ H _ I h=>wpAny_Constant_int #[.int i,H,I.tok _,#[7],h]
theorem i5{b j pos}:PE X (.Constant (.bool b) j pos) (tC (.bl b)):=λ_ _ _ H _ I h=>Constant_bool #[.bl b,H,I,2,h]
theorem dA{j pos}:PE X (.Constant .none j pos) (tC .non):=λ_ _ _ H _ I h=>Constant_none #[.non,H,I,2,h]
theorem aw{x j pos}:PE X (.Constant (.str x) j pos) (tC (.str x)):=λ_ _ _ H _ I h=>Sj #[.str x,H,I.tok _,#[7],h]
def Gl(X:Cx)(x:Str):Prop:=X.env.kindOf x=some .globalImplicit
theorem dW{E:f6}{d:js}{s:tr}{e:St}{H:Hp}{x:Str}{u:Value}{pos:Pos}{Q:f6}(I:Inv X d e H s)(b:Gl X x)(c:X.mg x=some u)(h:Q u s)(a:(x==(Tq:Str))=false:=by decide):wpAny (model X.prog X.w) X.A (eval (.Name x pos) X.env) Q E s:=
 Calls.Name_function_global I.ok.kind b (Calls.loadGlobal_global (by rw[I.ok.glob];exact I.mod.glob.keeps I.bk) c h) a
theorem gM{E:f6}{i:js}{s:tr}{j:St}{H:Hp}{x:Str}{u:Value}{pos:Pos}{Q:f6}(I:Inv X i j H s)(d:Gl X x)(e:X.mg x=none)(g:bootBuiltins x=some u)(h:Q u s)(f:x≠ Ud:=by decide)(c:(x==(Tq:Str))=false:=by decide):wpAny (model X.prog X.w) X.A (eval (.Name x pos) X.env) Q E s:=by
 obtain⟨k,a,b⟩:=I.mod.blt;exact Calls.Name_function_global I.ok.kind d (Calls.loadGlobal_builtin (by rw[I.ok.glob];exact I.mod.glob.keeps I.bk) e (by rw[I.ok.blt];exact a.keeps I.bk) ((b x f).trans g) h) c
theorem a8{x:Str}{v:V}{u:Value}{pos:Pos}(b:Gl X x)(c:X.mg x=some u)(r:bo v u)(a:(x==(Tq:Str))=false:=by decide):PE X (.Name x pos) (tC v):=
 λ_ _ _ H _ I h=>dW I b c #[v,H,I,r,h] a
theorem Bk{x:Str}{v:V}{u:Value}{pos:Pos}(b:Gl X x)(c:X.mg x=none)(e:bootBuiltins x=some u)(r:bo v u)(d:x≠ Ud:=by decide)(a:(x==(Tq:Str))=false:=by decide):PE X (.Name x pos) (tC v):=
 λ_ _ _ H _ I h=>gM I b c e #[v,H,I,r,h] d a
variable{a b:Expr}{ta tb:TE}{pos:Pos}
def PC(X:Cx)(e:CmpOp)(a b:Expr)(t:TE):Prop:=
 ∀(d:js) (s:tr) (c:St) (H:Hp) (Q:VK),Inv X d c H s->t c H Q->
  wpAny (model X.prog X.w) X.A (eval a X.env) (λv f=>wpAny (model X.prog X.w) X.A (eval b X.env) (λu g=>wpAny (model X.prog X.w) X.A (compareOp e v u) (EP X d c Q) X.xe g) X.xe f) X.xe s
theorem nobehind(b:Expr)(h:c≠ .In)(f:c≠ .NotIn):behindInMarks c b=false:=by
 have d:(c==CmpOp.In)=false:=by cases c<;>first|rfl|exact absurd rfl h
 have e:(c==CmpOp.NotIn)=false:=by cases c<;>first|rfl|exact absurd rfl f
 cases b<;>simp[behindInMarks,d,e]
inductive RdB(Q:Bool->Hp->Prop)(x:V)(H:Hp):Prop
 |mk(k:Bool) (e:x= .bl k) (q:Q k H):RdB Q x H
def tB(t:TE):TT:=λc H Q=>t c H (RdB Q)
theorem zH{f:CmpOp}{t:TE}(h:PC X f a b t)(e:behindInMarks f b=false:=by first|exact nobehind _ ∅ ∅|rfl):PT X (.Compare a [f] [b] pos) (tB t):=by intro l s o H Q I k;refine wpAny_isTrue_Compare1 (thn (h l s o H _ I k) λv p e=>thn e λu r j=>thn j λc w ⟨x,g,i,n,m⟩=> ?_) e;obtain⟨d,rfl,q⟩:=m;cases n;exact P6 #[g,i,q]
theorem cj{e:Expr}{t:TE}(h:PE X e t)(g:∀whole,isTrue e X.env whole=(do let v<-whole;standAt e.pos;holding [v] (truthy v)):=by intro _;rfl):PT X e (tB t):=by intro j s m H Q I i;refine isTrue_plain (thn (h j s m H _ I i) λv n ⟨x,c,f,l,k⟩=> ?_) (g _);obtain⟨d,rfl,q⟩:=k;cases l;exact P6 #[c,f,q]
variable{tA tB':TT}{rest:q7}
def NJ(t u:TT):TT:=λe H Q=>t e H λc d=>if c=true then u e d Q else Q false d
def tOr(t u:TT):TT:=λe H Q=>t e H λc d=>if c=true then Q true d else u e d Q
def NG(t:TT):TT:=λe H Q=>t e H λc d=>Q (!c) d
theorem dR(d:PT X a tA):PW X (.BoolOp .And [a] pos) tA:=by
 intro j f s g H Q I h;refine isTrue_and (thn (d f s g H Q I h) λc i e=> ?_);cases c with
 |true=>exact isTrue_and_nil e
 |false=>exact e
theorem iI(d:PT X a tA):PW X (.BoolOp .Or [a] pos) tA:=by
 intro j f s g H Q I h;refine isTrue_or (thn (d f s g H Q I h) λc i e=> ?_);cases c with
 |false=>exact isTrue_or_nil e
 |true=>exact e
theorem fX(j:PT X a tA)(hb:PW X (.BoolOp .And (b::rest) pos) tB'):PW X (.BoolOp .And (a::b::rest) pos) (NJ tA tB'):=by
 intro l f s i H Q I h;refine isTrue_and (thn (j f s i H _ I h) λc k ⟨d,e,g⟩=> ?_);cases c with
 |true=>exact hb l f k i d Q e g
 |false=>show#[d,e,g]
theorem gU(j:PT X a tA)(hb:PW X (.BoolOp .Or (b::rest) pos) tB'):PW X (.BoolOp .Or (a::b::rest) pos) (tOr tA tB'):=by
 intro l f s i H Q I h;refine isTrue_or (thn (j f s i H _ I h) λc k ⟨d,e,g⟩=> ?_);cases c with
 |true=>show#[d,e,g]
 |false=>exact hb l f k i d Q e g
theorem fi(e:PT X a tA):PT X (.UnaryOp .Not a pos) (NG tA):=by intro f s g H Q I h;exact isTrue_not (e f s g H (λc d=>Q (!c) d) I h)
def MB(ta tb:TE):TE:=λe H Q=>ta e H (RdB λc d=>if c=true then tb e d Q else Q (.bl false) d)
def NF(ta tb:TE):TE:=λe H Q=>ta e H (RdB λc d=>if c=true then Q (.bl true) d else tb e d Q)
def Ms(ta:TE):TE:=λe H Q=>ta e H (RdB λc d=>Q (.bl (!c)) d)
theorem dz{op}(h:PE X a t):PE X (.BoolOp op [a] pos) t:=λd s e H Q I c=>BoolOp_one (h d s e H Q I c)
theorem dS(j:PE X a ta)(hb:PE X (.BoolOp .And (b::rest) pos) tb):PE X (.BoolOp .And (a::b::rest) pos) (MB ta tb):=by
 intro g s i H Q I h;refine BoolOp_and (thn (j g s i H _ I h) λv l ⟨x,e,f,k,d⟩=> ?_);obtain⟨c,rfl,d⟩:=d;cases k;refine P6 ?_;cases c with
 |true=>exact hb g l i e Q f d
 |false=>show#[.bl false,e,f,2,d]
theorem E4(j:PE X a ta)(hb:PE X (.BoolOp .Or (b::rest) pos) tb):PE X (.BoolOp .Or (a::b::rest) pos) (NF ta tb):=by
 intro g s i H Q I h;refine BoolOp_or (thn (j g s i H _ I h) λv l ⟨x,e,f,k,d⟩=> ?_);obtain⟨c,rfl,d⟩:=d;cases k;refine P6 ?_;cases c with
 |false=>exact hb g l i e Q f d
 |true=>show#[.bl true,e,f,2,d]
theorem E5(g:PE X a ta):PE X (.UnaryOp .Not a pos) (Ms ta):=by intro i s k H Q I h;refine UnaryOp_ (thn (g i s k H _ I h) λv l ⟨x,e,f,j,d⟩=> ?_);obtain⟨c,rfl,d⟩:=d;cases j;exact not_of (P6 #[.bl (!c),e,f,2,d])
def tIf(t:TT)(ta tb:TE):TE:=λd H Q=>t d H λc e=>if c=true then ta d e Q else tb d e Q
theorem E8(m:PT X c tA)(l:PE X a ta)(hb:PE X b tb):PE X (.IfExp c a b pos) (tIf tA ta tb):=by
 intro e s f H Q I h;refine wpAny_IfExp (thn (m e s f H _ I h) λd k ⟨g,i,j⟩=> ?_);cases d with
 |true=>exact l e k f g Q i j
 |false=>exact hb e k f g Q i j
end
def SqL(K:Frag)(H:Hp)(a:Addr)(xs:List V):Prop:=
 Rd H a (.lst xs)\/
  ∃(o:Obj)(b:qs)(n:Nat),K.lookup a=some o/\o.cls= .type Ts/\o.dict=none/\o.data= .seq b n/\b.size<=sizeLine/\Vals xs b.toList
def SqT(K:Frag)(H:Hp)(a:Addr)(xs:List V):Prop:=
 Rd H a (.tup xs)\/
  ∃(o:Obj)(b:qs)(n:Nat),K.lookup a=some o/\o.cls= .type TN/\o.data= .seq b n/\b.size<=sizeLine/\Vals xs b.toList
def NS:Value->Option V
 | .none=>some .non
 | .bool b=>some (.bl b)
 | .int i _=>some (.int i)
 | .str x _=>some (.str x)
 | .bytes b _=>some (.byt b)
 | .float b _=>some (.flt b)
 | .ref a=>some (.ref a)
 | .type n=>some (.ty n)
 |_=>none
theorem bo.abs(r:bo x u):NS u=some x:=by
 cases x with
 |non=>cases r;rfl
 |bl _=>cases r;rfl
 |int _=>obtain⟨t,rfl⟩:=r;rfl
 |str _=>obtain⟨t,rfl⟩:=r;rfl
 |byt _=>obtain⟨t,rfl⟩:=r;rfl
 |flt _=>obtain⟨t,rfl⟩:=r;rfl
 |ref _=>cases r;rfl
 |ty _=>cases r;rfl
theorem bo.inj(r:bo x u)(q:bo y u):x=y:=OA (r.abs.symm.trans q.abs)
theorem Vals.inj:∀ {xs a:List V} {us:qR},Vals xs us->Vals a us->xs=a
 |_,_,_, .nil, .nil=>rfl
 |_,_,_, .cons r t, .cons b t'=>by rw[r.inj b,Vals.inj t t']
section
variable{X:Cx}{pins:js}{σ:St}{H:Hp}{s:tr}{a:Addr}{xs ys:List V}
theorem SqL.of{K:Frag}(h:H a=some (.lst xs)):SqL K H a xs:= .inl (.inl h)
theorem SqT.of{K:Frag}(h:H a=some (.tup xs)):SqT K H a xs:= .inl (.inl h)
theorem Inv.list(I:Inv X pins σ H s)(h:SqL X.K H a xs):∃b:List Value,Vals xs b/\PlainL s.heap a b.toArray/\xs.length<=sizeLine:=by
 rcases h with h|⟨o,b,n,f,c,d,g,hz,r⟩
 .obtain⟨z,b,n,r,e⟩:=h.ok I.hok;show#[b,r,#[_,n,e,222],z]
 .show#[b.toList,r,#[o,n,I.kIn a o f,c,d,#[5,g]],6];have e:=r.length;simp only[Ou]at e;lia
theorem Inv.tuple(I:Inv X pins σ H s)(h:SqT X.K H a xs):∃b:List Value,Vals xs b/\IsTup s.heap a b.toArray/\xs.length<=sizeLine:=by
 rcases h with h|⟨o,b,n,d,c,f,hz,r⟩
 .obtain⟨z,b,r,p⟩:=h.ok I.hok;show#[b,r,p,z]
 .show#[b.toList,r,#[o,I.kIn a o d,c,n,#[5,f]],6];have e:=r.length;simp only[Ou]at e;lia
theorem Inv.list_inj(I:Inv X pins σ H s)(h:SqL X.K H a xs)(h':SqL X.K H a ys):xs=ys:=by
 obtain⟨f,r,⟨o,n,e,_,_,d⟩,_⟩:=I.list h;obtain⟨its',g,⟨j,i,b,_,_,d'⟩,_⟩:=I.list h';rw[e]at b;cases b;rw[d]at d';injection d' with c _
 have:f=its':=#[5,OL Array.toList c]
 subst this;exact r.inj g
theorem Inv.tuple_inj(I:Inv X pins σ H s)(h:SqT X.K H a xs)(h':SqT X.K H a ys):xs=ys:=by
 obtain⟨f,r,⟨o,e,_,n,d⟩,_⟩:=I.tuple h;obtain⟨its',g,⟨j,b,_,i,d'⟩,_⟩:=I.tuple h';rw[e]at b;cases b;rw[d]at d';injection d' with c _
 have:f=its':=#[5,OL Array.toList c]
 subst this;exact r.inj g
end
abbrev Cx.wish(X:Cx)(E:f6):Cx:={X with xe:=E}
abbrev Cx.nox(X:Cx):Cx:=X.wish λ_ _=>False
theorem Cx.Ok.wish{X:Cx}(ok:X.Ok)(E:f6):(X.wish E).Ok:=
 #[ok.mod,ok.kind,ok.glob,ok.blt,ok.above,ok.inj,ok.has,ok.cab,ok.hd,ok.frames,ok.stk,ok.exf,ok.bs,ok.bsz,ok.noex,ok.exfs,ok.funs,ok.frf]
theorem Cx.Ok.unwish{X:Cx}(ok:(X.wish E).Ok):X.Ok:=
 #[ok.mod,ok.kind,ok.glob,ok.blt,ok.above,ok.inj,ok.has,ok.cab,ok.hd,ok.frames,ok.stk,ok.exf,ok.bs,ok.bsz,ok.noex,ok.exfs,ok.funs,ok.frf]
section
variable{X:Cx}{pins:js}{σ:St}{H:Hp}{s:tr}{E:f6}
theorem Inv.wish(I:Inv X pins σ H s)(E:f6):Inv (X.wish E) pins σ H s:=#[I.ok.wish E,I.os,I.bare,I.base,I.loc,I.cell,I.free,I.freeC,I.pin,I.hok,I.len]
theorem Inv.unwish(I:Inv (X.wish E) pins σ H s):Inv X pins σ H s:=#[I.ok.unwish,I.os,I.bare,I.base,I.loc,I.cell,I.free,I.freeC,I.pin,I.hok,I.len]
theorem SP.unwish(h:SP (X.wish E) pins D f s'):SP X pins D f s':=by
 cases f with
 |next=>obtain⟨a,H',I,q⟩:=h;show#[a,H',I.unwish,q]
 |brk=>obtain⟨a,H',I,q⟩:=h;show#[a,H',I.unwish,q]
 |cont=>obtain⟨a,H',I,q⟩:=h;show#[a,H',I.unwish,q]
 |ret u=>obtain⟨v,a,H',I,r,q⟩:=h;show#[v,a,H',I.unwish,r,q]
theorem PSs.nox{st:List Stmt}(h:PSs X.nox st t):PSs X st t:=λpins s σ H D I a=>
 ON (h pins s σ H D (I.wish _) a) (λ_ _ q=>q.unwish) λ_ _ z=>False.elim z
end
section
variable{X:Cx}{st:Stmt}{rest:List Stmt}{t u:TS}{e:Expr}{te:TE}{pos:Pos}
def Mt:TS:=λD a H=>D.nx a H
def KH(t u:TS):TS:=λD a H=>t {D with nx:=u D} a H
theorem ao:PSs X [] Mt:=λ_ _ a H _ I h=>Qx #[a,H,I,h]
theorem ae(c:PS X st t)(d:PSs X rest u):PSs X (st::rest) (KH t u):=by
 intro a s i H D I h;refine Rc (thn (c a s i H {D with nx:=u D} I h) λf g q=> ?_);cases f with
 |next=>
  obtain⟨j,H',b,q⟩:=q;exact d a g j H' D b q
 |ret v=>exact q
 |brk=>exact q
 |cont=>exact q
theorem au(a:PS X st t):PSs X [st] t:=by
 intro b s c H D I h;refine Rc (thn (a b s c H D I h) λf d q=> ?_);cases f with
 |next=>exact Qx q
 |ret v=>exact q
 |brk=>exact q
 |cont=>exact q
theorem Inv.quiet{a:St}(I:Inv X pins a H s):interactive X.env=false:=by simp[interactive,I.ok.kind]
def Mv(te:TE):TS:=λD a H=>te a H λ_ b=>D.nx a b
theorem aM(d:PE X e te)(f:swapsWith e none pos.line X.env=pure false:=by rfl):PS X (.Expr e pos) (Mv te):=by intro g s a H D I h;exact wpAny_Expr_any (thn (d g s a H _ I h) λv k ⟨x,b,c,j,i⟩=>#[a,b,c,i]) I.quiet f
def Mq(te:TE):TS:=λD a H=>te a H D.rt
theorem EY(d:PE X e te):PS X (.Return (some e) pos) (Mq te):=by intro f s a H D I h;exact wpAny_Return_some (thn (d f s a H _ I h) λv j ⟨x,b,c,i,g⟩=>#[x,a,b,c,i,g])
def NH(c:TT)(t u:TS):TS:=λD a H=>c a H λb d=>if b=true then t D a d else u D a d
theorem aC(n:PT X c tc)(m:PSs X a t)(hb:PSs X b u):PS X (.If c a b pos) (NH tc t u):=by
 intro f s g H D I h;refine wpAny_If (thn (n f s g H _ I h) λd l ⟨i,j,k⟩=> ?_);cases d with
 |true=>exact m f l g i D j k
 |false=>exact hb f l g i D j k
def KJ:TS:=λ_ _ _=>False
theorem EZ:PS X st KJ:=λ_ _ _ _ _ _ h=>h.elim
end
abbrev TG:=V->St->Hp->(St->Hp->Prop)->Prop
abbrev TGs:=List V->St->Hp->(St->Hp->Prop)->Prop
def PG(X:Cx)(target:Expr)(t:TG):Prop:=
 ∀(a:js) (s:tr) (b:St) (H:Hp) (v:V) (u:Value) (Q:St->Hp->Prop),Inv X a b H s->bo v u->t v b H Q->
  wpAny (model X.prog X.w) X.A (assign target X.env u) (λ_ s'=>∃c H',Inv X a c H' s'/\Q c H') X.xe s
def PGs(X:Cx)(ts:q7)(t:TGs):Prop:=
 ∀(a:js) (s:tr) (b:St) (H:Hp) (vs:List V) (us:qR) (Q:St->Hp->Prop),Inv X a b H s->Vals vs us->t vs b H Q->
  wpAny (model X.prog X.w) X.A (assignInOrder ((assignEach ts X.env).map (·.2)) us) (λ_ s'=>∃c H',Inv X a c H' s'/\Q c H') X.xe s
section
variable{X:Cx}{pos:Pos}
def bK(i:Nat):TG:=λv a H Q=>Q (a.set i (some v)) H
theorem gu{i:Nat}{x:Str}(b:X.N.Nodup)(d:X.N[i]?=some x)(hx:Loc X.env.scope x)(c:X.fn x=true\/X.env.scope.names.lookup x=some .local:=by first|exact .inl rfl|exact .inr rfl|assumption):PG X (.Name x pos) (bK i):=by intro e s f H v u Q I r h;exact wpAny_assign_Name (jd I b d hx r (λs' a=>#[_,H,a,h]) c)
def NP:TGs:=λvs a H Q=>vs=[]/\Q a H
inductive RdC(t:TG)(u:TGs)(vs:List V)(σ:St)(H:Hp)(Q:St->Hp->Prop):Prop
 |mk(v:V) (r:List V) (e:vs=v::r) (q:t v σ H λσ' H'=>u r σ' H' Q):RdC t u vs σ H Q
def Np(t:TG)(u:TGs):TGs:=λvs a H Q=>RdC t u vs a H Q
theorem pI:PGs X [] NP:=by intro b s a H vs us Q I r h;obtain⟨e,h⟩:=h;subst e;cases r;exact assignInOrder_nil #[a,H,I,h]
theorem eM{e:Expr}{es:q7}{t:TG}{u:TGs}(f:PG X e t)(g:PGs X es u)(i:(assignEach (e::es) X.env).map (·.2)=assign e X.env::(assignEach es X.env).map (·.2):=by rfl):PGs X (e::es) (Np t u):=by
 intro a s m H vs us Q I r h;obtain⟨v,o,d,h⟩:=h;subst d;cases r with
 |cons r k=>
  rw[i];refine assignInOrder_cons (thn (f a s m H _ _ _ I r h) λ_ l ⟨n,b,c,j⟩=> ?_);exact g a l n b _ _ Q c k j
inductive RdT(K:Frag)(n:Nat)(t:TGs)(v:V)(σ:St)(H:Hp)(Q:St->Hp->Prop):Prop
 |mk(a:Addr) (xs:List V) (e:v= .ref a) (s:SqT K H a xs) (l:xs.length=n) (q:t xs σ H Q):RdT K n t v σ H Q
def Nn(K:Frag)(n:Nat)(t:TGs):TG:=λv a H Q=>RdT K n t v a H Q
theorem Lr{es:q7}{k:Nat}{t:TGs}{n:Nat}(l:X.calm=true)(h:PGs X es t)(m:(assignEach es X.env).length=n:=by rfl)(q:(assignEach es X.env).findIdx? (·.1)=none:=by rfl):PG X (.Tuple es k pos) (Nn X.K n t):=by
 intro d s g H v u Q I r c;obtain⟨a,xs,j,p,hl,c⟩:=c;subst j;cases r;obtain⟨x,f,w,hz⟩:=I.tuple p;refine assign_Tuple_tuple (I.ok.hd l) w (by simp[m,<-hl,f.length]) q λh' hx=> ?_;have i:Inv X d g H {s with heap:=h'}:=I.kept (t':=s.toks) λb o e=>hx b o (Oe (N6 e)) e;exact h d _ g H xs _ Q i #[5,f] c
def Er(c:TE)(g:TG):TS:=λD a H=>c a H λx b=>g x a b D.nx
theorem Lo{a e:Expr}{c:TE}{g:TG}(k:PE X e c)(l:PG X a g)(m:swapsWithSole [a] e pos.line X.env=pure false:=by rfl)(n:swappedStores [a] e X.env=pure none:=by rfl)(j:(assignEach [a] X.env).map (·.2)=[assign a X.env]:=by rfl):PS X (.Assign [a] e pos) (Er c g):=by
 intro b s d H D I h;refine wpAny_Assign_stores (thn (k b s d H _ I h) λv r ⟨x,f,i,p,o⟩=> ?_) m n;rw[j];exact thn (l b r d f x v _ i p o) λ_ t q=>q
theorem Lj{i:Nat}{x:Str}{e:Expr}{a:TE}{pos':Pos}(f:X.N.Nodup)(k:X.N[i]?=some x)(hx:Loc X.env.scope x)(g:PE X e a)(l:swapsWith e (some (.Name x pos')) pos.line X.env=pure false:=by rfl)(j:X.fn x=true\/X.env.scope.names.lookup x=some .local:=by first|exact .inl rfl|exact .inr rfl|assumption):
  PS X (.Assign [.Name x pos'] e pos) (Er a (bK i)):=by
 intro m s p H D I h;refine Sz (thn (g m s p H _ I h) λv q ⟨y,b,c,o,n⟩=> ?_) l;exact jd c f k hx o (λr d=>#[_,b,d,n]) j
end
structure It where
 go:Nat->Hp->Prop
 yld:Nat->Hp->V->Hp->Prop
 stop:Nat->Hp->Prop
def sM(X:Cx)(a:js)(H:Hp)(b:Addr):Prop:=
 H b=none/\b≠X.env.locals/\b∉X.fs/\(b∈X.ex\/X.s₀.heap.objs.size<=b)/\(∀x c,X.env.cells.lookup x=some c->c≠b)/\∀p∈X.pn++a,p.1≠b
theorem Inv.fpOk{f:St}{s:tr}{b:Addr}(I:Inv X pins f H s)(hb:s.heap.objs.size<=b)(a:H' b=none):sM X pins H' b:=by
 show#[a,Qb (N7 I.lt hb),I.nofs hb, .inr (NV I.sz hb),λx c e z=> ?_,λp d z=> ?_]
 .obtain⟨v,q⟩:=I.cell x c e;exact absurd (N7 q.lt (by rw[z];exact hb)) (Pt _)
 .exact absurd (N7 (N6 (I.pin p d).1) (by rw[z];exact hb)) (Pt _)
structure Turn(P:tj)(w:vu)(K:Frag)(tg:Expr)(J:It)(fp:List Addr)(it:Addr)(tn:Nat->Heap->Prop):Prop where
 mem:it∈fp
 obj:∀i h,tn i h->∀b∈fp,∃o,h.get? b=some o/\∀v,o.data≠ .cell v
 keep:∀i h h',tn i h->(∀b∈fp,∀o,h.get? b=some o->h'.get? b=some o)->tn i h'
 item:∀(X:Cx),X.prog=P->X.w=w->X.K=K->X.calm=true->∀(i:Nat) (pins:js) (s:tr) (σ:St) (H:Hp) (E:f6),Inv X pins σ H s->(∀b∈fp,sM X pins H b)->tn i s.heap->J.go i H->
  wpAny (model P w) X.A (pyNext (.ref it)) (λr s1=>∃u,r=some u/\
   wpAny (model P w) X.A (letOwnedTupleGo tg (.ref it) u) (λ_ s2=>∃x H',Inv X pins σ H' s2/\bo x u/\J.yld i H x H'/\tn (i+1) s2.heap/\∀b∈fp,H' b=none) E s1) E s
 done:∀(X:Cx),X.prog=P->X.w=w->X.K=K->X.calm=true->∀(i:Nat) (pins:js) (s:tr) (σ:St) (H:Hp) (E:f6),Inv X pins σ H s->(∀b∈fp,sM X pins H b)->tn i s.heap->J.stop i H->
  wpAny (model P w) X.A (pyNext (.ref it)) (λr s1=>r=none/\Inv X pins σ H s1) E s
 self:∀(A:vr)(i:Nat)(s:tr)(Q:f6)(E:f6),tn i s.heap->Q (.ref it) s->wpAny (model P w) A (pyIter (.ref it)) Q E s
abbrev TI:=St->Hp->(It->Hp->Prop)->Prop
def PIE(X:Cx)(c:js)(h:St)(g:Expr)(R:It->Hp->Prop)(f:Value)(d:tr):Prop:=
 ∃(it:Addr)(a:List Addr)(e:Nat->Heap->Prop)(J:It)(H':Hp),f= .ref it/\Inv X c h H' d/\Turn X.prog X.w X.K g J a it e/\e 0 d.heap/\(∀b∈a,sM X c H' b)/\R J H'
def PI(X:Cx)(d iter:Expr)(e:TI):Prop:=
 ∀(b:js) (s:tr) (a:St) (H:Hp) (R:It->Hp->Prop),Inv X b a H s->e a H R->
  wpAny (model X.prog X.w) X.A (eval iter X.env) (λv c=>wpAny (model X.prog X.w) X.A (pyIter v) (PIE X b a d R) X.xe c) X.xe s
theorem xR{s:tr}{o:Obj}(e:s.heap.get? it=some o)(b:o.cls= .type n)(c:o.data= .fields vs)(d:Tp.contains n=false)(a:Q Unit.unit s):wpAny M A (letOwnedTupleGo f (.ref it) u) Q E s:=by
 unfold letOwnedTupleGo;cases f<;>first
  |exact N0 a
  |(cases u<;>first
    |exact N0 a
    |(refine NU (wpAny_load e ?_)
      rw[b,c];show wpAny M A (if(Tp.contains n&&vs[0]?==some (rawInt _))=true then _ else _) Q E s;rw[NW (by intro h;rw[d,Rz]at h;cases h)];exact N0 a))
def Itl(K:Frag)(a:Addr):It:=
 #[λi H=>∃xs x,SqL K H a xs/\xs[i]?=some x,λi H x H'=>H'=H/\∀xs,SqL K H a xs->xs[i]?=some x,λi H=>∃xs,SqL K H a xs/\xs.length<=i]
def Itt(K:Frag)(a:Addr):It:=
 #[λi H=>∃xs x,SqT K H a xs/\xs[i]?=some x,λi H x H'=>H'=H/\∀xs,SqT K H a xs->xs[i]?=some x,λi H=>∃xs,SqT K H a xs/\xs.length<=i]
def Itr(a:Int)(n:Nat):It:=#[λi _=>i<n,λi H x H'=>H'=H/\x= .int (a+i),λi _=>n<=i]
theorem B9{P:tj}{w:vu}{K:Frag}{tg:Expr}(a it:Addr):Turn P w K tg (Itl K a) [it] it (λi h=>h.IsListIter it a i) where
 mem:=#[5]
 obj:=λi h st b hb=>by
  have e:b=it:=#[5,hb]
  subst e;obtain⟨o,e,c,d⟩:=st;show#[o,e,λv z=>by rw[d]at z;cases z]
 keep:=λi h h' st k=>st.at λo e=>k it #[5] o e
 item:=by intro X q t n A i B s J H E I f st r;subst q t n;obtain⟨xs,x,g,hx⟩:=r;obtain⟨Q,y,p,hz⟩:=I.list g;obtain⟨u,N,U⟩:=y.get hx;obtain⟨f0,f1,f2,j,l,m⟩:=f it #[5];refine wpAny_pyNext_list_item st p.isList (x:=u) #[5,N] λh' G sb=> ?_;have L:Inv X B J H {s with heap:=h'}:=I.turned (t':=s.toks) (λb o hb e=>(sb.2 b hb).trans e) f0 f1 j l m;obtain⟨o,e,c,d⟩:=id G;show#[u,2,xR (s:={s with heap:=h'}) e c d ∅ #[x,H,L,U,#[2,λys O=>by rw[I.list_inj O g];exact hx],G,λb hb=>(f b hb).1]]
 done:=by intro X q t n A i B s J H E I f st r;subst q t n;obtain⟨xs,g,hx⟩:=r;obtain⟨Q,y,p,hz⟩:=I.list g;obtain⟨f0,f1,f2,j,l,m⟩:=f it #[5];have hl:=y.length;exact wpAny_pyNext_list_end (I.ok.hd A) st p.isList (by simp;lia) λh' M=>#[2,I.turned (t':=s.toks) (λb o hb e=>M b o hb e) f0 f1 j l m]
 self:=λ_ _ _ _ _ st h=>wpAny_pyIter_listiter st h
theorem yU{P:tj}{w:vu}{K:Frag}{tg:Expr}(a it:Addr):Turn P w K tg (Itt K a) [it] it (λi h=>h.IsTupleIter it a i) where
 mem:=#[5]
 obj:=λi h st b hb=>by
  have e:b=it:=#[5,hb]
  subst e;obtain⟨o,e,c,d⟩:=st;show#[o,e,λv z=>by rw[d]at z;cases z]
 keep:=λi h h' st k=>st.at λo e=>k it #[5] o e
 item:=by intro X q t n B i G s L H E I f st r;subst q t n;obtain⟨xs,x,g,hx⟩:=r;obtain⟨y,A,p,hz⟩:=I.tuple g;obtain⟨u,O,U⟩:=A.get hx;obtain⟨f0,f1,f2,j,l,m⟩:=f it #[5];refine wpAny_pyNext_tuple_item st (show s.heap.IsTuple a y.toArray from p) (x:=u) #[5,O] λh' J sb=> ?_;have M:Inv X G L H {s with heap:=h'}:=I.turned (t':=s.toks) (λb o hb e=>(sb.2 b hb).trans e) f0 f1 j l m;obtain⟨o,e,c,d⟩:=id J;show#[u,2,xR (s:={s with heap:=h'}) e c d ∅ #[x,H,M,U,#[2,λys Q=>by rw[I.tuple_inj Q g];exact hx],J,λb hb=>(f b hb).1]]
 done:=by intro X q t n B i G s L H E I f st r;subst q t n;obtain⟨xs,g,hx⟩:=r;obtain⟨y,A,p,hz⟩:=I.tuple g;obtain⟨f0,f1,f2,j,l,m⟩:=f it #[5];have hl:=A.length;exact wpAny_pyNext_tuple_end (I.ok.hd B) st (show s.heap.IsTuple a y.toArray from p) (by simp;lia) λh' N=>#[2,I.turned (t':=s.toks) (λb o hb e=>N b o hb e) f0 f1 j l m]
 self:=λ_ _ _ _ _ st h=>wpAny_pyIter_tupleiter st h
theorem yV{P:tj}{w:vu}{K:Frag}{L:Expr}(it:Addr)(c:Int)(n:Nat):Turn P w K L (Itr c n) [it] it (λi h=>IsRangeIter h it (c+(i:Nat)*1) ((n:Int) - (i:Nat)) 1) where
 mem:=#[5]
 obj:=λi h st b hb=>by
  have e:b=it:=#[5,hb]
  subst e;show#[_,st,λv z=>by have M:Data.fields _=Data.cell v:=z;cases M]
 keep:=λi h h' st k=>k it #[5] _ st
 item:=by intro X l q j m i r s y H E I a st p;subst l q j;obtain⟨f0,f1,f2,d,f,g⟩:=a it #[5];have W:=Walks.range (prog:=X.prog) (w:=X.w) (I.ok.hd m) it c 1 n;refine W.item i s _ _ p st λv h' x G u J=> ?_;obtain⟨t,rfl⟩:=G;have A:Inv X r y H {s with heap:=h',toks:=x}:=I.turned (λb o hb e=>J b o #[5,hb] e) f0 f1 d f g;show#[7,xR (s:={s with heap:=h',toks:=x}) (n:= "range_iterator") u rfl rfl ∅ #[.int (c+i),H,A,#[t,6],#[22],u,λb hb=>(a b hb).1]];rw[Int.mul_one]
 done:=by intro X l q j m i r s y H E I a st p;subst l q j;obtain⟨f0,f1,f2,d,f,g⟩:=a it #[5];exact wpAny_pyNext_range_end (I.ok.hd m) st (by have:n<=i:=p;lia) λh' B=>#[2,I.turned (t':=s.toks) (λb o hb e=>B b o hb e) f0 f1 d f g]
 self:=λ_ _ _ _ _ st h=>wpAny_pyIter_rangeiter st h
section
variable{X:Cx}{tg:Expr}
inductive RdL(K:Frag)(R:It->Hp->Prop)(x:V)(H:Hp):Prop
 |mk(a:Addr) (e:x= .ref a) (s:∃xs,SqL K H a xs) (q:R (Itl K a) H):RdL K R x H
def F6(K:Frag)(a:TE):TI:=λb H R=>a b H (RdL K R)
def LX(K:Frag)(c:TE):TI:=λd H R=>c d H λx b=>∃a,x= .ref a/\(∃xs,SqT K b a xs)/\R (Itt K a) b
theorem IP(hl:PE X l tl):PI X tg l (F6 X.K tl):=by
 intro i s m H R I h;refine thn (hl i s m H _ I h) λv d ⟨x,f,c,k,j⟩=> ?_;obtain⟨a,e,⟨xs,g⟩,q⟩:=j;subst e;cases k;obtain⟨n,r,p,hz⟩:=c.list g;refine Q4 p.isList ?_;show#[d.heap.objs.size,[d.heap.objs.size],11,f,2,c.kept (t':=d.toks) λb o e=>NY _ e,B9 a _,#[_,Oi _ rfl,22],λb hb=> ?_,q];have e:b=d.heap.objs.size:=#[5,hb]
 subst e;exact c.fpOk (N3 _) (c.hok.fresh (N3 _))
theorem Lq(hl:PE X l tl):PI X tg l (LX X.K tl):=by
 intro j s n H R I h;refine thn (hl j s n H _ I h) λv c ⟨x,f,d,m,k⟩=> ?_;obtain⟨a,e,⟨xs,g⟩,q⟩:=k;subst e;cases m;obtain⟨i,r,p,hz⟩:=d.tuple g;refine wpAny_pyIter_tuple (show c.heap.IsTuple a i.toArray from p) ?_;show#[c.heap.objs.size,[c.heap.objs.size],11,f,2,d.kept (t':=c.toks) λb o e=>NY _ e,yU a _,#[_,Oi _ rfl,22],λb hb=> ?_,q];have e:b=c.heap.objs.size:=#[5,hb]
 subst e;exact d.fpOk (N3 _) (d.hok.fresh (N3 _))
theorem w4{f:St}{s:tr}{a c:Int}(I:Inv X g f H s)(j: -(2^62)<=a)(k:a<2^62)(l: -(2^62)<=c)(m:c<2^62)(q:R (Itr a (c-a).toNat) H):wpAny (model X.prog X.w) X.A (pyIter (.ref s.heap.objs.size)) (PIE X g f tg R) E {s with heap:=s.heap.push {cls:= .type Tx,data:= .fields #v[.int a t, .int c u, .int 1 v]},toks:=tk}:=by
 refine wpAny_pyIter_range (IsRange.new ..) (small_one j k l m) ?_;have d:Inv X g f H {s with heap:=s.heap.push {cls:= .type Tx,data:= .fields #v[.int a t, .int c u, .int 1 v]},toks:=tk}:=I.kept λb o e=>NY _ e;show#[(s.heap.push {cls:= .type Tx,data:= .fields #v[.int a t, .int c u, .int 1 v]}).objs.size,[(s.heap.push {cls:= .type Tx,data:= .fields #v[.int a t, .int c u, .int 1 v]}).objs.size],11,H,2,
  d.kept (t':=tk) λb o e=>NY _ e,yV _ a (c-a).toNat,6,λb hb=> ?_,q]
 .have h:a+((0:Nat):Int)*1=a:=#[5]
  have i:(((c-a).toNat:Nat):Int) - ((0:Nat):Int)=Builtin.Range.rangeSize a c 1:=by rw[rangeSize_one];split<;>lia
  show IsRangeIter _ _ (a+((0:Nat):Int)*1) ((((c-a).toNat:Nat):Int) - ((0:Nat):Int)) 1;rw[h,i];exact Oi _ rfl
 .have e:b=(s.heap.push {cls:= .type Tx,data:= .fields #v[.int a t, .int c u, .int 1 v]}).objs.size:=#[5,hb]
  subst e;exact d.fpOk (N3 _) (d.hok.fresh (N3 _))
def Kq(b:TA):TI:=λc H R=>b c H λvs a=>∃j:Int,vs=[.int j]/\ -(2^62)<=j/\j<2^62/\R (Itr 0 j.toNat) a
def Nm(b:TA):TI:=λc H R=>b c H λvs a=>∃i j:Int,vs=[.int i, .int j]/\(-(2^62)<=i/\i<2^62/\ -(2^62)<=j/\j<2^62)/\R (Itr i (j-i).toNat) a
theorem CJ{a:Expr}{c:TA}{p pos:Pos}(g:Gl X Tx)(i:X.mg Tx=none)(f:PA X [a] c)(k:starEach [a] X.env=[(false,eval a X.env)]:=by rfl):PI X tg (.Call (.Name Tx p) [a] [] pos) (Kq c):=by
 intro l s u H R I h;refine Call_ (gM I g i boot_range (O6 (thn (f pos l s u H _ I h) λus w ⟨vs,v,d,n,b⟩=> ?_) k rfl));obtain⟨j,e,b,m,q⟩:=b;subst e;cases n with
 |cons r o=>
  cases o;obtain⟨t,rfl⟩:=r;exact call_range_1 (w4 d () () b m #[5,q])
theorem CI{a b:Expr}{g:TA}{p pos:Pos}(m:Gl X Tx)(n:X.mg Tx=none)(l:PA X [a,b] g)(o:starEach [a,b] X.env=[(false,eval a X.env),(false,eval b X.env)]:=by rfl)(f:starEach [b] X.env=[(false,eval b X.env)]:=by rfl):
  PI X tg (.Call (.Name Tx p) [a,b] [] pos) (Nm g):=by
 intro u s A H R I h;refine Call_ (gM I m n boot_range (O6 (thn (l pos u s A H _ I h) λus G ⟨vs,B,k,z,c⟩=> ?_) (by rw[o,f]) (by rw[f];rfl)));obtain⟨i,j,e,⟨c,v,w,x⟩,q⟩:=c;subst e;cases z with
 |cons r d=>
  cases d with
  |cons y d=>
   cases d;obtain⟨t,rfl⟩:=r;obtain⟨t',rfl⟩:=y;exact call_range_2 (w4 k c v w x q)
def Mu(h:TI)(g:TG)(f:TS):TS:=λD a H=>h a H λJ d=>∃W:Nat->Nat->St->Hp->Prop,(∃m,W 0 m a d)/\∀i m a H,W i m a H->
 (J.stop i H/\D.nx a H)\/(J.go i H/\∃N:St->Hp->Prop,(∀c H',N c H'->∃b,b<m/\W (i+1) b c H')/\∀x H',J.yld i H x H'->g x a H' λj e=>f {D with nx:=N,ct:=N,bk:=D.nx} j e)
def qG(a:List Addr)(h:Heap):List (Addr×Obj):=a.filterMap λb=>(h.get? b).map λo=>(b,o)
theorem iP{h:Heap}(hb:b∈fp)(e:h.get? b=some o):(b,o)∈qG fp h:=Qi.mpr #[b,hb,by rw[e];rfl]
theorem CT{h:Heap}(c:p∈qG fp h):p.1∈fp/\h.get? p.1=some p.2:=by
 obtain⟨b,hb,e⟩:=Qi.mp c;cases q:h.get? b with
 |none=>rw[q]at e;cases e
 |some o=>
  rw[q]at e;have a:(b,o)=p:=OA e;subst a;show#[hb,q]
theorem Inv.pinned{f:St}{s:tr}(I:Inv X pins f H s)(g:∀b∈c,sM X pins H b)(h:∀b∈c,∃o,s.heap.get? b=some o/\∀v,o.data≠ .cell v):Inv X (pins++qG c s.heap) f H s:=
 I.pins_of λp i=>(OS.mp i).elim (λz=>I.pin p (OR _ z)) λz=>by obtain⟨hb,e⟩:=CT z;obtain⟨f0,f1,f2,_⟩:=g p.1 hb;obtain⟨o,a,d⟩:=h p.1 hb;rw[e]at a;cases a;show#[e,f0,f1,f2,d]
theorem Inv.unpinned{a:St}(I:Inv X (pins++pl) a H s):Inv X pins a H s:=I.pins_of λp b=>I.pin p (OR _ (Rb _ b))
theorem Lk{iter:Expr}{O:List Stmt}{wi:TI}{g:TG}{tb:TS}{pos:Pos}(q:PassesOwn (model X.prog X.w) X.A X.env X.xe)(U:X.calm=true)(hi:PI X tg iter wi)(hg:PG X tg g)(hb:PSs X O tb)(hs:∀x,foldedSetIterable iter X.env x=pure x:=by intro _;rfl):PS X (.For tg iter O [] pos) (Mu wi g tb):=by
 intro l s σ H D I h;refine wpAny_For (thn (hi l s σ H _ I h) λv s1 h1=>thn h1 λdv s2 h2=> ?_) hs;obtain⟨it,p,tn,J,H2,e,I2,T,dd,f2,W,⟨m0,w0⟩,turn⟩:=h2;subst e;have L:∀ {H':Hp},(∀b∈p,H' b=none)->∀b∈p,sM X l H' b:=λhn b hb=>#[hn b hb,(f2 b hb).2];refine codeAny_forLoop_any (λn s'=>∃i y H',Inv X l y H' s'/\tn i s'.heap/\(∀b∈p,H' b=none)/\W i n y H') ?_ m0 #[0,σ,H2,I2,dd,λb hb=>(f2 b hb).1,w0];rintro n s3 ⟨i,z,B,I3,ar,Q,w3⟩;rcases turn i n z B w3 with ⟨stop,qn⟩|⟨go,N,hN,step⟩
 .refine Rq q (thn (T.done X rfl rfl rfl U i l s3 z B X.xe I3 (L Q) ar stop) λr s4 ⟨G,I4⟩=> ?_);subst G;exact Qx #[z,B,I4,qn]
 .refine Rq q (thn (T.item X rfl rfl rfl U i l s3 z B X.xe I3 (L Q) ar go) λr s4 ⟨u,G,h4⟩=> ?_);subst G;refine Rq q (thn h4 λ_ s5 ⟨x,M,I5,r5,y5,K,b3⟩=> ?_);have b1:=I5.pinned (L b3) (T.obj _ _ K);refine Rq q (thn (hg _ s5 z M x u _ b1 r5 (step x M y5)) λ_ s6 ⟨dt,H6,I6,q6⟩=> ?_);refine Rq q (thn (hb _ s6 dt H6 _ I6 q6) λf s7 k=> ?_);have again:∀ {j:St} {a:Hp},Inv X (l++qG p s5.heap) j a s7->N j a->∃m,m<n/\∃i y H',Inv X l y H' s7/\tn i s7.heap/\(∀b∈p,H' b=none)/\W i m y H':=λ{j a} c t=>by obtain⟨m',hm,w7⟩:=hN j a t;show#[m',hm,i+1,j,a,c.unpinned,T.keep _ _ _ K λb hb o e=>(c.pin (b,o) (OR _ (OR _ (iP hb e)))).1,λb hb=> ?_,w7];obtain⟨o,e,d⟩:=T.obj _ _ K b hb;exact(c.pin (b,o) (OR _ (OR _ (iP hb e)))).2.1
  cases f with
  |next=>obtain⟨j,a,c,t⟩:=k;exact again c t
  |cont=>obtain⟨j,a,c,t⟩:=k;exact again c t
  |brk=>obtain⟨j,a,c,k⟩:=k;show#[j,a,c.unpinned,k]
  |ret v=>obtain⟨x7,j,a,c,r7,k⟩:=k;show#[x7,j,a,c.unpinned,r7,k]
end
theorem ba{K:Frag}{xs:List V}{g:TG}{l:TS}{D:Ends}(Pv:Nat->St->Hp->Prop)(h0:Pv 0 b H)(hl:∀i b H,i<=xs.length->Pv i b H->SqL K H a xs)(o:∀i x b H,xs[i]?=some x->Pv i b H->g x b H λh d=>l {D with nx:=Pv (i+1),ct:=Pv (i+1),bk:=D.nx} h d)(n:∀b H,Pv xs.length b H->D.nx b H):
  ∃W:Nat->Nat->St->Hp->Prop,(∃m,W 0 m b H)/\∀i m b H,W i m b H->
   ((Itl K a).stop i H/\D.nx b H)\/((Itl K a).go i H/\∃N:St->Hp->Prop,(∀f H',N f H'->∃k,k<m/\W (i+1) k f H')/\∀x H',(Itl K a).yld i H x H'->g x b H' λh d=>l {D with nx:=N,ct:=N,bk:=D.nx} h d):=by
 show#[λi m b H=>m=xs.length-i/\i<=xs.length/\Pv i b H,#[xs.length,#[5],Pw _,h0],6];rintro i m b H ⟨rfl,j,p⟩;have q:=hl i b H j p;by_cases c:i<xs.length
 .refine .inr #[#[xs,xs[i],q,by simp[c]],Pv (i+1),λf H' r=>#[xs.length- (i+1),QT c (PB _),2,c,r],λx H' y=> ?_];obtain⟨e,y⟩:=y;subst e;exact o i x b _ (y xs q) p
 .have e:i=xs.length:=RY j (Qf c);subst e;exact .inl #[#[xs,q,N3 _],n b H p]
theorem cZ{c:Int}{g:TG}{k:TS}{D:Ends}(Pv:Nat->St->Hp->Prop)(h0:Pv 0 a H)(q:∀i a H,i<n->Pv i a H->g (.int (c+i)) a H λh d=>k {D with nx:=Pv (i+1),ct:=Pv (i+1),bk:=D.nx} h d)(l:∀a H,Pv n a H->D.nx a H):
  ∃W:Nat->Nat->St->Hp->Prop,(∃m,W 0 m a H)/\∀i m a H,W i m a H->
   ((Itr c n).stop i H/\D.nx a H)\/((Itr c n).go i H/\∃N:St->Hp->Prop,(∀f H',N f H'->∃j,j<m/\W (i+1) j f H')/\∀x H',(Itr c n).yld i H x H'->g x a H' λh d=>k {D with nx:=N,ct:=N,bk:=D.nx} h d):=by
 show#[λi m a H=>m=n-i/\i<=n/\Pv i a H,#[n,#[5],Pw _,h0],6];rintro i m a H ⟨rfl,o,p⟩;by_cases b:i<n
 .refine .inr #[b,Pv (i+1),λf H' r=>#[n- (i+1),QT b (PB _),2,b,r],λx H' y=> ?_];obtain⟨e,y⟩:=y;subst e y;exact q i a _ b p
 .have e:i=n:=RY o (Qf b);subst e;exact .inl #[N3 _,l a H p]
abbrev R2:=V->V->Hp->VK->Prop
def OpR(X:Cx)(f:Value->Value->Sem Value)(r:R2):Prop:=
 ∀(a:js) (s:tr) (b:St) (H:Hp) (x y:V) (v u:Value) (Q:VK),Inv X a b H s->bo x v->bo y u->r x y H Q->
  wpAny (model X.prog X.w) X.A (f v u) (EP X a b Q) X.xe s
def UnR(X:Cx)(f:Value->Sem Value)(r:V->Hp->VK->Prop):Prop:=
 ∀(a:js) (s:tr) (b:St) (H:Hp) (x:V) (v:Value) (Q:VK),Inv X a b H s->bo x v->r x H Q->
  wpAny (model X.prog X.w) X.A (f v) (EP X a b Q) X.xe s
def bz(X:Cx)(f:Value)(r:List V->Hp->VK->Prop):Prop:=
 ∀(a:js) (s:tr) (b:St) (H:Hp) (xs:List V) (us:qR) (Q:VK),Inv X a b H s->Vals xs us->r xs H Q->
  wpAny (model X.prog X.w) X.A (call f us) (EP X a b Q) X.xe s
def tOp(r:R2)(d e:TE):TE:=λa H Q=>d a H λx b=>e a b λy c=>r x y c Q
def tUn(r:V->Hp->VK->Prop)(b:TE):TE:=λc H Q=>b c H λx a=>r x a Q
inductive RdI(C:Int->Int->Prop)(g:Int->Int->V)(x y:V)(H:Hp)(Q:VK):Prop
 |mk(i j:Int) (e1:x= .int i) (e2:y= .int j) (c:C i j) (q:Q (g i j) H):RdI C g x y H Q
def rI(C:Int->Int->Prop)(g:Int->Int->V):R2:=λx y H Q=>RdI C g x y H Q
inductive Ny(g:Int->Int->V)(x y:V)(H:Hp)(Q:VK):Prop
 |mk(i j:Int) (e1:x= .int i) (e2:y= .int j) (q:Q (g i j) H):Ny g x y H Q
def rI0(g:Int->Int->V):R2:=λx y H Q=>Ny g x y H Q
def rU(g:Int->V):V->Hp->VK->Prop:=λx H Q=>∃i,x= .int i/\Q (g i) H
section
variable{X:Cx}{a b c:Expr}{ta tb tc:TE}{pos:Pos}
theorem Mf(l:PE X a ta)(hb:PE X b tb){e:St}{R:V->V->Hp->Prop}(I:Inv X pins e H s)(h:ta e H λx i=>tb e i λy d=>R x y d){f:Value->Value->Sem Value}(m:∀v u g x y d,Inv X pins e d g->bo x v->bo y u->R x y d->wpAny (model X.prog X.w) X.A (f v u) Q X.xe g):
  wpAny (model X.prog X.w) X.A (eval a X.env) (λv t=>wpAny (model X.prog X.w) X.A (eval b X.env) (λu z=>wpAny (model X.prog X.w) X.A (f v u) Q X.xe z) X.xe t) X.xe s:=by
 refine thn (l pins s e H _ I h) λv r ⟨x,i,j,p,n⟩=> ?_;refine thn (hb pins r e i _ j n) λu g ⟨y,d,k,q,o⟩=> ?_;exact m v u g x y d k p q o
theorem ak(g:OpR X (binaryOp op) r)(f:PE X a ta)(hb:PE X b tb):PE X (.BinOp a op b pos) (tOp r ta tb):=by intro i s m H Q I h;exact wpAny_BinOp (Mf f hb I h λv u l x y d e j k q=>g i l m d x y v u Q e j k q)
theorem lV(j:UnR X (unaryOp op) r)(i:PE X a ta):PE X (.UnaryOp op a pos) (tUn r ta):=by intro d s e H Q I h;exact UnaryOp_ (thn (i d s e H _ I h) λv m ⟨x,f,g,l,k⟩=>j d m e f x v Q g l k)
theorem opI{g:Int->Int->Int}(rule:∀(i j:Int)(t u:Tok)(s:tr)(Q:f6)(E:f6),C i j->Q (.int (g i j) s.toks) {s with toks:=s.toks+1}->wpAny (model X.prog X.w) X.A (f (.int i t) (.int j u)) Q E s):
  OpR X f (rI C λi j=> .int (g i j)):=by
 intro l s m H x y v u Q I e k h;obtain⟨i,j,rfl,rfl,d,q⟩:=h;obtain⟨t,rfl⟩:=e;obtain⟨t',rfl⟩:=k;exact rule i j t t' s _ _ d #[.int (g i j),H,I.tok _,#[7],q]
theorem Fh{g:Int->Int->Int}(rule:∀(i j:Int)(t u:Tok)(s:tr)(Q:f6)(E:f6),Q (.int (g i j) s.toks) {s with toks:=s.toks+1}->wpAny (model X.prog X.w) X.A (f (.int i t) (.int j u)) Q E s):
  OpR X f (rI0 λi j=> .int (g i j)):=by
 intro k s l H x y v u Q I d e h;obtain⟨i,j,rfl,rfl,q⟩:=h;obtain⟨t,rfl⟩:=d;obtain⟨t',rfl⟩:=e;exact rule i j t t' s _ _ #[.int (g i j),H,I.tok _,#[7],q]
theorem IZ{g:Int->Int->Bool}(rule:∀(i j:Int)(t u:Tok)(s:tr)(Q:f6)(E:f6),Q (.bool (g i j)) s->wpAny (model X.prog X.w) X.A (f (.int i t) (.int j u)) Q E s):
  OpR X f (rI0 λi j=> .bl (g i j)):=by
 intro k s l H x y v u Q I d e h;obtain⟨i,j,rfl,rfl,q⟩:=h;obtain⟨t,rfl⟩:=d;obtain⟨t',rfl⟩:=e;exact rule i j t t' s _ _ #[.bl (g i j),H,I,2,q]
def NT(i j:Int):Prop:=0<j/\j<1073741824
def NB(i j:Int):Prop:=0<=j/\j<=1000000/\i.natAbs<2^64
def HL(i j:Int):Prop:=(-(2^64)<i/\i<2^64)\/(-(2^64)<j/\j<2^64)
theorem HL.ok(h:HL i j):IntMulOk i j:=by
 rcases h with ⟨d,e⟩|⟨d,e⟩
 .exact .of_left (intBits_le_64 d e)
 .exact .of_right (intBits_le_64 d e)
theorem kD(k:Nat):(0:Int)<=2^k:=by rw[two_pow_cast];exact Pc _
theorem bg:OpR X (binaryOp .Add) (rI0 λi j=> .int (i+j)):=Fh λ_ _ _ _ _ _ _ q=>add_int q
theorem fj:OpR X (binaryOp .Sub) (rI0 λi j=> .int (i-j)):=Fh λ_ _ _ _ _ _ _ q=>sub_int q
theorem dB:OpR X (binaryOp .Mult) (rI HL λi j=> .int (i*j)):=opI λ_ _ _ _ _ _ _ d q=>mul_int q d.ok
theorem bU:OpR X (binaryOp .FloorDiv) (rI NT λi j=> .int (i/j)):=opI λi j _ _ _ _ _ d q=>by have e:(0:Int)<j:=d.1;have f:j<1073741824:=d.2;exact floordiv_int () (by rw[Sr i ()];exact q) (.inl (PyProof.noPylong_small ()))
theorem aK:OpR X (binaryOp .Mod) (rI (λ_ j=>0<j) λi j=> .int (i % j)):=opI λi j _ _ _ _ _ d q=>by have e:(0:Int)<j:=d;exact mod_int' () (by rw[Int.fmod_eq_emod_of_nonneg i ()];exact q)
theorem Ff:OpR X (binaryOp .Pow) (rI NB λi j=> .int (i^j.toNat)):=opI λ_ _ _ _ _ _ _ d q=>pow_int_small d.1 d.2.1 d.2.2 q
theorem iJ:OpR X (binaryOp .LShift) (rI NB λi j=> .int (i*2^j.toNat)):=opI λ_ _ _ _ _ _ _ d q=>lshift_int_small d.1 d.2.1 d.2.2 q
theorem Fe:OpR X (binaryOp .RShift) (rI (λ_ j=>0<=j) λi j=> .int (i/2^j.toNat)):=opI λi j _ _ _ _ _ d q=>
 rshift_int d (by rw[Sr i (kD _)];exact q)
theorem kZ:OpR X (binaryOp .BitAnd) (rI0 λi j=> .int (Builtin.bitAnd i j)):=Fh λ_ _ _ _ _ _ _ q=>and_int q
theorem xf:OpR X (binaryOp .BitOr) (rI0 λi j=> .int (Builtin.bitOr i j)):=Fh λ_ _ _ _ _ _ _ q=>or_int q
theorem LC:OpR X (binaryOp .BitXor) (rI0 λi j=> .int (Builtin.bitXor i j)):=Fh λ_ _ _ _ _ _ _ q=>xor_int q
theorem unI{g:Int->Int}(rule:∀(i:Int)(t:Tok)(s:tr)(Q:f6)(E:f6),Q (.int (g i) s.toks) {s with toks:=s.toks+1}->wpAny (model X.prog X.w) X.A (f (.int i t)) Q E s):
  UnR X f (rU λi=> .int (g i)):=by
 intro e s j H x v Q I d h;obtain⟨i,rfl,q⟩:=h;obtain⟨t,rfl⟩:=d;exact rule i t s _ _ #[.int (g i),H,I.tok _,#[7],q]
theorem ig:UnR X (unaryOp .USub) (rU λi=> .int (-i)):=unI λ_ _ _ _ _ q=>neg_int q
end
def scal:V->V->Bool
 | .non, .non=>true| .non, .int _=>true| .int _, .non=>true| .non, .bl _=>true| .bl _, .non=>true| .non, .str _=>true| .str _, .non=>true
 | .int _, .int _=>true| .bl _, .bl _=>true| .str _, .str _=>true| .byt _, .byt _=>true
 | .int _, .str _=>true| .str _, .int _=>true| .bl _, .str _=>true| .str _, .bl _=>true
 |_,_=>false
def rEq:R2:=λx y H Q=>scal x y=true/\Q (.bl (decide (x=y))) H
def rNe:R2:=λx y H Q=>scal x y=true/\Q (.bl (!decide (x=y))) H
theorem pP:decide (V.int i=V.int j)=(i==j):=by rw[O8];simp
theorem Gy:decide (V.bl i=V.bl j)=(i==j):=by rw[O8];simp
theorem BG:decide (V.str i=V.str j)=(i==j):=by rw[O8];simp
theorem BH{i j:Array UInt8}:decide (V.byt i=V.byt j)=(i.toList==j.toList):=by rw[O8];cases i;cases j;simp
section
variable{X:Cx}{a b c:Expr}{ta tb tc:TE}{pos:Pos}
theorem a7{d:St}(I:Inv X pins d H s)(q:Q (.bl k) H)(e:k=k'):EP X pins d Q (.bool k') s:=by subst e;show#[.bl k,H,I,2,q]
theorem aG:OpR X (compareOp .Eq) rEq:=by
 intro g s k H x y v u Q I f d h;obtain⟨e,q⟩:=h;cases x with
 |non=>
  cases f;cases y with
  |non=>cases d;exact PySem.EqNone.eq_none_none (a7 I q #[5])
  |bl j=>cases d;exact PySem.EqNone.eq_none_bool (a7 I q #[5])
  |int j=>obtain⟨t',rfl⟩:=d;exact PySem.EqNone.eq_none_int (a7 I q #[5])
  |str j=>obtain⟨t',rfl⟩:=d;exact PySem.EqNone.eq_none_str (a7 I q #[5])
  |_=>exact absurd (show false=true from e) Oo
 |bl i=>
  cases f;cases y with
  |non=>cases d;exact PySem.EqNone.eq_bool_none (a7 I q #[5])
  |bl j=>cases d;exact eq_bool (a7 I q Gy)
  |str j=>obtain⟨t',rfl⟩:=d;exact PySem.EqMixed.eq_bool_str (a7 I q #[5])
  |_=>exact absurd (show false=true from e) Oo
 |int i=>
  obtain⟨t,rfl⟩:=f;cases y with
  |non=>cases d;exact PySem.EqNone.eq_int_none (a7 I q #[5])
  |int j=>obtain⟨t',rfl⟩:=d;exact eq_int (a7 I q pP)
  |str j=>obtain⟨t',rfl⟩:=d;exact PySem.EqMixed.eq_int_str (a7 I q #[5])
  |_=>exact absurd (show false=true from e) Oo
 |str i=>
  obtain⟨t,rfl⟩:=f;cases y with
  |non=>cases d;exact PySem.EqNone.eq_str_none (a7 I q #[5])
  |bl j=>cases d;exact PySem.EqMixed.eq_str_bool (a7 I q #[5])
  |int j=>obtain⟨t',rfl⟩:=d;exact PySem.EqMixed.eq_str_int (a7 I q #[5])
  |str j=>obtain⟨t',rfl⟩:=d;exact eq_str (a7 I q BG)
  |_=>exact absurd (show false=true from e) Oo
 |byt i=>
  obtain⟨t,rfl⟩:=f;cases y with
  |byt j=>obtain⟨t',rfl⟩:=d;exact PySem.W.eq_bytes (a7 I q BH)
  |_=>exact absurd (show false=true from e) Oo
 |_=>cases y<;>exact absurd (show false=true from e) Oo
theorem i7:OpR X (compareOp .NotEq) rNe:=by
 intro g s k H x y v u Q I f d h;obtain⟨e,q⟩:=h;cases x with
 |non=>
  cases f;cases y with
  |non=>cases d;exact PySem.EqNone.ne_none_none (a7 I q #[5])
  |bl j=>cases d;exact PySem.EqNone.ne_none_bool (a7 I q #[5])
  |int j=>obtain⟨t',rfl⟩:=d;exact PySem.EqNone.ne_none_int (a7 I q #[5])
  |str j=>obtain⟨t',rfl⟩:=d;exact PySem.EqNone.ne_none_str (a7 I q #[5])
  |_=>exact absurd (show false=true from e) Oo
 |bl i=>
  cases f;cases y with
  |non=>cases d;exact PySem.EqNone.ne_bool_none (a7 I q #[5])
  |bl j=>cases d;exact ne_bool (a7 I q (OL not Gy))
  |str j=>obtain⟨t',rfl⟩:=d;exact PySem.EqMixed.ne_bool_str (a7 I q #[5])
  |_=>exact absurd (show false=true from e) Oo
 |int i=>
  obtain⟨t,rfl⟩:=f;cases y with
  |non=>cases d;exact PySem.EqNone.ne_int_none (a7 I q #[5])
  |int j=>obtain⟨t',rfl⟩:=d;exact ne_int (a7 I q (OL not pP))
  |str j=>obtain⟨t',rfl⟩:=d;exact PySem.EqMixed.ne_int_str (a7 I q #[5])
  |_=>exact absurd (show false=true from e) Oo
 |str i=>
  obtain⟨t,rfl⟩:=f;cases y with
  |non=>cases d;exact PySem.EqNone.ne_str_none (a7 I q #[5])
  |bl j=>cases d;exact PySem.EqMixed.ne_str_bool (a7 I q #[5])
  |int j=>obtain⟨t',rfl⟩:=d;exact PySem.EqMixed.ne_str_int (a7 I q #[5])
  |str j=>obtain⟨t',rfl⟩:=d;exact ne_str (a7 I q (OL not BG))
  |_=>exact absurd (show false=true from e) Oo
 |byt i=>
  obtain⟨t,rfl⟩:=f;cases y with
  |byt j=>obtain⟨t',rfl⟩:=d;exact PySem.W.ne_bytes (a7 I q (OL not BH))
  |_=>exact absurd (show false=true from e) Oo
 |_=>cases y<;>exact absurd (show false=true from e) Oo
theorem fY:OpR X (compareOp .Lt) (rI0 λi j=> .bl (decide (i<j))):=IZ λ_ _ _ _ _ _ _ q=>lt_int q
theorem tK:OpR X (compareOp .LtE) (rI0 λi j=> .bl (decide (i<=j))):=IZ λ_ _ _ _ _ _ _ q=>le_int q
theorem gX:OpR X (compareOp .Gt) (rI0 λi j=> .bl (decide (j<i))):=IZ λ_ _ _ _ _ _ _ q=>gt_int q
theorem xg:OpR X (compareOp .GtE) (rI0 λi j=> .bl (decide (j<=i))):=IZ λ_ _ _ _ _ _ _ q=>ge_int q
theorem ni:OpR X (compareOp .In) (λx y H Q=>∃i j,x= .str i/\y= .str j/\Q (.bl (!(Builtin.Str.occurrences j i 0 j.length 1).isEmpty)) H):=by intro f s g H x y v u Q I d e h;obtain⟨i,j,rfl,rfl,q⟩:=h;obtain⟨t,rfl⟩:=d;obtain⟨t',rfl⟩:=e;exact in_str (a7 I q rfl)
theorem zP:OpR X (compareOp .Is) (λx y H Q=>y= .non/\Q (.bl (decide (x= .non))) H):=by
 intro f s g H x y v u Q I d e h;obtain⟨rfl,q⟩:=h;cases e;refine is_none_gen (a7 I q ?_);cases x<;>first
  |(cases d;rfl)
  |(obtain⟨t,rfl⟩:=d;rfl)
theorem vi:OpR X (compareOp .IsNot) (λx y H Q=>y= .non/\Q (.bl (!decide (x= .non))) H):=by
 intro f s g H x y v u Q I d e h;obtain⟨rfl,q⟩:=h;cases e;refine isnot_none_gen (a7 I q ?_);cases x<;>first
  |(cases d;rfl)
  |(obtain⟨t,rfl⟩:=d;rfl)
theorem fz:OpR X (compareOp .NotIn) (λx y H Q=>∃i j,x= .str i/\y= .str j/\Q (.bl (!(!(Builtin.Str.occurrences j i 0 j.length 1).isEmpty))) H):=by intro f s g H x y v u Q I d e h;obtain⟨i,j,rfl,rfl,q⟩:=h;obtain⟨t,rfl⟩:=d;obtain⟨t',rfl⟩:=e;exact notIn_str (a7 I q rfl)
theorem nomark(b:Expr){d:CmpOp}(h:d≠ .In:=by decide)(g:d≠ .NotIn:=by decide):behindInMarks d b=false:=by
 have e:(d==CmpOp.In)=false:=by cases d<;>first|rfl|exact absurd rfl h
 have f:(d==CmpOp.NotIn)=false:=by cases d<;>first|rfl|exact absurd rfl g
 cases b<;>simp[behindInMarks,e,f]
theorem jV(i:OpR X (compareOp op) r)(f:PE X a ta)(hb:PE X b tb)(g:behindInMarks op b=false):PE X (.Compare a [op] [b] pos) (tOp r ta tb):=by intro j s n H Q I h;exact wpAny_Compare1 (Mf f hb I h λv u m x y d e k l q=>i j m n d x y v u Q e k l q) g
def J5(t:TE):TT:=λd H Q=>t d H (RdB Q)
theorem dk(p:OpR X (compareOp op) r)(n:PE X a ta)(hb:PE X b tb)(o:behindInMarks op b=false):PT X (.Compare a [op] [b] pos) (J5 (tOp r ta tb)):=by
 intro d s f H Q I h;refine wpAny_isTrue_Compare1 (thn (n d s f H _ I h) λv J ⟨x,g,l,A,q⟩=>thn (hb d J f g _ l q) λu K ⟨y,i,m,B,t⟩=>
  thn (p d K f i x y v u _ m A B t) λc L ⟨z,j,I3,G,k,e,w⟩=> ?_) o
 subst e;cases G;exact P6 #[j,I3,w]
def KR(r i:R2)(ta tb tc:TE):TE:=λd H Q=>ta d H λx f=>tb d f λy g=>r x y g λz e=>∃k,z= .bl k/\
 (if k=true then tc d e λj h=>i y j h Q else Q (.bl false) e)
theorem Fb{i j:CmpOp}{r n:R2}(L:OpR X (compareOp i) r)(M:OpR X (compareOp j) n)(G:PE X a ta)(hb:PE X b tb)(J:PE X c tc)(K:lastMarks [i,j] [b,c]=false:=by with_unfolding_all rfl):PE X (.Compare a [i,j] [b,c] pos) (KR r n ta tb tc):=by
 intro f s g H Q I h;refine Compare_chain (thn (G f s g H _ I h) λv s1 ⟨x,p,w,r1,N⟩=>chain_link (thn (hb f s1 g p _ w N) λu s2 ⟨y,q,A,o,O⟩=>
  thn (L f s2 g q x y v u _ A r1 o O) λd s3 ⟨z,l,I3,r3,k,e,m⟩=> ?_)) K
 subst e;cases r3;refine P6 ?_;cases k with
 |false=>exact ite_ff #[.bl false,l,I3,2,m]
 |true=>exact ite_tt (chain_last (thn (J f s3 g l _ I3 m) λw' s4 ⟨z',t,B,r4,U⟩=>M f s4 g t y z' u w' Q B o r4 U))
theorem nG:(sizeLine:Nat)<2^63:=by rw[Ta];decide
theorem cS:OpR X (binaryOp .Add) (λx y H Q=>∃i j,x= .str i/\y= .str j/\i.length+j.length<=sizeLine/\Q (.str (i++j)) H):=by intro f s k H x y v u Q I d e h;obtain⟨i,j,rfl,rfl,hz,q⟩:=h;obtain⟨t,rfl⟩:=d;obtain⟨t',rfl⟩:=e;exact add_str (λt' g=>#[.str (i++j),H,I.tok _,#[7],q]) hz
theorem fJ(r:Vals [x] us):∃u,us=[u]/\bo x u:=by
 cases r with
 |cons d e=>cases e;show#[7,d]
theorem Ec(r:Vals [x,y] us):∃u d,us=[u,d]/\bo x u/\bo y d:=by
 cases r with
 |cons e f=>
  cases f with
  |cons g h=>cases h;show#[17,e,g]
theorem DT(e:X.calm=true):bz X (.builtin "max") (λxs H Q=>∃i j,xs=[.int i, .int j]/\Q (.int (if j>i then j else i)) H):=by
 intro f s m H xs us Q I r h;obtain⟨i,j,rfl,q⟩:=h;obtain⟨u,l,rfl,⟨t,rfl⟩,⟨t',rfl⟩⟩:=Ec r;refine max_two_ints (I.ok.hd e) λh' g k=>#[_,H,I.kept k,6,q];by_cases d:j>i
 .rw[NZ d,NZ d];show#[7]
 .rw[NW d,NW d];show#[7]
theorem ui(e:X.calm=true):bz X (.builtin "min") (λxs H Q=>∃i j,xs=[.int i, .int j]/\Q (.int (if j<i then j else i)) H):=by
 intro f s m H xs us Q I r h;obtain⟨i,j,rfl,q⟩:=h;obtain⟨u,l,rfl,⟨t,rfl⟩,⟨t',rfl⟩⟩:=Ec r;refine min_two_ints (I.ok.hd e) λh' g k=>#[_,H,I.kept k,6,q];by_cases d:j<i
 .rw[NZ d,NZ d];show#[7]
 .rw[NW d,NW d];show#[7]
theorem uj:bz X (.type "int") (λxs H Q=>(∃i,xs=[.int i]/\Q (.int i) H)\/∃k,xs=[.bl k]/\Q (.int (if k then 1 else 0)) H):=by
 intro e s f H xs us Q I r h;rcases h with ⟨i,rfl,q⟩|⟨k,rfl,q⟩
 .obtain⟨u,rfl,t,rfl⟩:=fJ r;exact call_int_int #[.int i,H,I,#[7],q]
 .obtain⟨u,rfl,d⟩:=fJ r;cases d;exact call_int_bool #[.int (if k then 1 else 0),H,I.tok _,#[7],q]
theorem aY:bz X (.type "str") (λxs H Q=>∃i,xs=[.int i]/\i.natAbs.log2<1920/\Q (.str (toString i)) H):=by intro d s e H xs us Q I r h;obtain⟨i,rfl,hz,q⟩:=h;obtain⟨u,rfl,t,rfl⟩:=fJ r;exact PySem.P.str_of_int hz #[.str _,H,I.tok _,#[7],q]
end
structure AG(h:Heap)(x dx C:Addr)(mA:i2):Prop where
 obj:h.get? x=some (instObj C dx)
 ns:h.Ns1 dx mA
 ne:dx≠x
theorem tW{h:Heap}(n:h.Ns1 dx mA):∃od,h.get? dx=some od/\∀name,lookIn name od=some (mA name):=by
 obtain⟨o,es,ep,i,c,d,_,g⟩:=n;show#[o,i,λname=> ?_];have e:=g name;unfold nsFind findBy at e;rw[<-Array.find?_toList]at e;unfold lookIn;rw[c];dsimp only;split
 .rename_i y q;rw[q]at e;exact OL some e
 .rename_i q;rw[q]at e;have a:es.toList.any (·.refKey)=false:=by rw[List.any_eq_false];intro y j;obtain⟨z,t,f⟩:=d y (Array.mem_toList_iff.mp j);simp[DictEntry.refKey,f]
  have b:¬es.toList.any (·.refKey)=true:=by rw[a];exact Oo
  rw[NW b];exact OL some e
theorem AG.look(I:AG h x dx C mA):∃od,PySem.W.InstAt h x (instObj C dx) C (some od)/\∀name,lookIn name od=some (mA name):=
 let⟨od,a,hl⟩:=tW I.ns
 #[od,#[I.obj,22,a],hl]
section
variable{prog:tj}{w:vu}{A:vr}{E:f6}{s:tr}{K:Frag}{x dx C f:Addr}{mA:i2}{name:Str}{v:Value}
theorem JF(X:K.In s.heap)(I:AG s.heap x dx C mA)(b:plainGet K C name=true)(c:hasDictIn K C=true)(a:findIn K (.ref C) name=some none)(d:mA name=some v)(e:PySem.W.handedIn v=true)(h:Q v {s with toks:=s.toks+1}):
  wpAny (model prog w) A (getAttr (.ref x) name expr) Q E s:=by
 obtain⟨od,J,hl⟩:=I.look;exact PySem.W.get_value X J (R8 b).1 (PySem.W.findObj_own c a rfl (by rw[hl,d])) e h
theorem Gd(X:K.In s.heap)(I:AG s.heap x dx C mA)(a:plainGet K C name=true)(b:findIn K (.ref C) name=some (some (.ref f)))(c:isFn K (.ref f)=true)(d:mA name=none)(h:Q (.ref f,[.ref x]) s):
  wpAny (model prog w) A (getMethod (.ref x) name pl) Q E s:=by
 obtain⟨od,J,hl⟩:=I.look;exact PySem.W.method_fn X J (R8 a).1 (R8 a).2 b (Qd.mp c) (by show(lookIn name od).map (·.isSome)=some false;rw[hl,d];rfl) h
theorem Ir{ns:r9}(X:K.In s.heap)(I:AG s.heap x dx C mA)(n:findIn K (.ref C) T3=some (some (.builtin TM)))(m:PySem.W.plainOver K C=true)(o:takerIn K C name=some none)(k:hasDictIn K C=true)(p:PySem.Within mA ns)(hsz:ns.length<=sizeLine)(h:∀h',AG h' x dx C (λy=>if y=name then some v else mA y)->Heap.SameBut dx s.heap h'->Q Unit.unit {s with heap:=h',toks:=s.toks+2}):
  wpAny (model prog w) A (setAttr (.ref x) name v) Q E s:=by
 obtain⟨od,J,hl⟩:=I.look;refine PySem.W.set_plain X J n (PySem.W.osa_open (s:={s with toks:=s.toks+1}) (r:=none) X J m o λb=> ?_);obtain⟨q,e,i⟩:=QP k;have hx:s.heap.get? x=some #[.ref C,some dx, .plain, #v[]]:=I.obj;refine NU (N0 (NU (NU (Sa hx (NU (Sk (s:={s with toks:=s.toks+1}) (Rn X e) ?_))))));rw[i];refine N0 (a:=some dx) (NU (N0 (NU ?_)));refine wpAny_nsSet1 (s:={s with toks:=s.toks+1}) I.ns λh' c d=> ?_;obtain⟨z,u,t,l,j,g⟩:=c.count (SA name v p);refine NU (SN l (by rw[j];exact SO (NV g (by rw[Oa];lia))) ?_);exact N0 (h _ #[(d.2 _ (Pj I.ne)).trans I.obj,c,I.ne] d)
theorem FI(X:K.In s.heap)(e:makesIn K C=true)(c:findIn K (.ref C) TF=some (some (.ref f)))(b:PySem.W.typeIn K (.ref f)=some (.type Ul))(h:codeAny (model prog w) (A.under (.builtin TJ #[.ref C::vs,a])) (.call (.ref f) #[.ref (s.heap.objs.size+1)::vs,a]) (PySem.W.InitBack (s.heap.objs.size+1) R)
   {s with heap:=(s.heap.push emptyDict).push (instObj C s.heap.objs.size)}):
  codeAny (model prog w) A (.call (.ref C) #[vs,a]) R s:=by
 obtain⟨i,g,d,t,os⟩:=s;exact PySem.W.make_core (PySem.W.makes_of X e) (QI X c) (λself=>PySem.W.bind_fn X self b) (.inl rfl) h
end
def aW(f:Str)(v:V):List (Str×V)->List (Str×V)
 | []=>[(f,v)]
 |(g,x)::r=>if g=f then(g,v)::r else(g,x)::aW f v r
theorem eO(f g:Str)(v:V):∀fs:List (Str×V),(aW f v fs).lookup g=if g=f then some v else fs.lookup g
 | []=>by
  show List.lookup g [(f,v)]=_;by_cases h:g=f
  .have hb:(g==f)=true:=Qd.mpr h;simp only[List.lookup,hb,NZ h]
  .have hb:(g==f)=false:=P7.mpr h;simp only[List.lookup,hb,NW h]
 |(k,x)::r=>by
  have b:=eO f g v r;rw[show aW f v ((k,x)::r)=(if k=f then(k,v)::r else(k,x)::aW f v r)from rfl];by_cases a:k=f
  .rw[NZ a];by_cases h:g=k
   .have hb:(g==k)=true:=Qd.mpr h;simp only[List.lookup,hb,NZ (h.trans a)]
   .have hb:(g==k)=false:=P7.mpr h;simp only[List.lookup,hb,NW (λe:g=f=>h (e.trans a.symm))]
  .rw[NW a];by_cases h:g=k
   .have hb:(g==k)=true:=Qd.mpr h;simp only[List.lookup,hb,NW (λe:g=f=>a (h.symm.trans e))]
   .have hb:(g==k)=false:=P7.mpr h;simp only[List.lookup,hb];exact b
theorem ia(f:Str)(v:V):∀fs:List (Str×V),f∈(aW f v fs).map (·.1)/\∀g,g∈fs.map (·.1)->g∈(aW f v fs).map (·.1)
 | []=>#[by simp[aW],λg h=>by simp at h]
 |(k,x)::r=>by
  obtain⟨b,c⟩:=ia f v r;rw[show aW f v ((k,x)::r)=(if k=f then(k,v)::r else(k,x)::aW f v r)from rfl];by_cases a:k=f
  .rw[NZ a];subst a;show#[#[5],λg h=>#[5,h]]
  .rw[NW a];show#[6,λg h=> ?_]
   .rw[OI];exact N4 _ b
   .rw[OI]at h⊢;rcases N1.mp h with e|e
    .exact N1.mpr (.inl e)
    .exact N4 _ (c g e)
theorem bA(f:Str)(v:V):∀fs:List (Str×V),(aW f v fs).length<=fs.length+1
 | []=>by simp[aW]
 |(k,x)::r=>by
  have b:=bA f v r;rw[show aW f v ((k,x)::r)=(if k=f then(k,v)::r else(k,x)::aW f v r)from rfl];by_cases a:k=f
  .rw[NZ a,Oa,Oa];lia
  .rw[NW a,Oa,Oa];lia
theorem ie.some_of(r:ie (some v) o):∃u,o=some u/\bo v u:=by
 cases o with
 |none=>exact(show False from r).elim
 |some u=>show#[u,2,r]
theorem ie.none_of(r:ie none o):o=none:=by
 cases o with
 |none=>rfl
 |some u=>exact(show False from r).elim
theorem Dv(r:bo v u):PySem.W.handedIn u=true:=by
 cases v with
 |non=>cases (show u=Value.none from r);rfl
 |bl b=>cases (show u=Value.bool b from r);rfl
 |int i=>obtain⟨t,e⟩:=(show∃t,u=Value.int i t from r);cases e;rfl
 |str x=>obtain⟨t,e⟩:=(show∃t,u=Value.str x t from r);cases e;rfl
 |byt b=>obtain⟨t,e⟩:=(show∃t,u=Value.bytes b t from r);cases e;rfl
 |flt b=>obtain⟨t,e⟩:=(show∃t,u=Value.float b t from r);cases e;rfl
 |ref a=>cases (show u=Value.ref a from r);rfl
 |ty n=>cases (show u=Value.type n from r);rfl
section
variable{P:tj}{w:vu}{H H':Hp}{h h':Heap}{a C dx:Addr}{fs fs':List (Str×V)}
theorem pN(c:HOk P w H h)(e:H a=some (.ins C dx fs)):∃b,AG h a dx C b/\(∀f,ie (fs.lookup f) (b f))/\PySem.Within b (fs.map (·.1))/\fs.length<=1000/\H dx=some (.own a):=by obtain⟨d,z,ne,g,b,n,r,q⟩:=(show bx P w H h a (.ins C dx fs)from c a _ e);show#[b,#[g,n,ne],r,q,z,d]
end
structure Cls(K:Frag)(C:Addr):Prop where
 pg:plainGet K C Str.empty=true
 hd:hasDictIn K C=true
 po:PySem.W.plainOver K C=true
 sa:findIn K (.ref C) T3=some (some (.builtin TM))
theorem Cls.get{K:Frag}(c:Cls K C)(f:Str):plainGet K C f=true:=c.pg
def gO(K:Frag)(C:Addr)(f:Str):Prop:=findIn K (.ref C) f=some none
theorem gO.taker{K:Frag}(n:gO K C f):takerIn K C f=some none:=by unfold takerIn;rw[show findIn K (.ref C) f=some none from n];rfl
structure Meth(K:Frag)(C:Addr)(m:Str)(f:Addr):Prop where
 at_:findIn K (.ref C) m=some (some (.ref f))
 fn:isFn K (.ref f)=true
 kp:keepIn K (.ref f)=true
section
variable{X:Cx}{pins:js}{σ:St}{H:Hp}{s:tr}{a C dx:Addr}{fs:List (Str×V)}{f:Str}{v:V}{A:vr}{E:f6}
theorem Ah(I:Inv X pins σ H s)(e:H a=some (.ins C dx fs))(c:Cls X.K C)(n:gO X.K C f)(l:fs.lookup f=some v)(h:∀u s',Inv X pins σ H s'->bo v u->Q u s'):wpAny (model X.prog X.w) A (getAttr (.ref a) f b) Q E s:=by
 obtain⟨i,O,r,_,_,_⟩:=pN I.hok e;obtain⟨u,g,d⟩:=ie.some_of (v:=v) (o:=i f) (by rw[<-l];exact r f);exact JF I.kIn O (c.get f) c.hd n g (Dv d) (h u _ (I.tok _) d)
theorem iS(I:Inv X pins σ H s)(e:H a=some (.ins C dx fs))(c:Cls X.K C)(k:Meth X.K C m g)(l:fs.lookup m=none)(h:Q (.ref g,[.ref a]) s):wpAny (model X.prog X.w) A (getMethod (.ref a) m pl) Q E s:=by
 obtain⟨d,O,r,_,_,_⟩:=pN I.hok e;have b:d m=none:=ie.none_of (by rw[<-l];exact r m);exact Gd I.kIn O (c.get m) k.at_ k.fn b h
theorem zq(I:Inv X pins σ H s)(e:H a=some (.ins C dx fs))(c:Cls X.K C)(n:gO X.K C f)(hl:fs.length<1000)(t:bo y u)(h:∀s',Inv X pins σ (upd H a (.ins C dx (aW f y fs))) s'->Q Unit.unit s'):wpAny (model X.prog X.w) A (setAttr (.ref a) f u) Q E s:=by
 obtain⟨j,O,r,k,_,i⟩:=pN I.hok e;have hz:(fs.map (·.1)).length<=sizeLine:=by rw[My,Ta];lia
 refine Ir I.kIn O c.sa c.po n.taker c.hd k hz λh' d B=>h _ ?_;have m:∃o,h'.get? dx=some o:=let⟨o,_,_,l,_⟩:=d.ns;#[o,l];refine I.write (x:=a) (e:=dx) (by rw[e];exact Og) (.inr i) (λb q hb z=>(B.2 b hb).trans z) m ?_;show#[by rw[aj O.ne];exact i,6,O.ne,d.obj,_,d.ns,λg=> ?_,λg p=> ?_]
 .have:=bA f y fs;lia
 .show ie ((aW f y fs).lookup g) (if g=f then some u else j g);rw[eO];by_cases q:g=f
  .rw[NZ q,NZ q];exact t
  .rw[NW q,NW q];exact r g
 .by_cases q:g=f
  .rw[q];exact(ia f y fs).1
  .refine(ia f y fs).2 g (k g λz=>p ?_);show(if g=f then some u else j g)=none;rw[NW q];exact z
theorem Inv.made(I:Inv X pins σ H s):Inv X pins σ (upd (upd H s.heap.objs.size (.own (s.heap.objs.size+1))) (s.heap.objs.size+1) (.ins C s.heap.objs.size []))
  {s with heap:=(s.heap.push emptyDict).push (instObj C s.heap.objs.size)}:=by
 have c:(s.heap.push emptyDict).get? s.heap.objs.size=some emptyDict:=Oi s.heap rfl;have g:((s.heap.push emptyDict).push (instObj C s.heap.objs.size)).get? (s.heap.objs.size+1)=some (instObj C s.heap.objs.size):=by
  have:=Oi (s.heap.push emptyDict) (o:=instObj C s.heap.objs.size) rfl
  rwa [Pd]at this
 have h:(s.heap.push emptyDict).Ns s.heap.objs.size (λ_=>none):=#[emptyDict, #v[],_,c,2,(λe i=>absurd i #[5]),λ_=>rfl];have d:=I.laid (a:=s.heap.objs.size) (o:= .own (s.heap.objs.size+1)) (h':=s.heap.push emptyDict) (t':=s.toks) (λb u q=>NY _ q) (N3 _) #[_,c];refine d.laid (a:=s.heap.objs.size+1) (o:= .ins C s.heap.objs.size []) (t':=s.toks) (λb u q=>NY _ q) (Nat.le_of_eq (Pd _ _)) ?_;have ne:s.heap.objs.size≠s.heap.objs.size+1:=Oe (PB _);show#[by rw[aj ne,ag],Pw _,ne,g,λ_=>none,(Heap.Ns1.of_empty h).at λo q=>NY _ q,λ_=>Og,λy j=>absurd rfl j]
theorem JW(hb:attributeBase e f env (eval e env)=eval e env)(h:wpAny (model prog w) A (eval e env) (λo b=>wpAny (model prog w) A (getAttr o f true) Q E b) E s):wpAny (model prog w) A (eval (.Attribute e f pos) env) Q E s:=
 Attribute_any_ h (by rw[arm_eval_Attribute,hb])
end
inductive RdF(K:Frag)(f:Str)(Q:VK)(x:V)(H:Hp):Prop
 |mk(a C dx:Addr) (fs:List (Str×V)) (v:V) (e1:x= .ref a) (e2:H a=some (.ins C dx fs)) (c:Cls K C) (n:gO K C f) (l:fs.lookup f=some v) (q:Q v H):RdF K f Q x H
def KO(K:Frag)(a:TE)(f:Str):TE:=λb H Q=>a b H (RdF K f Q)
def La(K:Frag)(g tv:TE)(f:Str):TS:=λD b H=>tv b H λy e=>g b e λx c=>∃a C d fs,x= .ref a/\c a=some (.ins C d fs)/\Cls K C/\gO K C f/\fs.length<1000/\
 D.nx b (upd c a (.ins C d (aW f y fs)))
section
variable{X:Cx}{o e value:Expr}{f:Str}{pos pos' tpos:Pos}{ta tv:TE}
theorem Lx(j:PE X e ta)(hb:attributeBase e f X.env (eval e X.env)=eval e X.env):PE X (.Attribute e f pos) (KO X.K ta f):=by intro m s t H Q I h;refine JW hb (thn (j m s t H _ I h) λu y k=> ?_);obtain⟨x,b,d,r,a,C,w,fs,v,ex,i,c,n,l,q⟩:=k;subst ex;obtain rfl:u=Value.ref a:=r;exact Ah d i c n l λA z g p=>#[v,b,g,p,q]
theorem Lm(m:PE X o ta)(t:PE X value tv)(r:swapsWith value (some (.Attribute o f pos')) pos.line X.env=pure false):PS X (.Assign [.Attribute o f pos'] value pos) (La X.K ta tv f):=by intro d s b H D I h;refine RV (thn (t d s b H _ I h) λu B ⟨y,g,i,A,q⟩=>thn (m d B b g _ i q) λv L p=> ?_) r;obtain⟨x,G,j,z,a,C,J,fs,ex,k,c,n,l,w⟩:=p;subst ex;obtain rfl:v=Value.ref a:=z;exact zq j k c n l A λM I3=>#[b,_,I3,w]
end
section
variable{X:Cx}{pins:js}{σ:St}{H:Hp}{s:tr}{A:vr}{E:f6}{Q:f6}{c:Value}{b:Bool}
inductive nS(K:Frag)(H:Hp):V->Value->Prop where
 |non:nS K H .non (.type "NoneType")
 |bl (x:Bool):nS K H (.bl x) (.type "bool")
 |int (i:Int):nS K H (.int i) (.type "int")
 |str (x:Str):nS K H (.str x) (.type "str")
 |flt (x:UInt64):nS K H (.flt x) (.type "float")
 |lst {a:Addr} {xs:List V} (e:H a=some (.lst xs)):nS K H (.ref a) (.type Ts)
 |frz {a:Addr} {o:Obj} {xs:List V} (e:H a=some (.frz o (.lst xs))):nS K H (.ref a) (.type Ts)
 |tup {a:Addr} {xs:List V} (e:H a=some (.tup xs)):nS K H (.ref a) (.type TN)
 |dK {a:Addr} {kvs:List (Key×V)} (e:H a=some (.dK kvs)):nS K H (.ref a) (.type TH)
 |dT {a:Addr} {kvs:List (List Key×V)} (e:H a=some (.dT kvs)):nS K H (.ref a) (.type TH)
 |ins {a C dx:Addr} {fs:List (Str×V)} (e:H a=some (.ins C dx fs)) (cl:Cls K C) (ha:findIn K (.ref C) Uq=some (some (.builtin Tz)))
   (hn:specialIn K (.builtin Tz) "__get__"=some (some (.builtin T7))) (htk:PySem.W.takesIn K (.builtin Tz)=some true)
   (hm:mroIn K C (.type Ur)=some true):nS K H (.ref a) (.ref C)
theorem Dr(I:Inv X pins σ H s)(f:bo x u)(ty:nS X.K H x t)(e:kitOne X.K t c=some b)(h:∀B,Q (.bool b) {s with toks:=B}):
  wpAny (model X.prog X.w) A (call (.builtin TK) [u,c]) Q E s:=by
 cases ty with
 |non=>cases (show u=Value.none from f);exact Pf PySem.W.kitx_none I.kIn Og e (λz=>nomatch z) h
 |bl y=>cases (show u=Value.bool y from f);exact Pf PySem.W.kitx_bool I.kIn Og e (λz=>nomatch z) h
 |int i=>obtain⟨t,q⟩:=(show∃t,u=Value.int i t from f);cases q;exact Pf PySem.W.kitx_int I.kIn Og e (λz=>nomatch z) h
 |str y=>obtain⟨t,q⟩:=(show∃t,u=Value.str y t from f);cases q;exact Pf PySem.W.kitx_str I.kIn Og e (λz=>nomatch z) h
 |flt y=>obtain⟨t,q⟩:=(show∃t,u=Value.float y t from f);cases q;exact Pf PySem.W.kitx_float I.kIn Og e (λz=>nomatch z) h
 | @lst a xs d=>
  cases (show u=Value.ref a from f);obtain⟨_,_,n,_,g⟩:=(show bx X.prog X.w H s.heap a (.lst xs)from I.hok a _ d);exact Pf PySem.W.kitx_list I.kIn #[_,g,2] e (λz=>nomatch z) h
 | @frz a v xs d=>
  cases (show u=Value.ref a from f);obtain⟨_,_,_,n,_,g⟩:=(show bx X.prog X.w H s.heap a (.frz v (.lst xs))from I.hok a _ d);exact Pf PySem.W.kitx_list I.kIn #[_,g,2] e (λz=>nomatch z) h
 | @tup a xs d=>
  cases (show u=Value.ref a from f);obtain⟨_,_,_,p⟩:=(show bx X.prog X.w H s.heap a (.tup xs)from I.hok a _ d);obtain⟨o,g,j,_⟩:=p;exact Pf PySem.W.kitx_tuple I.kIn #[o,g,j] e (λz=>nomatch z) h
 | @dK a kvs d=>
  cases (show u=Value.ref a from f);obtain⟨_,_,vs,_,p⟩:=(show bx X.prog X.w H s.heap a (.dK kvs)from I.hok a _ d);obtain⟨o,es,ep,g,j,_⟩:=p;exact Pf PySem.W.kitx_dict I.kIn #[o,g,j.1] e (λz=>nomatch z) h
 | @dT a kvs d=>
  cases (show u=Value.ref a from f);obtain⟨_,_,xs,_,o,es,ep,g,j,_⟩:=(show bx X.prog X.w H s.heap a (.dT kvs)from I.hok a _ d);exact Pf PySem.W.kitx_dict I.kIn #[o,g,j.1] e (λz=>nomatch z) h
 | @ins a C G fs d cl k m r l=>
  cases (show u=Value.ref a from f);obtain⟨L,O,_⟩:=pN I.hok d;obtain⟨od,J,_⟩:=O.look;exact Pf (PySem.W.kitx_own (cl.get _) cl.hd k m r l) I.kIn J e (λz=>nomatch z) h
end
structure Room(k:Nat)(A:vr):Prop where
 hd:A.handled=none
 dp:A.depth+3*k+5<recursionLimit
 un:A.units+16*k+200<cLine
 gd:A.guards=some []
theorem Room.mono(r:Room k A)(h:j<=k):Room j A:=#[r.hd,by have:=r.dp;lia,by have:=r.un;lia,r.gd]
theorem Room.deeper{A:vr}(r:Room (k+1) A)(env:Env):Room k (A.deeper env):=
 #[r.hd,by have:=r.dp;show A.depth+1+3*k+5<_;lia,by have:=r.un;show A.units+3+16*k+200<_;lia,r.gd]
theorem z6{A:vr}:(A.under (.builtin TJ #[.ref C::us,kw])).depth=A.depth+1:=by
 first|rfl|simp[Around.under,Code.weight,Code.isCreation,Code.isGuard,Code.isCaller,Code.frames,Code.isFrame,guardIds]
theorem z5{A:vr}:(A.under (.builtin TJ #[.ref C::us,kw])).units=A.units+1:=by
 first|rfl|simp[Around.under,Code.cUnits,Code.frames,Code.isFrame]
theorem Room.make{A:vr}(r:Room (k+1) A)(C:Addr)(us:qR)(a:List (Str×Value)):Room k (A.under (.builtin TJ #[.ref C::us,a])):=
 #[r.hd,by have:=r.dp;rw[z6];lia,by have:=r.un;rw[z5];lia,r.gd]
theorem Room.depth{A:vr}(r:Room k A):A.depth<recursionLimit:=by have:=r.dp;lia
theorem Room.units{A:vr}(r:Room k A):A.units+64<cLine:=by have:=r.un;lia
def wB:TA:=λ_ H Q=>Q [] H
def sS(d:TE)(e:TA):TA:=λa H Q=>d a H λx b=>e a b λxs c=>Q (x::xs) c
section
variable{X:Cx}{e:Expr}{es:q7}{te:TE}{t:TA}{pos:Pos}
theorem aN:PA X [] wB:=λ_ _ _ _ H Q I h=>Calls.spliced_nil #[[],H,I, .nil,h]
theorem ai(i:PE X e te)(j:PA X es t)(k:starEach (e::es) X.env=(false,eval e X.env)::starEach es X.env:=by rfl):PA X (e::es) (sS te t):=by intro pos a s b H Q I h;rw[k];show wpAny _ _ (spliced ((false,eval e X.env)::backTo pos (starEach es X.env))) _ _ s;refine Calls.spliced_cons (thn (i a s b H _ I h) λu p ⟨x,c,f,n,l⟩=> ?_);exact thn (j pos a p b c _ f l) λus q ⟨xs,d,g,o,m⟩=>#[x::xs,d,g, .cons n o,m]
def NC(t:TA):TE:=λb H Q=>t b H λxs a=>xs.length<=sizeLine/\∀p,a p=none->Q (.ref p) (upd a p (.tup xs))
def KL(t:TA):TE:=λb H Q=>t b H λxs a=>xs.length<=sizeLine/\∀p,a p=none->Q (.ref p) (upd a p (.lst xs))
theorem cn{x1}(h:PA X es t):PE X (.Tuple es x1 pos) (NC t):=by intro i s j H Q I g;refine wpAny_Tuple_spliced (thn (h pos i s j H _ I g) λus a ⟨xs,c,d,r,z,q⟩=>#[by rw[<-r.length];exact z,6]);have f:c a.heap.objs.size=none:=d.hok.fresh (N3 _);show#[.ref a.heap.objs.size,upd c a.heap.objs.size (.tup xs),d.laid (t':=a.toks) (λb u e=>NY _ e) (N3 _) ?_,2,q _ f];show#[z,us,r,#[_,Oi _ rfl,27]]
theorem aZ(h:PA X es t):PE X (.List es pos) (KL t):=by intro i s j H Q I g;refine wpAny_List_spliced (thn (h pos i s j H _ I g) λus a ⟨xs,c,d,r,z,q⟩=>#[by rw[<-r.length];exact z,6]);have f:c a.heap.objs.size=none:=d.hok.fresh (N3 _);show#[.ref a.heap.objs.size,upd c a.heap.objs.size (.lst xs),d.laid (t':=a.toks) (λb u e=>NY _ e) (N3 _) ?_,2,q _ f];show#[z,us,0,r,Oi _ rfl]
end
abbrev Sp:=List V->Hp->VK->XK->Prop
abbrev CXT:=List Env->Hp->Shared->XK->Value->Shared->Prop
structure AH(P:tj)(w:vu)(K:Frag)(mg:i2)(base:Heap)(A:vr)(outer:ti)(s:tr)(H:Hp):Prop where
 frames:A.frames=some outer
 mod:Mod K mg base
 bs:∀b o,base.get? b=some o->s.heap.get? b=some o/\H b=none
 bsz:base.objs.size<=s.heap.objs.size
 funs:s.heap.FunFrames base outer
 frf:∀b∈frs outer,H b=none
 hok:HOk P w H s.heap
 bare:AllBare s.gens
def CE(a:ti)(P:tj)(w:vu)(H:Hp)(s:tr)(Q:VK)(u:Value)(s':tr):Prop:=
 ∃v H',s'.os=s.os/\AllBare s'.gens/\Un (frs a) [] H H' s.heap s'.heap/\HOk P w H' s'.heap/\bo v u/\Q v H'
def CR(CX:CXT)(a:ti)(P:tj)(w:vu)(H:Hp)(s:tr)(Q:VK)(E:XK)(r:Result)(s':tr):Prop:=
 match r with
 | .ok (.ret u)=>CE a P w H s Q u s'
 | .ok _=>False
 | .error e=>CX a H s E e s'
structure c5(P:tj)(w:vu)(K:Frag)(mg:i2)(base:Heap)(CX:CXT)(k:Nat)(f:Addr)(fd:FuncData)(ps:r9)(sp:Sp):Prop where
 len:∀vs H Q E,sp vs H Q E->vs.length=ps.length
 run:∀(A:vr)(outer:ti)(s:tr)(H:Hp)(args:Args)(us:qR)(vs:List V)(Q:VK)(E:XK),Room k A->AH P w K mg base A outer s H->BindsTo s fd args (ps.zip us)->Vals vs us->sp vs H Q E->
  codeAny (model P w) A (.call (.ref f) args) (CR CX outer P w H s Q E) s
theorem c5.mono{K:Frag}{a:FuncData}{ps:r9}{sp:Sp}(F:c5 P w K mg base CX j f a ps sp)(h:j<=k):
  c5 P w K mg base CX k f a ps sp:=#[F.len,λA c s H args us vs Q E b=>F.run A c s H args us vs Q E (b.mono h)]
theorem c5.imp{K:Frag}{a:FuncData}{ps:r9}{sp b:Sp}(F:c5 P w K mg base CX k f a ps sp)(h:∀vs H Q E,b vs H Q E->sp vs H Q E):c5 P w K mg base CX k f a ps b:=
 #[λvs H Q E q=>F.len vs H Q E (h _ _ _ _ q),λA i s H args us vs Q E d c hb g e=>F.run A i s H args us vs Q E d c hb g (h _ _ _ _ e)]
theorem AH.make{K:Frag}{A:vr}(e:AH P w K mg base A outer s H)(C:Addr)(us:qR)(a:List (Str×Value)):
  AH P w K mg base (A.under (.builtin TJ #[.ref C::us,a])) outer s H:=#[by first|exact e.frames|(simpa [Around.under,Code.envs,Code.isFrame,pushEnvs]using e.frames),e.mod,e.bs,e.bsz,e.funs,e.frf,e.hok,e.bare]
section
variable{X:Cx}{pins:js}{σ:St}{H:Hp}{s s':tr}
theorem Inv.env0(I:Inv X pins σ H s):AH X.prog X.w X.K X.mg X.base X.A X.stack s H:=
 #[I.ok.frames,I.ok.mod,I.bs,NV I.ok.bsz I.sz,I.stack,I.stkFree,I.hok,I.bare]
theorem Inv.after(I:Inv X pins σ H s)(h:CE X.stack X.prog X.w H s Q u s'):EP X pins σ Q u s':=by obtain⟨v,H',os,bare,un,c,r,q⟩:=h;obtain⟨a,g,d,t,e⟩:=s';obtain rfl:e=s.os:=os;show#[v,H',I.call (h':=a) (g':=g) (d':=d) (t':=t) (ch:=[]) un c bare (λb z=>absurd z #[5]),r,q]
end
def wC(sp:Sp)(dvs:List V)(E:XK)(t:TA):TE:=λb H Q=>t b H λvs a=>sp (vs++dvs) a Q E
def J6(C:Addr)(m:Str)(sp:Sp)(dvs:List V)(E:XK)(f:TE)(t:TA):TE:=λc H Q=>f c H λx b=>∃a e fs,x= .ref a/\b a=some (.ins C e fs)/\fs.lookup m=none/\
 t c b λvs d=>sp (x::(vs++dvs)) d Q E
def AO(C:Addr)(sp:Sp)(dvs:List V)(E:XK)(t:TA):TE:=λd H Q=>t d H λvs b=>∀x a,b x=none->b a=none->a≠x->
 sp (.ref x::(vs++dvs)) (upd (upd b a (.own x)) x (.ins C a [])) (λv c=>v= .non/\Q (.ref x) c) E
def cx(K:Frag)(b:FuncData)(ps:r9)(a:qR):Prop:=
 ∀(s:tr)(us:qR),K.In s.heap->(us++a).length=ps.length->BindsTo s b #[us,[]] (ps.zip (us++a))
theorem cx.all{K:Frag}{ps:r9}(h:∀us:List Value,us.length=ps.length->bindArgs fd #[us,[]]=pure (ps.zip us)):cx K fd ps []:=λs us _ hl=>by rw[OP]at hl⊢;exact .of_eq (h us hl)
def dF(CX:CXT)(X:Cx)(E:XK):Prop:=∀(a:js) (b:St) (H:Hp) (s:tr) (e:Value) (s':tr),Inv X a b H s->CX X.stack H s E e s'->X.xe e s'
section
variable{X:Cx}{CX:CXT}{k:Nat}{f C:Addr}{fd:FuncData}{ps:r9}{sp:Sp}{dvs:List V}{ds:qR}{E:XK}{x m:Str}{p pos apos:Pos}{e o:Expr}{es:q7}{ta:TE}{t:TA}
theorem mY{b:St}(F:c5 X.prog X.w X.K X.mg X.base CX k f fd ps sp)(i:Room k X.A)(hb:cx X.K fd ps ds)(g:Vals dvs ds)(hx:dF CX X E)(I:Inv X pins b H s)(r:Vals vs us)(h:sp (vs++dvs) H Q E):wpAny (model X.prog X.w) X.A (call (.ref f) us) (EP X pins b Q) X.xe s:=by
 have c:Vals (vs++dvs) (us++ds):=r.append g;have hl:(us++ds).length=ps.length:=by rw[<-c.length];exact F.len _ _ _ _ h
 refine QZ (Qv (F.run X.A X.stack s H #[us,[]] (us++ds) (vs++dvs) Q E i I.env0 (hb s us I.kIn hl) c h) λr s' a=> ?_);cases r with
 |error e=>exact hx pins b H s e s' I a
 |ok d=>
  cases d with
  |ret u=>exact I.after a
  |next=>exact False.elim a
  |brk=>exact False.elim a
  |cont=>exact False.elim a
theorem vf(F:c5 X.prog X.w X.K X.mg X.base CX k f fd ps sp)(u:Room k X.A)(i:Gl X x)(l:X.mg x=some (.ref f))(j:keepIn X.K (.ref f)=true)(hb:cx X.K fd ps ds)(c:Vals dvs ds)(hx:dF CX X E)(b:PA X (e::es) t)(d:(x==(Tq:Str))=false:=by decide)(g:starEach (e::es) X.env=(false,eval e X.env)::starEach es X.env:=by rfl)(n:(backTo pos (starEach es X.env)).any (·.1)=false:=by rfl):
  PE X (.Call (.Name x p) (e::es) [] pos) (wC sp dvs E t):=by
 intro v s y H Q I h;refine PX (dW I i l ?_ d);refine PY (h₀:=X.base) I.ok.mod.kin j (thn (b pos v s y H _ I h) λus B ⟨vs,z,a,r,q⟩=>#[a.kIn,6]) g n;exact mY F u hb c hx a r q
theorem IT{pl:Sem Bool}(G:PE X o ta)(c:Cls X.K C)(g:Meth X.K C m f)(F:c5 X.prog X.w X.K X.mg X.base CX k f fd ps sp)(M:Room k X.A)(hb:cx X.K fd ps ds)(B:Vals dvs ds)(hx:dF CX X E)(z:PA X (e::es) t)(N:starEach (e::es) X.env=(false,eval e X.env)::starEach es X.env:=by rfl)(J:(backTo pos (starEach es X.env)).any (·.1)=false:=by rfl)(O:eval (.Call (.Attribute o m apos) (e::es) [] pos) X.env=(do
   let i<-eval o X.env
   standAt apos.atName
   let(f,first)<-holding [i] (getMethod i m pl)
   callWith pos f first (backTo pos (starEach (e::es) X.env)) (backToKw pos (keywordEach [] X.env))):=by rfl):
  PE X (.Call (.Attribute o m apos) (e::es) [] pos) (J6 C m sp dvs E ta t):=by
 intro j s n H Q I h;refine Qj (pl:=pl) (thn (G j s n H _ I h) λu s1 L=> ?_) O;obtain⟨x,v,b,rx,a,dx,fs,ex,y,l,q⟩:=L;subst ex;obtain rfl:u=Value.ref a:=rx;refine iS b y c g l ?_;refine PY (first:=[.ref a]) (h₀:=X.base) I.ok.mod.kin g.kp (thn (z pos j s1 n v _ b q) λus s2 ⟨vs,H2,d,r,U⟩=>#[d.kIn,6]) N J;exact mY (us:= .ref a::us) (vs:= .ref a::vs) F M hb B hx d (.cons rfl r) U
structure Mk(K:Frag)(C f:Addr):Prop where
 makes:makesIn K C=true
 init:findIn K (.ref C) TF=some (some (.ref f))
 fn:isFn K (.ref f)=true
 kp:keepIn K (.ref C)=true
theorem wX{d:St}(M:Mk X.K C f)(F:c5 X.prog X.w X.K X.mg X.base CX k f fd ps sp)(y:Room (k+1) X.A)(hb:cx X.K fd ps ds)(q:Vals dvs ds)(hx:dF CX X E)(I:Inv X pins d H s)(r:Vals vs us)(h:∀x c,H x=none->H c=none->c≠x->sp (.ref x::(vs++dvs)) (upd (upd H c (.own x)) x (.ins C c [])) (λv j=>v= .non/\Q (.ref x) j) E):
  wpAny (model X.prog X.w) X.A (call (.ref C) us) (EP X pins d Q) X.xe s:=by
 have g:=h (s.heap.objs.size+1) s.heap.objs.size (I.hok.fresh (QM _)) (I.hok.fresh (N3 _)) (Oe (PB _));have b:=Inv.made (C:=C) I;have i:Vals (V.ref (s.heap.objs.size+1)::(vs++dvs)) (Value.ref (s.heap.objs.size+1)::(us++ds)):= .cons rfl (r.append q);have hl:(Value.ref (s.heap.objs.size+1)::us++ds).length=ps.length:=by have e:=i.length;rw[F.len _ _ _ _ g]at e;exact e.symm
 refine QZ (FI (f:=f) I.kIn M.makes M.init (Qd.mp M.fn) (Qv (F.run _ X.stack _ _ #[Value.ref (s.heap.objs.size+1)::us,[]] (Value.ref (s.heap.objs.size+1)::(us++ds)) _ _ E (y.make C us [])
  (b.env0.make C us []) (hb _ (Value.ref (s.heap.objs.size+1)::us) b.kIn hl) i g) λr s' a=> ?_))
 cases r with
 |error e=>exact hx pins d _ _ e s' b a
 |ok n=>
  cases n with
  |ret u=>
   obtain⟨v,H',I3,B,l,z⟩:=b.after a;subst l;show#[B,#[V.ref (s.heap.objs.size+1),H',I3,2,z]]
  |next=>exact False.elim a
  |brk=>exact False.elim a
  |cont=>exact False.elim a
theorem IU(M:Mk X.K C f)(F:c5 X.prog X.w X.K X.mg X.base CX k f fd ps sp)(n:Room (k+1) X.A)(i:Gl X x)(j:X.mg x=some (.ref C))(hb:cx X.K fd ps ds)(c:Vals dvs ds)(hx:dF CX X E)(b:PA X (e::es) t)(d:(x==(Tq:Str))=false:=by decide)(g:starEach (e::es) X.env=(false,eval e X.env)::starEach es X.env:=by rfl)(l:(backTo pos (starEach es X.env)).any (·.1)=false:=by rfl):
  PE X (.Call (.Name x p) (e::es) [] pos) (AO C sp dvs E t):=by
 intro u s v H Q I h;refine PX (dW I i j ?_ d);refine PY (h₀:=X.base) I.ok.mod.kin M.kp (thn (b pos u s v H _ I h) λus z ⟨vs,y,a,r,q⟩=>#[a.kIn,6]) g l;exact wX M F n hb c hx a r q
theorem E6(M:Mk X.K C f)(F:c5 X.prog X.w X.K X.mg X.base CX k f fd ps sp)(g:Room (k+1) X.A)(c:Gl X x)(d:X.mg x=some (.ref C))(hb:cx X.K fd ps ds)(a:Vals dvs ds)(hx:dF CX X E)(b:(x==(Tq:Str))=false:=by decide):PE X (.Call (.Name x p) [] [] pos) (AO C sp dvs E wB):=by
 intro i s j H Q I h;refine PX (dW I c d ?_ b);exact PySem.W.callWith_K0 I.kIn M.kp (wX (us:=[]) M F g hb a hx I .nil h)
end
structure bZ(N P:r9)(sc:Scope):Prop where
 kind:sc.kind= .function
 co:sc.isCoroutine=false
 gen:sc.isGenerator=false
 nd:N.Nodup
 pre:N.take P.length=P
 par:∀x∈P,sc.names.lookup x=some .local\/sc.names.lookup x=some .cell
 nofree:∀y∈sc.names,y.2≠ .free
theorem um{kindOf:Str->Option NameKind}:∀ {binds:List (Str×Value)} {m:i2},(∀v,(x,v)∉binds)->bindL kindOf binds m x=m x
 | [],_,_=>rfl
 |(n,v)::r,m,h=>by
  unfold bindL;rw[um λw a=>h w (N4 _ a)];split
  .have:x≠n:=by rintro rfl;exact h v N8
   simp[this]
  .rfl
theorem uq{kindOf:Str->Option NameKind}:∀ {binds:List (Str×Value)} {m:i2},(∀v,(x,v)∉binds)->bindC kindOf binds m x=m x
 | [],_,_=>rfl
 |(n,v)::r,m,h=>by
  unfold bindC;rw[uq λw a=>h w (N4 _ a)];split
  .rfl
  .have:x≠n:=by rintro rfl;exact h v N8
   simp[this]
theorem uo{kindOf:Str->Option NameKind}:∀ {P:r9} {vs:qR} {i:Nat} {m:i2},P.Nodup->P[i]?=some x->vs[i]?=some v->kindOf x=some .local->
  bindL kindOf (P.zip vs) m x=some v
 | [],_,_,_,_,h,_,_=>by simp at h
 |_::_,[],_,_,_,_,h,_=>by simp at h
 |p::P,w::vs,0,m,nd,a,b,c=>by simp at a b;subst a;subst b;show bindL kindOf ((p,w)::P.zip vs) m p=_;unfold bindL;rw[um λv d=>(Qy.mp nd).1 (S4 d).1,NZ c];simp
 |p::P,w::vs,i+1,m,nd,a,b,c=>by show bindL kindOf ((p,w)::P.zip vs) m x=_;unfold bindL;exact uo (i:=i) (Qy.mp nd).2 #[5,a] #[5,b] c
theorem ur{kindOf:Str->Option NameKind}:∀ {P:r9} {vs:qR} {i:Nat} {m:i2},P.Nodup->P[i]?=some x->vs[i]?=some v->kindOf x≠some .local->
  bindC kindOf (P.zip vs) m x=some v
 | [],_,_,_,_,h,_,_=>by simp at h
 |_::_,[],_,_,_,_,h,_=>by simp at h
 |p::P,w::vs,0,m,nd,a,b,c=>by simp at a b;subst a;subst b;show bindC kindOf ((p,w)::P.zip vs) m p=_;unfold bindC;rw[uq λv d=>(Qy.mp nd).1 (S4 d).1,NW c];simp
 |p::P,w::vs,i+1,m,nd,a,b,c=>by show bindC kindOf ((p,w)::P.zip vs) m x=_;unfold bindC;exact ur (i:=i) (Qy.mp nd).2 #[5,a] #[5,b] c
def start(N:r9)(vs:List V):St:=vs.map some++List.replicate (N.length-vs.length) none
def cJ(CX:CXT)(P:tj)(w:vu)(K:Frag)(mg:i2)(base:Heap)(N:r9)(b:Str)(scope:Scope)(f:Addr)(a:Value)(A:vr)(outer:ti)(s:tr)(H:Hp)(E:XK):Cx where
 prog:=P
 w:=w
 K:=K
 mg:=mg
 base:=base
 A:=A.deeper (envOfC b scope s.heap.objs.size f a)
 N:=N
 s₀:=s
 H₀:=H
 env:=envOfC b scope s.heap.objs.size f a
 outer:=outer
 stack:=envOfC b scope s.heap.objs.size f a::outer
 ex:=[]
 calm:=true
 fn:=λ_=>true
 pn:=[]
 xe:=λe s'=>wpAny (model P w) (A.deeper (envOfC b scope s.heap.objs.size f a)) (leaving (envOfC b scope s.heap.objs.size f a) e) (λ_ c=>CX outer H s E e c) (λd c=>CX outer H s E d c) s'
theorem yh{a:Scope}(h:a.names.lookup x=some .cell):∃c,(cellsFrom n a.names []).lookup x=some c:=by have q:=PySem.W.cellsFrom_some a.names n [] (.inl h);exact Rv.mp q
theorem Ds{K:Frag}{N ps:r9}{scope:Scope}{m:Value}{A:vr}{G:ti}{s U:tr}{H:Hp}{E:XK}{us:qR}{vs:List V}(S:bZ N ps scope)(hd:A.handled=none)(g:AH P w K O base A G s H)(hl:vs.length=ps.length)(r:Vals vs us)(x:InCallC s s.heap.objs.size (bindL (envOfC J scope s.heap.objs.size f m).kindOf (ps.zip us) λ_=>none) (cellsFrom (s.heap.objs.size+1) scope.names []) (bindC (envOfC J scope s.heap.objs.size f m).kindOf (ps.zip us) λ_=>none) U):
  Inv (cJ CX P w K O base N J scope f m A G s H E) [] (start N vs) H U:=by
 have ay:ps.length<=N.length:=by have:=OL List.length S.pre;rw[Ow]at this;lia
 obtain⟨o,tk,rfl,L⟩:=x.done;have B:∀b:Addr,b∉ (cJ CX P w K O base N J scope f m A G s H E).ex:=λb z=>absurd (show b∈([]:List Addr)from z) #[5];show#[#[g.mod,S.kind,22,N3 _,λy z c o d=> ?_,λy j=> ?_,λy c _ h=> ?_,λ_=>hd,Around.frames_deeper g.frames, .inr #[22],λb z=>absurd z (B b),g.bs,g.bsz,λb _ _=>B b,λb z=>absurd z (B b),g.funs,g.frf],2,g.bare,Un.kept L,#[_,x.toInCall.ns,λi y v o d h3=> ?_],λy c h=>#[_,x.cell y c h],g.hok.fresh (N3 _),λy c h=> ?_,λp l=>absurd (show p∈([]:js)from l) #[5],g.hok.kept L,6]
 .exact name_of_addr x.apart (OZ o) (OZ d)
 .have j:scope.names.lookup y=some .cell\/scope.names.lookup y=some .free:=j;rcases j with j|j
  .exact yh j
  .exact absurd rfl (S.nofree _ (OZ j))
 .exact Qa (x.above y c (OZ h))
 .have t:i<vs.length:=by
   unfold start at d;by_cases t:i<vs.length
   .exact t
   .rw[PH #[5,t]]at d;rw[S2]at d;split at d<;>cases d
  have ha:vs[i]?=some v:=by
   unfold start at d;rw[PQ #[5,t],Ot]at d;cases e:vs[i]? with
   |none=>rw[e]at d;cases d
   |some a=>rw[e]at d;cases d;rfl
  obtain⟨u,M,rv⟩:=r.get ha;have l:ps[i]?=some y:=by rw[<-S.pre,Rw ()];exact o
  have Q:ps.Nodup:=by rw[<-S.pre];exact S.nd.sublist (List.take_sublist _ _)
  show#[u,rv,6];rcases S.par y (N5 l)with k|k
  .exact .inl #[k,uo Q l M k]
  .obtain⟨c,e⟩:=yh (n:=s.heap.objs.size+1) k;refine .inr #[.inl k,c,e,6];have q:=x.cell y c e;rwa[ur Q l M (by show scope.names.lookup y≠_;rw[k];decide)]at q
 .exact g.hok.fresh (Qa (x.above y c (OZ h)))
 .unfold start;show _=N.length;rw[Od,My,Q7];lia
theorem xT{K:Frag}{params:Arguments}{j:List Stmt}{scope:Scope}{G kV L U a B oc:Value}{an od:px}{b0:fx}{N ps:r9}{sp:Sp}(lk:K.lookup f=some #[oc,od, .func (fnOf name g params j scope G kV L U an a B),b0])(ax:codeIn K a g=true)(S:bZ N ps scope)(len:∀vs H Q E,sp vs H Q E->vs.length=ps.length)(ar:∀(A:vr)(d:ti)(s:tr)(H:Hp)(vs:List V)(Q:VK)(E:XK),Room k (A.deeper (envOfC g scope s.heap.objs.size f a))->sp vs H Q E->
   ∃t,PSs (cJ CX P w K m base N g scope f a A d s H E) j t/\t {nx:=λ_ H'=>Q .non H',rt:=Q} (start N vs) H):
  c5 P w K m base CX (k+1) f (fnOf name g params j scope G kV L U an a B) ps sp:=by
 show#[len,λA d s H args us vs Q E l h hb r O=> ?_];have hl:=len _ _ _ _ O;have z:K.In s.heap:=h.mod.kin.keeps λb o e=>(h.bs b o e).1;have bp:s.heap.NoLimit:=h.mod.nolimit.keeps λb o e=>(h.bs b o e).1;have az:∀y∈ps.zip us,scope.names.lookup y.1=some .local\/(scope.names.lookup y.1=some .cell/\((cellsFrom (s.heap.objs.size+1) scope.names []).lookup y.1).isSome=true):=λ⟨n,v⟩ hy=>by
  rcases S.par n (S4 hy).1 with q|q
  .exact .inl q
  .exact .inr #[q,PySem.W.cellsFrom_some _ _ _ (.inl q)]
 refine codeAny_call_function l.depth (z _ _ lk) rfl S.co S.gen rfl (PySem.W.codeRec_of z ax) (hb _ _ _ _ ?_);refine wpAny_newFunctionEnv_cells S.kind az λenv he s1 x=> ?_;subst he;show#[bp.keeps x.toInCall.keep,codeAny_func ?_];obtain⟨t,ht,hq⟩:=ar A d s H vs Q E (l.deeper _) O;have I:Inv (cJ CX P w K m base N g scope f a A d s H E) [] (start N vs) H s1:=Ds S l.hd h hl r x;refine ON (ht [] s1 (start N vs) H _ I hq) (λfl s' c=> ?_) λe s' c=>c;have M:∀ {i:St} {H':Hp} {v:V} {u:Value},Inv (cJ CX P w K m base N g scope f a A d s H E) [] i H' s'->bo v u->Q v H'->CE d P w H s Q u s':=
  λ{i H' v u} J p q=>#[v,H',J.os,J.bare,J.base,J.hok,p,q]
 cases fl with
 |ret u=>
  obtain⟨v,i,H',J,p,q⟩:=c;exact M J p q
 |next=>
  obtain⟨i,H',J,q⟩:=c;exact M (v:=V.non) (u:=Value.none) J rfl q
 |brk=>
  obtain⟨_,_,_,q⟩:=c;exact False.elim q
 |cont=>
  obtain⟨_,_,_,q⟩:=c;exact False.elim q
section
variable{X:Cx}{x:Str}{p pos:Pos}{e:Expr}{es:q7}{t:TA}{id T:tT}{r:List V->Hp->VK->Prop}
def tCB(r:List V->Hp->VK->Prop)(t:TA):TE:=λb H Q=>t b H λvs a=>r vs a Q
theorem aV(g:bz X (.builtin id) r)(k:Gl X x)(l:X.mg x=none)(o:bootBuiltins x=some (.builtin id))(f:PA X (e::es) t)(m:x≠ Ud:=by decide)(i:(x==(Tq:Str))=false:=by decide)(j:starEach (e::es) X.env=(false,eval e X.env)::starEach es X.env:=by rfl)(n:(backTo pos (starEach es X.env)).any (·.1)=false:=by rfl):PE X (.Call (.Name x p) (e::es) [] pos) (tCB r t):=by
 intro a s b H Q I h;refine PX (gM I k l o ?_ m i);exact PyProof.Rows.callWith_builtin1 (thn (f pos a s b H _ I h) λus v ⟨vs,c,d,u,q⟩=>g a v b c vs us Q d u q) j n
theorem aO(g:bz X (.type T) r)(k:Gl X x)(l:X.mg x=none)(o:bootBuiltins x=some (.type T))(f:PA X (e::es) t)(m:x≠ Ud:=by decide)(i:(x==(Tq:Str))=false:=by decide)(j:starEach (e::es) X.env=(false,eval e X.env)::starEach es X.env:=by rfl)(n:(backTo pos (starEach es X.env)).any (·.1)=false:=by rfl):PE X (.Call (.Name x p) (e::es) [] pos) (tCB r t):=by
 intro a s b H Q I h;refine PX (gM I k l o ?_ m i);exact O6 (thn (f pos a s b H _ I h) λus v ⟨vs,c,d,u,q⟩=>g a v b c vs us Q d u q) j n
end
end L2
namespace HT
open PySem PyProof.Rows
section
variable{prog:tj}{w:vu}{A:vr}{E:f6}{s:tr}
def sIx(n d:Nat):Option Int->Nat
 |none=>d
 |some v=>if v<0 then(v+(n:Int)).toNat else min v.toNat n
theorem qz(n d:Nat):sIx n d none=d:=rfl
theorem lT(n d k:Nat):sIx n d (some (k:Int))=min k n:=by show(if(k:Int)<0 then((k:Int)+(n:Int)).toNat else min (k:Int).toNat n)=min k n;rw[NW (),N9]
end
end HT
namespace L2
open PySem PySem.Spec PyProof.Rows
abbrev TO:=St->Hp->(Option Int->Hp->Prop)->Prop
def PO(X:Cx)(e:Option Expr)(t:TO):Prop:=
 ∀(b:js) (s:tr) (a:St) (H:Hp) (Q:Option Int->Hp->Prop),Inv X b a H s->t a H Q->
  wpAny (model X.prog X.w) X.A (evalPart e X.env) (λu s'=>∃o H',Inv X b a H' s'/\IsPart u o/\Q o H') X.xe s
def HU:TO:=λ_ H Q=>Q none H
def Mr(t:TE):TO:=λb H Q=>t b H λx a=>∃i,x= .int i/\Q (some i) a
theorem iR{ns:sv}:∀ {us:qR},Vals (ns.map V.int) us->IntsAre us ns:=by
 induction ns with
 |nil=>intro us r;rw[SQ]at r;cases r;exact .nil
 |cons n ns a=>
  intro us r;rw[OI]at r;cases r with
  |cons b c=>
   obtain⟨t,e⟩:=b;subst e;exact .cons n t (a c)
section
variable{X:Cx}{e:Expr}{te:TE}{lo hi:Option Expr}{tl th:TO}{pos p2:Pos}
theorem aU:PO X none HU:=by intro a s b H Q I h;rw[evalPart_none];exact N0 #[none,H,I, .none,h]
theorem aQ(h:PE X e te):PO X (some e) (Mr te):=by intro d s j H Q I c;rw[evalPart_some];refine thn (h d s j H _ I c) λu k ⟨x,a,b,g,f⟩=> ?_;obtain⟨i,rfl,q⟩:=f;obtain⟨t,rfl⟩:=g;show#[some i,a,b, .int i t,q]
def SlR(X:Cx)(r:V->Option Int->Option Int->Hp->VK->Prop):Prop:=
 ∀(a:js) (s:tr) (f:St) (H:Hp) (x:V) (v c d:Value) (lo hi:Option Int) (b:Addr) (Q:VK),Inv X a f H s->bo x v->s.heap.IsSliceOf b c d .none->IsPart c lo->IsPart d hi->r x lo hi H Q->
  ∃T id,typeLookup (.type T) "__getitem__"=pure (some (.builtin id))/\s.TypeIs v T/\wpAny (model X.prog X.w) X.A (getItem v (.ref b)) (EP X a f Q) X.xe s
def tSl(r:V->Option Int->Option Int->Hp->VK->Prop)(te:TE)(tl th:TO):TE:=λa H Q=>te a H λx b=>tl a b λl c=>th a c λu d=>r x l u d Q
theorem aI(y:SlR X r)(p:PE X e te)(hl:PO X lo tl)(B:PO X hi th):PE X (.Subscript e (.Slice lo hi none p2) pos) (tSl r te tl th):=by intro c s d H Q I h;refine Subscript_ (thn (p c s d H _ I h) λv N ⟨x,j,m,M,J⟩=> ?_);refine wpAny_Slice (thn (hl c N d j _ m J) λf O ⟨l,k,n,pl,K⟩=>thn (B c O d k _ n K) λg a ⟨u,i,I3,G,L⟩=> ?_);rw[evalPart_none];refine N0 ?_;have o:Inv X c d i {a with heap:=a.heap.push {cls:= .type "slice",data:= .fields #v[f,g, .none]}}:=I3.kept (t':=a.toks) λb U q=>NY _ q;obtain⟨T,id,hT,z,t⟩:=y c {a with heap:=a.heap.push {cls:= .type "slice",data:= .fields #v[f,g, .none]}} d i x v f g l u a.heap.objs.size Q o M (Heap.IsSliceOf.new ..) pl G L;show wpAny (model X.prog X.w) X.A (subscriptTail e (.Slice lo hi none p2) v (.ref a.heap.objs.size)) (EP X c d Q) X.xe {a with heap:=a.heap.push {cls:= .type "slice",data:= .fields #v[f,g, .none]}};exact tail_any (ops:=[.ref a.heap.objs.size,v]) z hT t (by with_unfolding_all rfl)
def dE(xs:List V)(lo hi:Option Int):List V:=(xs.drop (HT.sIx xs.length 0 lo)).take (HT.sIx xs.length xs.length hi-HT.sIx xs.length 0 lo)
theorem ye(xs:List V)(lo hi:Option Int):(dE xs lo hi).length<=xs.length:=by unfold dE;rw[Ow,OU];exact NV (Nat.min_le_right _ _) (Nat.sub_le _ _)
end
def ixN(n:Nat)(i:Int):Option Nat:=if 0<=i then(if i<n then some i.toNat else none)else if-(n:Int)<=i then some (i+n).toNat else none
def atI{a:Type}(xs:List a)(i:Int):Option a:=(ixN xs.length i).bind λj=>xs[j]?
theorem JB(h:ixN n i=some j):seqIndex? i n=some j/\j<n/\ -(n:Int)<=i/\i<n:=by
 unfold ixN at h;by_cases h0:0<=i
 .rw[NZ h0]at h;by_cases a:i<n
  .rw[NZ a]at h;have e:i.toNat=j:=OA h;show#[by rw[seqIndex_of h0 a,e],99,a]
  .rw[NW a]at h;cases h
 .rw[NW h0]at h;by_cases a: -(n:Int)<=i
  .rw[NZ a]at h;have e:(i+n).toNat=j:=OA h;show#[by rw[seqIndex_neg () a,e],9,a,9]
  .rw[NW a]at h;cases h
theorem vZ{xs:List α}(h:atI xs i=some v):∃j,seqIndex? i xs.length=some j/\xs[j]?=some v/\j<xs.length/\ -(xs.length:Int)<=i/\i<xs.length:=by
 unfold atI at h;cases e:ixN xs.length i with
 |none=>rw[e]at h;cases h
 |some j=>
  rw[e]at h;obtain⟨a,b,c,d⟩:=JB e;show#[j,a,h,b,c,d]
theorem bH{j:Nat}(h:xs[j]?=some v):atI xs (j:Int)=some v:=by
 have a:j<xs.length:=(Oc.mp h).1;have e:ixN xs.length (j:Int)=some j:=by unfold ixN;rw[NZ (),NZ ()];simp
 unfold atI;rw[e];exact h
def wb(b:Expr):Prop:=∀o i,subscripted b false o i=operate [o,i] (getItem o i)
def IxR(X:Cx)(r:R2):Prop:=
 ∀(c slice:Expr) (a:js) (s:tr) (b:St) (H:Hp) (x y:V) (v u:Value) (Q:VK),Inv X a b H s->bo x v->bo y u->r x y H Q->
  subscripted slice false v u=operate [v,u] (getItem v u)->wpAny (model X.prog X.w) X.A (subscriptTail c slice v u) (EP X a b Q) X.xe s
def MtR(X:Cx)(id:tT)(r:V->List V->Hp->VK->Prop):Prop:=
 ∀(a:js) (s:tr) (b:St) (H:Hp) (x:V) (xs:List V) (v:Value) (us:qR) (Q:VK),Inv X a b H s->bo x v->Vals xs us->r x xs H Q->
  wpAny (model X.prog X.w) X.A (call (.builtin id) (v::us)) (EP X a b Q) X.xe s
section
variable{X:Cx}{a b:Expr}{ta tb:TE}{pos:Pos}
theorem jB(f:IxR X r)(e:PE X a ta)(hb:PE X b tb)(g:wb b):PE X (.Subscript a b pos) (tOp r ta tb):=by intro i s m H Q I h;exact Subscript_ (Mf e hb I h λv u l x y c d j k q=>f a b i l m c x y v u Q d j k q (g _ _))
inductive RdX(K:Frag)(x y:V)(H:Hp)(Q:VK):Prop
 |mk(p:Addr) (xs:List V) (i:Int) (v:V) (e1:x= .ref p) (e2:y= .int i) (s:SqL K H p xs) (a:atI xs i=some v) (q:Q v H):RdX K x y H Q
def Lh(K:Frag):R2:=λx y H Q=>RdX K x y H Q
def Lg(K:Frag):R2:=λx y H Q=>∃p xs i v,x= .ref p/\y= .int i/\SqT K H p xs/\atI xs i=some v/\Q v H
def NL:R2:=λx y H Q=>∃z i c,x= .str z/\y= .int i/\z.length<=sizeLine/\atI z.cps.toList i=some c/\Q (.str #[#v[c]]) H
theorem JA:IxR X (Lh X.K):=by
 intro U slice k s l H x y v u Q I L M h g;obtain⟨p,xs,i,z,rfl,rfl,B,A,q⟩:=h;cases L;obtain⟨t,rfl⟩:=M;obtain⟨G,r,pl,hz⟩:=I.list B;obtain⟨j,c,m,N,n,o⟩:=vZ A;obtain⟨w,e,J⟩:=r.get m;have hl:=r.length;have O:=nG;have f:EP X k l Q w s:=#[z,H,I,J,q];by_cases h0:0<=i
 .have d:i.toNat=j:=by rw[seqIndex_of h0 o]at c;exact OA c
  exact item_listR pl.isList h0 () (by rw[d];simpa using e) f g
 .have d:(i+(G.toArray.size:Int)).toNat=j:=by rw[seqIndex_neg () n]at c;rw[Oq,<-hl];exact OA c
  exact subscriptTail_builtinR (x:=w) pl.isList.typeIs slot_list_getitem.lookup
   (wpAny_getItem_list_neg (Q:=λr s'=>r=w/\EP X k l Q r s') pl.isList () (by rw[Oq]<;>lia) () (by rw[d];simpa using e) #[2,f]) g
theorem LV:IxR X (Lg X.K):=by
 intro O slice c s d H x y v u Q I A B h n;obtain⟨p,xs,i,z,rfl,rfl,m,l,q⟩:=h;cases A;obtain⟨t,rfl⟩:=B;obtain⟨N,r,pl,hz⟩:=I.tuple m;obtain⟨j,g,k,G,J,L⟩:=vZ l;obtain⟨w,e,o⟩:=r.get k;have hl:=r.length;have M:=nG;have f:EP X c d Q w s:=#[z,H,I,o,q];exact subscriptTail_builtinR (x:=w) pl.typeIs slot_tuple_getitem.lookup
  (getItem_tuple (j:=j) (Q:=λr s'=>r=w/\EP X c d Q r s') pl () () (by rw[Oq,<-hl];exact g) #[5,e] #[2,f]) n
theorem iQ:IxR X NL:=by
 intro B slice A s G H x y v u Q I o p h n;obtain⟨z,i,c,rfl,rfl,hz,m,q⟩:=h;obtain⟨t,rfl⟩:=o;obtain⟨t',rfl⟩:=p;obtain⟨j,d,g,r,k,l⟩:=vZ m;have hl:z.cps.toList.length=z.length:=by simp[Str.length]
 rw[hl]at d k l;have w:=nG;exact tail_any (RA s z t) slot_str_getitem.lookup (getItem_str (c:=c) (by
  have e:decide (i< -(2^63:Int))=false:=NX ();have f:decide (i>=2^63)=false:=NX ();rw[e,f,Ti]) (by rw[d];simpa using g) #[.str #[#v[c]],H,I.tok _,#[7],q]) n
theorem uR(d c:Option Int)(n:Nat):(sliceBounds d c none n).1=((HT.sIx n 0 d:Nat):Int)/\(sliceBounds d c none n).2.1=((HT.sIx n n c:Nat):Int)/\(sliceBounds d c none n).2.2=1:=by
 show#[662]
 .cases d with
  |none=>simp[sliceBounds,HT.sIx]
  |some i=>
   simp only[sliceBounds,HT.sIx,Option.getD_none,show(1:Int)>0 by decide,Sb];by_cases h:i<0
   .simp only[h,Sb]<;>lia
   .simp only[h,Tg]<;>lia
 .cases c with
  |none=>simp[sliceBounds,HT.sIx]
  |some i=>
   simp only[sliceBounds,HT.sIx,Option.getD_none,show(1:Int)>0 by decide,Sb];by_cases h:i<0
   .simp only[h,Sb]<;>lia
   .simp only[h,Tg]<;>lia
theorem sj(c:qR)(d e:Option Int):slicePick c.toArray d e none=((c.drop (HT.sIx c.length 0 d)).take (HT.sIx c.length c.length e-HT.sIx c.length 0 d)).toArray:=by obtain⟨f,g,h⟩:=uR d e c.toArray.size;unfold slicePick;rw[f,g,h];simp only[sliceRange_one,pick_run,Oq]<;>rfl
def MS(K:Frag):V->Option Int->Option Int->Hp->VK->Prop:=λx d c H Q=>∃a xs,x= .ref a/\SqL K H a xs/\∀p,H p=none->Q (.ref p) (upd H p (.lst (dE xs d c)))
theorem Io:SlR X (MS X.K):=by intro m s u H x v p t c d n Q I j g pl i h;obtain⟨a,xs,rfl,hx,q⟩:=h;cases j;obtain⟨k,r,e,hz⟩:=I.list hx;have f:=r.length;show#[Ts,_,slot_list_getitem.lookup,e.isList.typeIs,6];refine wpAny_getItem_list_slice e.isList g pl i .none #[5] ?_ (by rw[Oq]<;>lia);rw[sj,<-f];show#[.ref s.heap.objs.size,_,I.laid (t':=s.toks) (o:= .lst (dE xs c d)) (λb l q=>NY _ q) (N3 _) ?_,2,q _ (I.hok.fresh (N3 _))];show#[NV (ye xs c d) hz,_,0,(r.drop (HT.sIx xs.length 0 c)).take (HT.sIx xs.length xs.length d-HT.sIx xs.length 0 c),Oi _ rfl]
def kz:V->Bool
 | .non=>true
 | .bl _=>true
 | .int _=>true
 | .str _=>true
 |_=>false
def eqV:V->V->Bool
 | .non, .non=>true
 | .bl a, .bl b=>a==b
 | .bl a, .int b=>(if a then 1 else 0)==b
 | .int a, .bl b=>a==(if b then 1 else 0)
 | .int a, .int b=>a==b
 | .str a, .str b=>a==b
 |_,_=>false
theorem Ma(e:bo y u)(c:bo x v)(f:kz y=true)(d:kz x=true):SeqAt.EqAt A s u v (eqV y x):=by
 cases y with
 |non=>
  cases e;cases x with
  |non=>cases c;exact SeqAt.EqAt.same _
  |bl b=>cases c;exact SeqAt.EqAt.none_bool b
  |int b=>obtain⟨t,rfl⟩:=c;exact SeqAt.EqAt.none_int b t
  |str b=>obtain⟨t,rfl⟩:=c;exact SeqAt.EqAt.none_str b t
  |_=>exact absurd (show false=true from d) Oo
 |bl a=>
  cases e;cases x with
  |non=>cases c;exact SeqAt.EqAt.bool_none a
  |bl b=>cases c;exact SeqAt.EqAt.bool_bool a b
  |int b=>obtain⟨t,rfl⟩:=c;exact SeqAt.EqAt.bool_int a b t
  |str b=>obtain⟨t,rfl⟩:=c;exact SeqAt.EqAt.bool_str a b t
  |_=>exact absurd (show false=true from d) Oo
 |int a=>
  obtain⟨t',rfl⟩:=e;cases x with
  |non=>cases c;exact SeqAt.EqAt.int_none a t'
  |bl b=>cases c;exact SeqAt.EqAt.int_bool a t' b
  |int b=>obtain⟨t,rfl⟩:=c;exact SeqAt.EqAt.int_int a t' b t
  |str b=>obtain⟨t,rfl⟩:=c;exact SeqAt.EqAt.int_str a t' b t
  |_=>exact absurd (show false=true from d) Oo
 |str a=>
  obtain⟨t',rfl⟩:=e;cases x with
  |non=>cases c;exact SeqAt.EqAt.str_none a t'
  |bl b=>cases c;exact SeqAt.EqAt.str_bool a t' b
  |int b=>obtain⟨t,rfl⟩:=c;exact SeqAt.EqAt.str_int a t' b t
  |str b=>obtain⟨t,rfl⟩:=c;exact SeqAt.EqAt.str_str a t' b t
  |_=>exact absurd (show false=true from d) Oo
 |_=>exact absurd (show false=true from f) Oo
def eqU(x:V)(u:Value):Bool:=match u with
 | .none=>eqV .non x
 | .bool b=>eqV (.bl b) x
 | .int i _=>eqV (.int i) x
 | .str z _=>eqV (.str z) x
 |_=>false
theorem Gu(r:bo y u)(f:kz y=true):eqU x u=eqV y x:=by
 cases y with
 |non=>cases r;rfl
 |bl b=>cases r;rfl
 |int i=>obtain⟨t,rfl⟩:=r;rfl
 |str z=>obtain⟨t,rfl⟩:=r;rfl
 |_=>exact absurd (show false=true from f) Oo
theorem mG:∀ {xs:List V} {us:qR},Vals xs us->xs.all kz=true->us.any (eqU x)=xs.any λy=>eqV y x
 |_,_, .nil,_=>rfl
 |y::xs,u::us, .cons r t,f=>by rw[Tj,Oz]at f;rw[QG,QG,Gu r f.1,mG t f.2]
theorem jI(e:bo x v)(d:kz x=true):∀ {xs:List V} {us:qR},Vals xs us->xs.all kz=true->∀u∈us,SeqAt.EqAt A s u v (eqU x u)
 |_,_, .nil,_=>λu c=>by cases c
 |y::xs,u::us, .cons r t,f=>λg c=>by
  rw[Tj,Oz]at f;rcases N1.mp c with rfl|c
  .rw[Gu r f.1];exact Ma r e f.1 d
  .exact jI e d t f.2 g c
def inV(x:V)(xs:List V):Bool:=xs.any λy=>eqV y x
def rIn(K:Frag)(c:Bool):R2:=λx y H Q=>∃p xs,y= .ref p/\(SqL K H p xs\/SqT K H p xs)/\kz x=true/\xs.all kz=true/\Q (.bl (if c then !inV x xs else inV x xs)) H
theorem CP:OpR X (compareOp .In) (rIn X.K false):=by
 intro j s k H x y v u Q I g i h;obtain⟨p,xs,rfl,c,f,fs,q⟩:=h;cases i;rcases c with c|c
 .obtain⟨d,r,pl,hz⟩:=I.list c;refine SeqAt.in_listAt (eqU x) pl.isList (λw e=>jI g f r fs w #[5,e]) #[.bl _,H,I,26];rw[show d.toArray.any (eqU x)=d.any (eqU x) by simp,mG r fs];exact q
 .obtain⟨d,r,pl,hz⟩:=I.tuple c;refine SeqAt.in_tupleAt (eqU x) pl (λw e=>jI g f r fs w #[5,e]) #[.bl _,H,I,26];rw[show d.toArray.any (eqU x)=d.any (eqU x) by simp,mG r fs];exact q
theorem vj:OpR X (compareOp .NotIn) (rIn X.K true):=by
 intro j s k H x y v u Q I g i h;obtain⟨p,xs,rfl,c,f,fs,q⟩:=h;cases i;rcases c with c|c
 .obtain⟨d,r,pl,hz⟩:=I.list c;refine SeqAt.notIn_listAt (eqU x) pl.isList (λw e=>jI g f r fs w #[5,e]) #[.bl _,H,I,26];rw[show d.toArray.any (eqU x)=d.any (eqU x) by simp,mG r fs];exact q
 .obtain⟨d,r,pl,hz⟩:=I.tuple c;refine SeqAt.notIn_tupleAt (eqU x) pl (λw e=>jI g f r fs w #[5,e]) #[.bl _,H,I,26];rw[show d.toArray.any (eqU x)=d.any (eqU x) by simp,mG r fs];exact q
theorem vW:bz X (.builtin "len") (λxs H Q=>∃p c,xs=[.ref p]/\(SqL X.K H p c\/SqT X.K H p c)/\Q (.int c.length) H):=by
 intro k s l H xs us Q I r h;obtain⟨p,c,rfl,d,q⟩:=h;obtain⟨u,rfl,i⟩:=fJ r;cases i;have j:=nG;rcases d with d|d
 .obtain⟨g,f,pl,hz⟩:=I.list d;have e:=f.length;exact Calls.call_len_list pl.isList (by simp only[Oq]<;>lia) #[.int c.length,H,I.tok _,#[s.toks+1,by rw[Oq,e]],q]
 .obtain⟨g,f,pl,hz⟩:=I.tuple d;have e:=f.length;exact len_tuple pl (by simp only[Oq]<;>lia) #[.int c.length,H,I.tok _,#[s.toks+1,by rw[Oq,e]],q]
theorem bX:bz X (.builtin "len") (λxs H Q=>∃z,xs=[.str z]/\z.length<=sizeLine/\Q (.int z.length) H):=by intro d s e H xs us Q I r h;obtain⟨z,rfl,hz,q⟩:=h;obtain⟨u,rfl,t,rfl⟩:=fJ r;have c:=nG;exact len_str () #[.int z.length,H,I.tok _,#[7],q]
theorem vV:bz X (.type Ts) (λxs H Q=>∃p g,xs=[.ref p]/\(SqL X.K H p g\/SqT X.K H p g)/\∀l,H l=none->Q (.ref l) (upd H l (.lst g))):=by
 intro z s B H xs us Q I r h;obtain⟨p,g,rfl,i,q⟩:=h;obtain⟨u,rfl,A⟩:=fJ r;cases A;have v:∀(c:qR),Vals g c->g.length<=sizeLine->∀(h':Heap)(d:Nat),(∀b x,s.heap.get? b=some x->h'.get? b=some x)->
   h'.get? s.heap.objs.size=some {cls:= .type Ts,dict:=none,data:= .seq c.toArray d,slots:= #v[]}->EP X z B Q (.ref s.heap.objs.size) {s with heap:=h'}:=λc f hz h' d j e=>
  #[.ref s.heap.objs.size,_,I.laid (t':=s.toks) j (N3 _) (show bx X.prog X.w _ h' _ (.lst g)from#[hz,c,d,f,e]),2,q _ (I.hok.fresh (N3 _))]
 rcases i with i|i
 .obtain⟨c,f,pl,hz⟩:=I.list i;have y:=f.length;obtain⟨o,t,k,n,m⟩:=pl.isList;exact call_list_seq p (.inl rfl) t k m (λh' d j e=>v c f hz h' d j e) (by simp only[Oq]<;>lia)
 .obtain⟨c,f,pl,hz⟩:=I.tuple i;have y:=f.length;obtain⟨o,t,k,n,m⟩:=pl;exact call_list_seq p (.inr rfl) t k m (λh' d j e=>v c f hz h' d j e) (by simp only[Oq]<;>lia)
theorem sI:bz X (.type TN) (λxs H Q=>∃p c,xs=[.ref p]/\((SqL X.K H p c/\∀l,H l=none->Q (.ref l) (upd H l (.tup c)))\/(SqT X.K H p c/\Q (.ref p) H))):=by
 intro j s k H xs us Q I r h;obtain⟨p,c,rfl,h⟩:=h;obtain⟨u,rfl,t⟩:=fJ r;cases t;rcases h with ⟨d,q⟩|⟨d,q⟩
 .obtain⟨f,g,pl,hz⟩:=I.list d;have v:=g.length;refine call_tuple_list pl.isList (λh' n=> ?_) (by simp only[Oq]<;>lia);have i:Inv X j k H {s with heap:=h'}:=I.kept (t':=s.toks) n;have m:Inv X j k (upd H h'.objs.size (.tup c)) {s with heap:=h'.push {cls:= .type TN,data:= .seq f.toArray}}:=
   i.laid (t':=s.toks) (λb o e=>NY _ e) (N3 _) (show bx X.prog X.w _ _ _ (.tup c)from#[hz,f,g,IsTup.new _ _])
  show#[.ref h'.objs.size,_,m,2,q _ (i.hok.fresh (N3 _))]
 .obtain⟨f,g,pl,hz⟩:=I.tuple d;exact call_tuple_same pl #[.ref p,H,I,2,q]
def tyV(K:Frag)(T:tT)(x:V)(H:Hp):Prop:=match x with
 | .str _=>T= "str"
 | .int _=>T= "int"
 | .ref p=>(T= Ts/\∃xs,SqL K H p xs)\/(T= TN/\∃o,K.lookup p=some o/\o.cls= .type TN/\o.dict=none)\/
   (T= TH/\((∃kvs,H p=some (.dK kvs))\/∃kvs,H p=some (.dT kvs)))\/(T= T8/\∃S n,H p=some (.set S n))
 |_=>False
theorem Ed{l:St}{s:tr}(I:Inv X pins l H s)(r:bo x v)(ty:tyV X.K T x H):
  s.TypeIs v T/\∀a,v= .ref a->∃h,s.heap.get? a=some h/\h.dict=none:=by
 cases x with
 |str z=>
  obtain⟨t,rfl⟩:=r;cases (show T= "str" from ty);show#[RA s z t,λ_ e=>nomatch e]
 |int i=>
  obtain⟨t,rfl⟩:=r;cases (show T= "int" from ty);show#[typeIs_int s i t,λ_ e=>nomatch e]
 |ref p=>
  cases r;rcases ty with ⟨rfl,xs,k⟩|⟨rfl,o,d,j,g⟩|⟨rfl,d⟩|⟨rfl,S,n,d⟩
  .obtain⟨m,_,pl,_⟩:=I.list k;show#[pl.isList.typeIs,λa e=> ?_];cases e;obtain⟨o,n,e,c,g,_⟩:=pl;show#[o,e,g]
  .show#[#[o,I.kIn p o d,j],λa e=> ?_];cases e;show#[o,I.kIn _ o d,g]
  .have z:∃o,s.heap.get? p=some o/\o.ExactDict:=by
    rcases d with ⟨kvs,d⟩|⟨kvs,d⟩
    .obtain⟨_,_,_,_,o,_,_,e,ex,_⟩:=I.hok p _ d;show#[o,e,ex]
    .obtain⟨_,_,_,_,o,_,_,e,ex,_⟩:=I.hok p _ d;show#[o,e,ex]
   obtain⟨o,e,ex⟩:=z;show#[#[o,e,ex.1],λa f=> ?_];cases f;show#[o,e,ex.2.1]
  .obtain⟨o,_,_,_,e,ex,_⟩:=I.hok p _ d;show#[#[o,e,ex.1],λa f=> ?_];cases f;show#[o,e,ex.2.1]
 |_=>exact False.elim ty
def MA(K:Frag)(T:tT)(r:V->List V->Hp->VK->Prop)(to:TE):TE:=λd H Q=>to d H λx c=>tyV K T x c/\r x [] c Q
def tBM(K:Frag)(T:tT)(r:V->List V->Hp->VK->Prop)(to:TE)(t:TA):TE:=λd H Q=>to d H λx c=>tyV K T x c/\t d c λxs e=>r x xs e Q
variable{o e:Expr}{es:q7}{to:TE}{t:TA}{name:Str}{apos cpos:Pos}{T id:tT}{r:V->List V->Hp->VK->Prop}
theorem LA(u:PlainAttrs T)(slot:Slot T name id)(q:typeOf (.builtin id)=pure (.type TQ))(n:MtR X id r)(p:PE X o to)(l:attributeBase o name X.env (eval o X.env)=eval o X.env:=by rfl)(m:(apos.endLine==cpos.line)=true:=by rfl):PE X (.Call (.Attribute o name apos) [] [] cpos) (MA X.K T r to):=by
 intro d s g H Q I h;refine wpAny_Call_method0_late l m (thn (p d s g H _ I h) λv y ⟨x,i,c,f,ty,w⟩=> ?_);obtain⟨j,k⟩:=Ed c f ty;show#[T,id,u,slot,q,j,k,RG rfl (PySem.evalArgs_none (n d y g i x [] v [] Q c f .nil w))]
theorem Nb(J:PlainAttrs T)(slot:Slot T name id)(G:typeOf (.builtin id)=pure (.type TQ))(y:MtR X id r)(z:PE X o to)(p:PA X (e::es) t)(q:attributeBase o name X.env (eval o X.env)=eval o X.env:=by rfl)(u:((backTo cpos (starEach (e::es) X.env)).all (λx=> !x.1)&&(backToKw cpos (keywordEach [] X.env)).all (λx=>x.1.isSome)
   &&decide ((e::es).length+([]:List Keyword).length+(if([]:List Keyword).isEmpty then 0 else 1)<30))=true:=by rfl)(w:(apos.endLine==cpos.line)=true:=by rfl)(B:starEach (e::es) X.env=(false,eval e X.env)::starEach es X.env:=by rfl)(A:(backTo cpos (starEach es X.env)).any (·.1)=false:=by rfl):
  PE X (.Call (.Attribute o name apos) (e::es) [] cpos) (tBM X.K T r to t):=by
 intro c s d H Q I h;refine wpAny_Call_method_late q u w rfl (thn (z c s d H _ I h) λv O ⟨x,j,f,i,ty,L⟩=> ?_);obtain⟨m,n⟩:=Ed f i ty;show#[T,id,J,slot,G,m,n,6];have g:=p cpos c O d j _ f L;rw[B]at g⊢;refine RG (by show(false||(backTo cpos (starEach es X.env)).any (·.1))=false;rw[A]<;>rfl) (Rf ?_);exact thn g λus U ⟨vs,k,l,N,M⟩=>y c U d k x vs v us Q l i N M
end
def MtM(X:Cx)(id:tT)(r:V->List V->Hp->VK->Prop):Prop:=
 ∀(a:js) (s:tr) (b:St) (H:Hp) (x:V) (xs:List V) (v:Value) (us:qR) (Q:VK),Inv X a b H s->bo x v->Vals xs us->r x xs H Q->
  wpAny (model X.prog X.w) X.A (call (.builtin id) (v::us)) (EP X a b Q) X.xe s
theorem Vals.one(h:Vals [x] us):∃u,us=[u]/\bo x u:=by
 cases h with
 |cons r q=>cases q;show#[7,r]
theorem Vals.two(h:Vals [x,y] us):∃u v,us=[u,v]/\bo x u/\bo y v:=by
 cases h with
 |cons r q=>obtain⟨v,rfl,a⟩:=Vals.one q;show#[17,r,a]
theorem Vals.zero:∀ {us:qR},Vals [] us->us=[]
 |_, .nil=>rfl
section
variable{X:Cx}{pins:js}{σ:St}{H:Hp}{s:tr}{l b:Addr}{xs ys zs:List V}
theorem Inv.lset{a its':qR}(I:Inv X pins σ H s)(c:H l=some (.lst xs))(e:s.heap.get? l=some {cls:= .type Ts,data:= .seq a.toArray n})(d:f a.toArray=its'.toArray)(h:Vals ys its')(hz:ys.length<=sizeLine):
  Inv X pins σ (upd H l (.lst ys)) {s with heap:=s.heap.update l (Obj.mapSeq f),toks:=t'}:=by
 have q:=PySem.IsL.update e f;rw[d]at q;refine I.write (x:=l) (e:=l) (by rw[c];exact trivial) (.inl rfl) (λi u hb g=>(Oy s.heap (Obj.mapSeq f) (Pj hb)).trans g) #[_,q] ?_;show#[hz,its',_,h,q]
theorem Inv.lnew{a:qR}(I:Inv X pins σ H s)(c:Vals ys a)(hz:ys.length<=sizeLine):
  Inv X pins σ (upd H s.heap.objs.size (.lst ys)) {s with heap:=s.heap.push {cls:= .type Ts,data:= .seq a.toArray},toks:=t'}:=
 I.laid (λ_ _ q=>NY _ q) (N3 _) #[hz,a,0,c,Oi _ rfl]
theorem Inv.fresh(I:Inv X pins σ H s):H s.heap.objs.size=none:=I.hok.fresh (N3 _)
theorem Inv.lstM(I:Inv X pins σ H s)(c:H l=some (.lst xs)):xs.length<=sizeLine/\∃(a:qR)(n:Nat),Vals xs a/\xs.length=a.length/\s.heap.get? l=some {cls:= .type Ts,data:= .seq a.toArray n}:=by obtain⟨z,a,n,r,e⟩:=I.hok l _ c;show#[z,a,n,r,r.length,e]
end
section
variable{X:Cx}
inductive RdA(x:V)(vs:List V)(H:Hp)(Q:VK):Prop
 |mk(l:Addr) (xs:List V) (y:V) (e1:x= .ref l) (e2:vs=[y]) (h:H l=some (.lst xs)) (n:xs.length<sizeLine) (q:Q .non (upd H l (.lst (xs++[y])))):RdA x vs H Q
def IF:V->List V->Hp->VK->Prop:=λx vs H Q=>RdA x vs H Q
theorem cX:MtM X "list.append" IF:=by intro g s i H x vs v us Q I f d h;obtain⟨l,xs,y,rfl,rfl,a,hz,q⟩:=h;cases f;obtain⟨u,rfl,c⟩:=d.one;obtain⟨z,b,n,r,hl,e⟩:=I.lstM a;refine RZ F.slot_list_append #[_,e,2] F.entry_list_append (F.args_list_append_2 _ _) (PySem.list_append l b.toArray n u (by rw[Oq];lia)) #[e,6];show#[.non,_,I.lset (its':=b++[u]) a e #[5] (r.append (.cons c .nil)) ?_,2,q];rw[Od,Q8];lia
def Li:R2:=λx y H Q=>∃l b xs a,x= .ref l/\y= .ref b/\H l=some (.lst xs)/\H b=some (.lst a)/\xs.length+a.length<=sizeLine/\∀p,H p=none->Q (.ref p) (upd H p (.lst (xs++a)))
theorem fZ:OpR X (binaryOp .Add) Li:=by
 intro t s B H x y v u Q I k m h;obtain⟨l,b,xs,A,rfl,rfl,i,g,hz,q⟩:=h;cases k;cases m;obtain⟨z,a,n,r,hl,e⟩:=I.lstM i;obtain⟨w,c,p,j,o,d⟩:=I.lstM g;refine PySem.P.add_list e d ?_ (by rw[Oq,Oq];lia);have f:a.toArray++c.toArray=(a++c).toArray:=#[5]
 rw[f];show#[.ref _,_,I.lnew (t':=s.toks) (r.append j) (by rw[Od];lia),2,q _ I.fresh]
end
end L2
namespace Att
open PySem PySem.W PySem.Calls PyProof.Rows
theorem pC:∀(ns:sv)(vs:qR),WellAll P h vs (ns.map WData.int)->IntsAre vs ns:=by
 intro ns
 induction ns with
 |nil=>
  intro vs w;rw[SQ]at w;cases w;exact .nil
 |cons n ns c=>
  intro vs w;rw[OI]at w;cases w with
  |cons a b=>
   cases a;exact .cons _ _ (c _ b)
theorem Cy{l:OpenLaw}(o:l.most=some n){h:Heap}(f:l.row.toRowW.claim.pre args=true)(t:WellAll P h vals args):
  ∃a vs ns,vals=[Value.ref a]/\args=[WData.list (ns.map WData.int)]/\h.get? a=some {cls:= .type Ts,data:= .seq vs.toArray}/\IntsAre vs ns/\ns.length<=n:=by
 have s:WShape.hasAll [] args [.list .int]=true:=(pre_splitW f).1;have e:l.pre.holds [] {args:=args}=true:=(pre_splitW f).2;obtain⟨d,r,rfl,g,i⟩:=hasAllW_cons s;obtain rfl:=hasAllW_nil i;obtain⟨xs,rfl,j⟩:=hasW_list g;obtain⟨ns,rfl⟩:=items_int j;have m:ns.length<=n:=by
  unfold OpenLaw.pre at e;have b:(WTm.not (.lt (.lit (.int (n:Int))) (.len (.arg 0)))).holds [] {args:=[.list (ns.map .int)]}=true:=by have b:=(holds_andW e).1;rwa[o]at b
  have c:=condW_of b (w_not (w_lt w_lit (w_len_list (w_arg rfl))));rw[My]at c;refine Qf λq=> ?_;have u:(n:Int)<((ns.length:Nat):Int):=()
  first
   |(rw[N2 u]at c;exact absurd c ∅)
   |(simp at c;lia)
 cases t with
 |cons v w=>
  cases w;cases v with
  |list p k=>show#[11,ns,22,p,pC ns _ k,m]
theorem CG(l:OpenLaw)(args:List WData):l.row.toRowW.claim.post args (.bool true) args=true:=
 postW_of (r:=l.row.toRowW) (X:=(true==true))
  (show WShape.has [] (.bool true) .bool=true by first|rfl|decide|simp[WShape.has,WShape.arms,WShape.armsAll])
  (show(WTm.eq .res (.lit (.bool true))).value [] {args:=args,res:=some (.bool true),after:=args}=some (.bool (true==true))from w_eq_bool (w_res rfl) w_lit) rfl
theorem yo{l:OpenLaw}{d:DefRec}(J:l.most=some n)(y:d.params.defaults=[])(call:∀(w:vu)(k b:tr)(g i:i2)(c:Addr)(o:Obj)(j e h:Value)(a:Addr)(vs:qR)(ns:sv),
   Ground q loose [] XP w k g i b.heap->YP w b.heap->
   b.heap.get? c=some o->o.data= .func (docDef d.name d.params d.body d.scope j e h)->b.heap.CodeRec e d.name->g d.name=some (.ref c)->
   b.heap.get? a=some {cls:= .type Ts,data:= .seq vs.toArray}->IntsAre vs ns->ns.length<=n->b.gens= #v[]->
   codeAny (model l.prog w) callerA (.call (.ref c) #[[.ref a],[]]) (λr s'=>r= .ok (.ret (.bool true))/\OldK b.heap s'.heap/\s'.os=b.os/\AllBare s'.gens) b):
  WalkO q loose XP YP l.row.toRowW d [] (λf vs=>PySem.call f vs):=by
 intro w k b g i G Y c o j e h p kV K x v m H z args vals as M Q ab O U;obtain rfl:p= .none:=Dflts.none m y;obtain rfl:kV= .none:=Dflts.noKw m;obtain⟨a,vs,ns,rfl,rfl,L,hints,A⟩:=Cy J M O;refine enter_call (Qv (call w k b g i c o j e h a vs ns G Y K (fd_plain x) v H L hints A z) λr s' N=> ?_);obtain⟨rfl,s,t,u⟩:=N;show#[.inl #[.bool true, .bool true,[],2,λ_=>rfl, .bool true,CG l _,λ_=>#[List.Pairwise.nil,λ_ B=>(nomatch B)]],s,t,u]
end Att
namespace L2
open PySem PySem.Spec PyProof.Rows
theorem gP:∀ {vs:qR} {ns:sv},IntsAre vs ns->Vals (ns.map V.int) vs
 |_,_, .nil=> .nil
 |_,_, .cons n t h=> .cons #[t,2] (gP h)
def Only(H:Hp):Prop:=∀b,H b=none\/∃o xs,H b=some (.frz o (.lst xs))
theorem FX{K:Frag}{c:tr}{vs:qR}{ns:sv}(t:K.In c.heap)(M:c.heap.Ns mainGlobals i)(hb:c.heap.Ns builtinsNs O)(bk:∀x:Str,x≠ Ud->O x=bootBuiltins x)(b0:c.heap.NoLimit)(hg:c.gens= #v[])(g:c.heap.get? a=some {cls:= .type Ts,data:= .seq vs.toArray})(L:IntsAre vs ns)(hl:ns.length<=sizeLine)(hr:Room k callerA)(F:∀base:Heap,K.In base->base.Ns mainGlobals i->c5 P w K i base CX k fa fd [x] sp)(bp:∀(s:tr)(u:Value),BindsTo s fd #[[u],[]] [(x,u)])(b3:∀H:Hp,Only H->SqL K H a (ns.map V.int)->sp [.ref a] H (λv _=>v= .bl true) λ_ _ _=>False)(ay:∀H e s',CX [] H c (λ_ _ _=>False) e s'->False):
  codeAny (model P w) callerA (.call (.ref fa) #[[.ref a],[]]) (λr s'=>r= .ok (.ret (.bool true))/\OldK c.heap s'.heap/\s'.os=c.os/\AllBare s'.gens) c:=by
 have Q:=gP L;have b4:=L.length;have core:∀H:Hp,Only H->SqL K H a (ns.map V.int)->HOk P w H c.heap->(∀b,H b≠none->b=a)->(H a≠none->K.lookup a=none)->
   codeAny (model P w) callerA (.call (.ref fa) #[[.ref a],[]]) (λr s'=>r= .ok (.ret (.bool true))/\OldK c.heap s'.heap/\s'.os=c.os/\AllBare s'.gens) c:=by
  intro H J hS N B hK;have y:∀ {b:Addr} {o:Obj},c.heap.get? b=some o->H b=none->(vI c.heap H).get? b=some o:=λe n=>Ga e n;have b6:∀ {b:Addr} {o:Obj} {es:Array DictEntry} {ep:Nat},c.heap.get? b=some o->o.data= .dict es ep->H b=none:=λ{b o es ep} e d=>by
   cases q:H b with
   |none=>rfl
   |some u=>
    have l:b=a:=B b (by rw[q];simp);subst l;rw[g]at e;cases e;have d':Data.seq vs.toArray _=Data.dict es ep:=d;cases d'
  have j:∀ {b:Addr} {m:i2},c.heap.Ns b m->(vI c.heap H).Ns b m:=λ{b m} ⟨o,es,ep,e,d,r⟩=>#[o,es,ep,y e (b6 e d),d,r];have G:K.In (vI c.heap H):=λb o e=>y (t b o e) (by
   cases q:H b with
   |none=>rfl
   |some u=>
    have l:b=a:=B b (by rw[q];simp);subst l;rw[hK (by rw[q];simp)]at e;cases e)
  have hM:Mod K i (vI c.heap H):=#[G,j M,#[O,j hb,bk],let⟨mc,h1,h2⟩:=b0;#[mc,j h1,h2]];have U:AH P w K i (vI c.heap H) callerA [] c H:=#[2,hM,λb o e=>Jc e,Nat.le_of_eq (Du _ _),trivial,λb hb=>absurd (show b∈([]:List Addr)from hb) #[5],N, .of_eq hg];refine Qv ((F _ G (j M)).run callerA [] c H #[[.ref a],[]] [.ref a] [.ref a] _ _ hr U (bp c (.ref a)) (.cons rfl .nil) (b3 H J hS)) λr s' h=> ?_;cases r with
  |error e=>exact(ay H e s' h).elim
  |ok fl=>
   cases fl with
   |next=>exact False.elim h
   |brk=>exact False.elim h
   |cont=>exact False.elim h
   |ret u=>
    obtain⟨v,H',os,bare,un,b1,r',q⟩:=h;have q':v= .bl true:=q;subst q';obtain rfl:u=Value.bool true:=r';show#[2,OldK.of_keep λb o e=> ?_,os,bare];cases q:H b with
    |none=>exact un.keep b o e q (by intro z;exact absurd (show b∈([]:List Addr)from z) #[5]) #[5]
    |some u=>
     rcases J b with z|⟨ob,xs,z⟩
     .rw[q]at z;cases z
     .have z2:=un.frzs b ob _ z;obtain⟨A,_⟩:=N b _ z;obtain⟨e2,_⟩:=b1 b _ z2;rw[e]at A;cases A;exact e2
 cases p:K.lookup a with
 |some o=>
  have e:=t a o p;rw[g]at e;cases e;refine core (λ_=>none) (λ_=> .inl rfl) (.inr #[_,vs.toArray,_,p,222,by rw[Oq,b4];exact hl,#[5,Q]]) (λb u z=>by have f:(none:Option HO)=some u:=z;cases f) (λb z=>absurd rfl z) λz=>absurd rfl z
 |none=>
  refine core (λb=>if b=a then some (.frz {cls:= .type Ts,data:= .seq vs.toArray} (.lst (ns.map V.int)))else none) (λb=> ?_) (.inl (.inr #[{cls:= .type Ts,data:= .seq vs.toArray},NZ rfl])) (λb u z=> ?_) (λb z=> ?_) λ_=>p
  .by_cases hb:b=a
   .exact .inr #[11,NZ hb]
   .exact .inl (NW hb)
  .by_cases hb:b=a
   .have f:=(NZ hb).symm.trans z;cases f;subst hb;show#[g,by rw[My];exact hl,vs,_,Q,g]
   .have f:=(NW hb).symm.trans z;cases f
  .by_cases hb:b=a
   .exact hb
   .exact absurd (NW hb) z
theorem AL{l:PySem.W.OpenLaw}{d:DefRec}{K:Params->Frag}{CX:World->CXT}{sp:World->Sp}{x:Str}(M:l.most=some n)(N:n<=sizeLine)(B:d.params.defaults=[])(Q:Room k callerA)(A:∀(w:vu)(h:Heap),YP w h->(K w.params).In h)(F:∀(w:vu)(c:i2)(i:Addr)(h:Heap),(K w.params).In h->h.Ns mainGlobals c->c d.name=some (.ref i)->
   ∃j:FuncData,(∀(s:tr)(u:Value),BindsTo s j #[[u],[]] [(x,u)])/\
    ∀base:Heap,(K w.params).In base->base.Ns mainGlobals c->c5 l.prog w (K w.params) c base (CX w) k i j [x] (sp w))(U:∀(w:vu)(H:Hp)(a:Addr)(ns:sv),ns.length<=n->Only H->SqL (K w.params) H a (ns.map V.int)->sp w [.ref a] H (λv _=>v= .bl true) λ_ _ _=>False)(r:∀(w:vu)(H:Hp)(s:tr)(e:Value)(s':tr),CX w [] H s (λ_ _ _=>False) e s'->False):
  PySem.W.WalkO q loose XP YP l.row.toRowW d [] (λf vs=>PySem.call f vs):=by
 refine Att.yo M B λw bk ab c mb i o pm cd ar a vs ns G Y ho hd ax L O hints p J=> ?_;have m:=A w _ Y;obtain⟨j,hb,t⟩:=F w c i _ m G.T.g L;exact FX m G.T.g G.T.b G.T.builtins G.T.nolimit J O hints (NV p N) Q t hb (λH y z=>U w H a ns p y z) λH e s'=>r w H ab e s'
def bc(s:Stmt)(j:Nat):Stmt:=match s with
 | .ClassDef _ _ _ a _ _ _ _ _ _ _=>a.getD j (.Pass #[0,0,0,0])
 |_=> .Pass #[0,0,0,0]
def bW(s:Stmt):Arguments:=match s with
 | .FunctionDef _ a _ _ _ _ _ _ _ _=>a
 |_=>{posonlyargs:=[],args:=[],vararg:=none,kwonlyargs:=[],kw_defaults:=[],kwarg:=none,defaults:=[]}
def aH(s:Stmt):List Stmt:=match s with
 | .FunctionDef _ _ b _ _ _ _ _ _ _=>b
 |_=>[]
def av(s:Stmt):Scope:=match s with
 | .FunctionDef _ _ _ _ _ _ a _ _ _=>a
 |_=>{kind:= .function,names:=[],isGenerator:=false,isCoroutine:=false}
abbrev CX0:CXT:=λ_ _ _ _ _ _=>False
abbrev E0:XK:=λ_ _ _=>False
theorem tH:dF CX0 X E0:=λ_ _ _ _ _ _ _ h=>h.elim
structure Fun(K:Frag)(x qual:Str)(st:Stmt)(f:Addr)(fd:FuncData):Prop where
 ex:∃(oc:Value)(od:px)(kV doc pm:Value)(an:px)(cdv ct:Value) (osl:fx),
  fd=fnOf x qual (bW st) (aH st) (av st) .none kV doc pm an cdv ct/\K.lookup f=some #[oc,od, .func fd,osl]/\codeIn K cdv qual=true
 kp:keepIn K (.ref f)=true
section
variable{P:tj}{w:vu}{K:Frag}{mg:i2}{base:Heap}
theorem Fun.ok{x c:Str}{st:Stmt}{f:Addr}{d:FuncData}{N ps:r9}{k:Nat}{sp:Sp}(F:Fun K x c st f d)(S:bZ N ps (av st))(e:∀(a:Value)(A:vr)(b:ti)(s:tr)(H:Hp)(vs:List V)(Q:VK)(E:XK),Room k (A.deeper (envOfC c (av st) s.heap.objs.size f a))->sp vs H Q E->
   ∃t,PSs (cJ CX0 P w K mg base N c (av st) f a A b s H E).nox (aH st) t/\t {nx:=λ_ H'=>Q .non H',rt:=Q} (start N vs) H)(len:∀vs H Q E,sp vs H Q E->vs.length=ps.length:=by intro _ _ _ _ h;cases h;subst_vars;rfl):c5 P w K mg base CX0 (k+1) f d ps sp:=by
 obtain⟨n,od,kV,m,p,an,a,l,o,rfl,lk,g⟩:=F.ex;refine xT lk g S len λA b s H vs Q E i j=> ?_;obtain⟨t,h,q⟩:=e a A b s H vs Q E i j;show#[t,h.nox,q]
theorem Fun.binds{st:Stmt}{ps:r9}(F:Fun K x qual st f fd)(h:∀(kV c d:Value)(an:px)(a b:Value)(us:qR),us.length=ps.length->bindArgs (fnOf x qual (bW st) (aH st) (av st) .none kV c d an a b) #[us,[]]=pure (ps.zip us)):cx K fd ps []:=by
 obtain⟨g,od,kV,c,d,an,a,b,i,rfl,lk,e⟩:=F.ex;exact .all (h kV c d an a b)
theorem rF{st:Stmt}{kV d e a b:Value}(l:K.lookup f=some #[g,od, .func (fnOf x qual (bW st) (aH st) (av st) .none kV d e an a b),h])(c:codeIn K a qual=true)(k:keepIn K (.ref f)=true):Fun K x qual st f (fnOf x qual (bW st) (aH st) (av st) .none kV d e an a b):=#[#[g,od,kV,d,e,an,a,b,h,2,l,c],k]
end
section
variable{X:Cx}
theorem pv(i:Nat){x:Str}{pos:Pos}(a:X.N[i]?=some x:=by rfl)(d:Vis X.env.scope x:=by first|exact PR rfl|exact Or.inr (PR rfl)|exact Or.inr (Or.inr rfl))(c:(x==(Tq:Str))=false:=by decide)(b:(x==("__classdict__":Str))=false:=by decide):PE X (.Name x pos) (Mm i):=Ls a d c b
end
theorem aS{A B:Prop}(h:B):if false=true then A else B:=by rw[NW Oo];exact h
theorem aP{A B:Prop}(h:A):if true=true then A else B:=by rw[NZ rfl];exact h
theorem bJ{c A B:Prop}[Decidable c](a:c->A)(b:¬c->B):if c then A else B:=by
 by_cases h:c
 .rw[NZ h];exact a h
 .rw[NW h];exact b h
theorem Ni{c A B:Prop}[Decidable c](a:c)(h:B):if(!decide c)=true then A else B:=by rw[N2 a];exact aS h
def Same(H H':Hp):Prop:=∀b o,H b=some o->H' b=some o
theorem Same.refl(H:Hp):Same H H:=λ_ _ h=>h
theorem Same.trans(a:Same H H1)(b:Same H1 H2):Same H H2:=λc o h=>b c o (a c o h)
theorem Same.free(e:Same H H')(h:H' l=Option.none):H l=Option.none:=by
 cases q:H l with
 |none=>rfl
 |some o=>
  rw[e l o q]at h;cases h
theorem Same.seq{K:Frag}(e:Same H H')(h:SqL K H a xs):SqL K H' a xs:=by
 rcases h with (h|⟨o,h⟩)|h
 .exact .inl (.inl (e _ _ h))
 .exact .inl (.inr #[o,e _ _ h])
 .exact .inr h
theorem nJ{b a:Type}{f:b->a->Sem (ForInStep a)}(g:a->b->a):∀(l:List b)(c:a),(∀x∈l,∀c,f x c=pure (.yield (g c x)))->forIn l c f=pure (l.foldl g c):=by
 intro l
 induction l with
 |nil=>intro c _;rfl
 |cons x l e=>
  intro c h;rw[List.forIn_cons,h x N8,pure_bind];exact e _ λy d=>h y (N4 _ d)
def ft(env:Env)(a:mm)(y:Str×NameKind):List (Str×Addr):=if(y.2==NameKind.free)=true then(y.1,(env.cells.lookup y.1).getD 0)::a else a
def iU(env:Env)(a:f7):List (Str×Addr):=a.foldl (ft env) []
theorem kB{env:Env}{b:Scope}(h:∀y∈b.names,y.2= .free->∃c,env.cells.lookup y.1=some c):closureFor b env=pure (iU env b.names):=by
 simp only[closureFor];rw[nJ (ft env) b.names [] (λx hx c=>by
  obtain⟨n,kind⟩:=x;by_cases f:kind= .free
  .subst f;obtain⟨a,g⟩:=h _ hx rfl;have d:env.cells.lookup n=some a:=g;have e:cellOf env n=pure a:=by simp only[cellOf,d]
   simp only[ft,e,d,beq_self_eq_true,Sb,pure_bind,Option.getD_some]
  .have:(kind==NameKind.free)=false:=#[5,f]
   simp only[ft,this,PZ,Tg])]
 rfl
theorem DM(env:Env):∀(f:f7) (b:mm),(∀y∈f,y.2= .free->∃c,env.cells.lookup y.1=some c)->(∀x c,b.lookup x=some c->env.cells.lookup x=some c)->
  ∀x c,(f.foldl (ft env) b).lookup x=some c->env.cells.lookup x=some c:=by
 intro f
 induction f with
 |nil=>intro b _ d x c e;exact d x c e
 |cons y r k=>
  intro b h d;refine k _ (λz hz=>h z (N4 _ hz)) λx c e=> ?_;unfold ft at e;split at e
  .rename_i i;obtain⟨a,g⟩:=h y N8 #[5,i];rw[Pr]at e;cases hx:x==y.1 with
   |true=>
    rw[hx]at e;have j:x=y.1:=#[5,hx]
    rw[g]at e;rw[j,g];exact e
   |false=>rw[hx]at e;exact d x c e
  .exact d x c e
theorem DN(env:Env):∀(b:f7) (a:mm) (x:Str),((∃y∈b,y.1=x/\y.2= .free)\/∃c,a.lookup x=some c)->∃c,(b.foldl (ft env) a).lookup x=some c:=by
 intro b
 induction b with
 |nil=>
  intro a x h;rcases h with ⟨y,i,_⟩|h
  .cases i
  .exact h
 |cons y r j=>
  intro a x h;refine j _ x ?_;have lk:∀c,a.lookup x=some c->∃c,(ft env a y).lookup x=some c:=λc e=>by
   unfold ft;split
   .rw[Pr];cases hx:x==y.1 with
    |true=>show#[7]
    |false=>show#[c,e]
   .show#[c,e]
  rcases h with ⟨z,hz,f,d⟩|⟨c,e⟩
  .rcases N1.mp hz with e|g
   .subst e;refine .inr ?_;unfold ft;rw[d,NZ ⋯,Pr,f];simp
   .exact .inl #[z,g,f,d]
  .exact .inr (lk c e)
theorem Md{env:Env}(h:∀y∈a,y.2= .free->∃c,env.cells.lookup y.1=some c)(e:(iU env a).lookup x=some c):env.cells.lookup x=some c:=
 DM env a [] h (λ_ _ z=>by simp at z) x c e
theorem GI(h:∃y∈a,y.1=x/\y.2= .free):∃c,(iU env a).lookup x=some c:=DN env a [] x (.inl h)
def inner(a:Nat)(fr:sk)(b:St):St:=List.replicate a none++fr.map λj=>(b[j]?).join
def pG(X:Cx)(a:Scope):List Nat->List Str->Prop
 | [],[]=>True
 |j::b,x::xs=>(X.N[j]?=some x/\(X.env.kindOf x=some .cell\/X.env.kindOf x=some .free)/\((relabel a X.env).names.lookup x=some .cell\/(relabel a X.env).names.lookup x=some .free))/\pG X a b xs
 |_,_=>False
theorem pG.get{X:Cx}:∀ {fr:sk} {a:r9} {k j:Nat},pG X sc fr a->fr[k]?=some j->
  ∃x,a[k]?=some x/\X.N[j]?=some x/\(X.env.kindOf x=some .cell\/X.env.kindOf x=some .free)/\((relabel sc X.env).names.lookup x=some .cell\/(relabel sc X.env).names.lookup x=some .free)
 | [],[],_,_,_,e=>by simp at e
 | [],_::_,_,_,h,_=>h.elim
 |_::_,[],_,_,h,_=>h.elim
 |j::f,x::xs,0,i,h,e=>by
  have b:j=i:=#[5,e]
  subst b;show#[x,2,h.1]
 |j::f,x::xs,k+1,i,h,e=>by obtain⟨y,c,d⟩:=pG.get (k:=k) (j:=i) h.2 #[5,e];show#[y,#[5,c],d]
theorem pG.len:∀ {fr:sk} {a:r9},pG X sc fr a->fr.length=a.length
 | [],[],_=>rfl
 | [],_::_,h=>h.elim
 |_::_,[],h=>h.elim
 |_::_,_::_,h=>by rw[Oa,Oa,pG.len h.2]
def PTs(X:Cx)(ifs:q7)(t:TT):Prop:=
 ∀(b:js) (s:tr) (a:St) (H:Hp) (Q:Bool->Hp->Prop),Inv X b a H s->t a H Q->
  wpAny (model X.prog X.w) X.A (forIn ifs true λc r=>if r=true then do let ok<-isTrue c X.env (eval c X.env);pure (ForInStep.yield ok)else pure (ForInStep.yield r)) (TP X b a Q) X.xe s
def eI:TT:=λ_ H Q=>Q true H
theorem bb:PTs X [] eI:=λ_ _ _ H _ I h=>wpAny_tests_nil #[H,I,h]
theorem cH(h:PT X c t):PTs X [c] t:=λa s b H Q I q=>wpAny_tests_one (h a s b H Q I q)
def LCW(J:It)(g:TG)(p:TT)(q:TE)(o:Nat)(fr:sk)(r:St)(d:Hp)(Q:VK):Prop:=∀D,d D=none->
 ∃W:Nat->Nat->St->Hp->Prop,(∃m,W 0 m (inner o fr r) (upd d D (.lst [])))/\∀i m k H',W i m k H'->
  (J.stop i H'/\Q (.ref D) H')\/(J.go i H'/\∃N:St->Hp->Prop,(∀l c,N l c->∃j,j<m/\W (i+1) j l c)/\
   ∀x e,J.yld i H' x e->g x k e λa n=>p a n λb f=>if b=true then q a f λy h=>∃xs,h D=some (.lst xs)/\xs.length<sizeLine/\N a (upd h D (.lst (xs++[y])))else N a f)
def tLC(f:TI)(g:TG)(d:TT)(e:TE)(c:Nat)(fr:sk):TE:=λa H Q=>f a H λJ b=>LCW J g d e c fr a b Q
section
variable{X:Cx}{elt target iter:Expr}{ifs:q7}{sc:Scope}{pos:Pos}{wi:TI}{g:TG}{tc:TT}{te:TE}{vars frn:r9}{fr:sk}
def HN(X:Cx)(a:js)(b:St)(Q:VK)(D C:Addr)(s':tr):Prop:=
 ∃H',Inv X a b H' s'/\Q (.ref D) H'/\(∃m,s'.heap.Ns C m)/\H' C=none/\C≠X.env.locals/\X.s₀.heap.objs.size<=C/\(∀x c,X.env.cells.lookup x=some c->c≠C)/\∀p∈X.pn++a,p.1≠C
theorem Ks{env:Env}(h:sc.names.all (λy=> !(y.2== .free)||(env.kindOf y.1==some .cell||env.kindOf y.1==some .free))=true):∀y∈sc.names,y.2= .free->env.kindOf y.1=some .cell\/env.kindOf y.1=some .free:=λy b a=>by have:=O3.mp h y b;rw[a]at this;simpa using this
theorem Ko(h:sc.names.all (λy=> !(y.2== .local)||(sc.names.lookup y.1==some .local))=true):∀y∈sc.names,y.2= .local->sc.names.lookup y.1=some .local:=λy b a=>by have:=O3.mp h y b;rw[a]at this;simpa using this
end
section
variable{X:Cx}{e st:Expr}{te ts:TE}{pos p2:Pos}
def MY:V->List V->Hp->VK->Prop:=λx vs H Q=>∃i,x= .int i/\vs=[]/\Q (.int (Builtin.Int.intBits i:Nat)) H
theorem Jl:MtR X "int.bit_length" MY:=by intro c s d H x vs v us Q I b a h;obtain⟨i,rfl,rfl,q⟩:=h;obtain⟨t,rfl⟩:=b;cases a.zero;exact call_gives F.slot_int_bit_length (typeIs_int s i t) F.entry_int_bit_length (F.args_int_bit_length_1 _) (PySem.AutoIntG2.int_bit_length_int_0 i t) #[.int (Builtin.Int.intBits i:Nat),H,I.tok _,#[7],q]
def MU(K:Frag):List V->Hp->VK->Prop:=λxs H Q=>∃x n t b,xs=[x, .ty n]/\nS K H x t/\kitOne K t (.type n)=some b/\Q (.bl b) H
theorem yk:bz X (.builtin TK) (MU X.K):=by intro g s i H vs us Q I c h;obtain⟨x,n,t,b,rfl,ty,e,q⟩:=h;obtain⟨u,w,rfl,a,d⟩:=c.two;cases (show w=Value.type n from d);exact Dr I a ty e λf=>#[.bl b,H,I.tok f,2,q]
end
def Ite(K:Frag)(a:Addr):It:=
 #[λi H=>∃xs x,SqL K H a xs/\xs[i]?=some x,
  λi H x H'=>∃t,x= .ref t/\H t=none/\∃v,(∀xs,SqL K H a xs->xs[i]?=some v)/\H'=upd H t (.tup [.int (i:Nat),v]),
  λi H=>∃xs,SqL K H a xs/\xs.length<=i]
theorem Inv.own{s:tr}{h:St}{h₂:Heap}(ch:List Addr)(I:Inv X pins h H s)(d:∀b∈ch,sM X pins H b)(g:∀b o,b∉ch->s.heap.get? b=some o->h₂.get? b=some o):Inv X pins h H {s with heap:=h₂,gens:=s.gens,drawn:=s.drawn,toks:=t'}:=by
 have k:HOk X.prog X.w H h₂:=λb v e=>(I.hok b v e).stay (λc o a q=>g c o (λf=>by
   have n:=(d c f).1;rcases a with z|z
   .rw[z,e]at n;cases n
   .rw[z]at n;cases n) q) (λ_ q=>q) λ_ _ q=>q
 have i:∀m,s.heap.Ns X.env.locals m->h₂.Ns X.env.locals m:=λm f=>by obtain⟨o,es,ep,j,r⟩:=f;show#[o,es,ep,g _ o (λf=>(d _ f).2.1 rfl) j,r]
 exact I.step (h':=h₂) (g':=s.gens) (d':=s.drawn) (t':=t') (ch:=ch) (λb hb=>#[(d b hb).2.2.2.1,(d b hb).2.1,(d b hb).2.2.2.2.1,(d b hb).2.2.2.2.2]) (λb o _ _ a e _=>g b o a e)
  (λb o _ _ a e _=>#[o.slots,g b o a e]) (λ_ _ _ _ n=>n) (λb o a e=>#[o,g b o a e]) (λ_ _ e=>e) (λ_ _ _ e=>e) (λb ps e=>#[#v[],by rw[e];simp]) i k I.bare
theorem Inv.pairIn{s g:tr}{h:St}(I:Inv X pins h H s)(a:Inv X pins h H g)(z:bo x u)(A:bo y v)(k:g.heap.get? s.heap.objs.size=some {cls:= .type TN,data:= .seq #v[u,v]}):Inv X pins h (upd H s.heap.objs.size (.tup [x,y])) g:=by
 have f:H s.heap.objs.size=none:=I.fresh;show#[a.ok,a.os,a.bare,#[λb o e n hb hx=>a.base.keep b o e n hb hx,λb o e n hb hx=>a.base.slot b o e n hb hx,λb o e n hx=> ?_,a.base.there,λb j e=> ?_,λb o u e=> ?_,λb ps e=> ?_],a.loc,a.cell,6,λy c e=> ?_,λp i=> ?_,6,a.len]
 .have hb:b≠s.heap.objs.size:=Oe (N7 (N6 e) I.sz);rw[aj hb];exact a.base.free b o e n hx
 .have d:=a.base.tups b j e;rw[aj (ah d f)];exact d
 .have d:=a.base.frzs b o u e;rw[aj (ah d f)];exact d
 .obtain⟨more,d⟩:=a.base.tbls b ps e;show#[more,by rw[aj (ah d f)];exact d]
 .rw[aj (Oe I.lt)];exact a.free
 .obtain⟨v,q⟩:=I.cell y c e;rw[aj (Oe q.lt)];exact a.freeC y c e
 .obtain⟨l,m,r,t,w⟩:=a.pin p i;have hb:p.1≠s.heap.objs.size:=Oe (N6 (I.pin p i).1);show#[l,by rw[aj hb];exact m,r,t,w]
 .intro b o e;by_cases hb:b=s.heap.objs.size
  .subst hb;rw[ag]at e;cases e;show#[by show 2<=sizeLine;decide,[u,v], .cons z (.cons A .nil),#[_,k,27]]
  .rw[aj hb]at e;refine(a.hok b o e).stay (λ_ _ _ q=>q) (λc q=> ?_) λc j q=> ?_
   .rw[aj (ah q f)];exact q
   .rw[aj (ah q f)];exact q
theorem Cd{P:tj}{w:vu}{K:Frag}{U:q7}{x1:Nat}{tp:Pos}(a it en:Addr)(M:en≠it):
  Turn P w K (.Tuple U x1 tp) (Ite K a) [en,it] en (λi h=>(∃old,IsEnum h en it ((i:Nat):Int) old)/\h.IsListIter it a i) where
 mem:=#[5]
 obj:=λi h st b hb=>by
  obtain⟨⟨old,f⟩,hi⟩:=st;rcases N1.mp hb with e|e
  .subst e;show#[_,f,λv z=>by have z':Data.fields _=Data.cell v:=z;cases z']
  .have e:b=it:=#[5,e]
   subst e;obtain⟨o,e,c,d⟩:=hi;show#[o,e,λv z=>by rw[d]at z;cases z]
 keep:=λi h h' st k=>#[let⟨old,f⟩:=st.1;#[old,k en #[5] _ f],st.2.at λo e=>k it #[5] o e]
 item:=by
  intro X q t n J i y s B H E I j st r;subst q t n;obtain⟨xs,x,m,hx⟩:=r;obtain⟨⟨old,f⟩,l⟩:=st;obtain⟨b4,A,p,hz⟩:=I.list m;obtain⟨u,hu,ru⟩:=A.get hx;obtain⟨f0,f1,f2,f3,f4,f5⟩:=j en #[5];obtain⟨g0,g1,g2,g3,g4,g5⟩:=j it #[5];refine wpAny_pyNext_enum_item f l p.isList (x:=u) #[5,hu] M λb3 af a0 bp b2 a3=> ?_;show#[7,wpAny_letOwnedTupleGo_enum af λh₂ ar g=> ?_];replace g:Heap.SameBut en b3 h₂:=g;have L:en<s.heap.objs.size:=N6 f;obtain⟨oi,bk,cE,cN⟩:=id l;have az:it<s.heap.objs.size:=N6 bk;have ax:H s.heap.objs.size=none:=I.fresh;have bN:h₂.get? s.heap.objs.size=some {cls:= .type TN,data:= .seq #v[.int i s.toks,u]}:=(g.2 _ (Qb L)).trans bp;have kk:∀b o,b≠en->b≠it->s.heap.get? b=some o->h₂.get? b=some o:=λb o G h2 e=>(g.2 b G).trans (a3 b o G h2 e);have N:Inv X y B H {s with heap:=h₂,gens:=s.gens,drawn:=s.drawn,toks:=s.toks+1}:=I.own [en,it] j λb o hb e=>kk b o (λz=>hb (by simp[z])) (λz=>hb (by simp[z])) e;have cT:h₂.objs.size=s.heap.objs.size+1:=g.1.trans b2;have O:Inv X y B (upd H s.heap.objs.size (.tup [.int (i:Nat),x])) {s with heap:=h₂,toks:=s.toks+1}:=I.pairIn N #[7] ru bN;show#[.ref s.heap.objs.size,_,O,2,#[7,ax,x,λys hy=>by rw[I.list_inj hy m];exact hx,2],#[#[u,6],6],λb hb=> ?_]
  .have:((i+1:Nat):Int)=(i:Int)+1:=()
   rw[this];exact ar
  .obtain⟨o,e,c,d⟩:=a0;show#[o,(g.2 it (Pj M)).trans e,c,d]
  .rcases N1.mp hb with e|e
   .rw[e,aj (Oe L)];exact f0
   .have e:b=it:=#[5,e]
    rw[e,aj (Oe az)];exact g0
 done:=by intro X q t n J i y s B H E I j st r;subst q t n;obtain⟨xs,m,hx⟩:=r;obtain⟨⟨old,f⟩,l⟩:=st;obtain⟨b4,A,p,hz⟩:=I.list m;obtain⟨g0,g1,g2,g3,g4,g5⟩:=j it #[5];have hl:=A.length;exact wpAny_pyNext_enum_end (I.ok.hd J) f l p.isList (by simp;lia) λh' Q=>#[2,I.turned (t':=s.toks) (λb o hb e=>Q b o hb e) g0 g1 g3 g4 g5]
 self:=λ_ _ _ _ _ st h=>let⟨_,f⟩:=st.1;RC f h
section
variable{X:Cx}{elts:q7}{x1:Nat}{tp:Pos}
def Kr(K:Frag)(c:TA):TI:=λd H R=>c d H λvs b=>∃a,vs=[.ref a]/\(∃xs,b a=some (.lst xs))/\R (Ite K a) b
theorem IQ{a:Expr}{i:TA}{p pos:Pos}(m:Gl X TC)(v:X.mg TC=none)(k:PA X [a] i)(w:starEach [a] X.env=[(false,eval a X.env)]:=by rfl):PI X (.Tuple elts x1 tp) (.Call (.Name TC p) [a] [] pos) (Kr X.K i):=by
 intro x s G H R I h;refine Call_ (gM I m v boot_enumerate (O6 (thn (k pos x s G H _ I h) λus c ⟨vs,j,d,A,y⟩=> ?_) w rfl));obtain⟨l,e,⟨xs,hx⟩,q⟩:=y;subst e;obtain⟨u,rfl,B⟩:=A.one;cases B;obtain⟨z,J,n,r,hl,e⟩:=d.lstM hx;refine call_enumerate_1 e λh' g o hsz t=> ?_;refine RC g #[c.heap.objs.size+1,[c.heap.objs.size+1,c.heap.objs.size],_,Ite X.K l,j,2,d.kept (t':=c.toks) t,Cd l _ _ (Nat.succ_ne_self _),#[#[_,g],o],λb hb=> ?_,q];have f:c.heap.objs.size<=b:=by
  rcases N1.mp hb with e|e
  .rw[e];exact QM _
  .have e:b=c.heap.objs.size:=#[5,e]
   rw[e];exact N3 _
 exact d.fpOk f (d.hok.fresh f)
end
structure Cal(P:tj)(w:vu)(K:Frag)(mg:i2)(base:Heap)(k:Nat)(x:Str)(ps:r9)(sp:Sp):Prop where
 ex:∃(f:Addr)(fd:FuncData),c5 P w K mg base CX0 k f fd ps sp/\mg x=some (.ref f)/\keepIn K (.ref f)=true/\cx K fd ps []
structure mI(K:Frag)(mg:i2)(x:Str)(st:Stmt)(ps:r9):Prop where
 ex:∃(f:Addr)(fd:FuncData),Fun K x x st f fd/\cx K fd ps []/\mg x=some (.ref f)
theorem vM{K:Frag}{h:Heap}{st:Stmt}{ps:r9}{kV g i d e:Value}(X:K.In h)(G:h.Ns mainGlobals mg)(a:nsIn K mainGlobals x=some (some (.ref f)))(l:K.lookup f=some #[oc,od, .func (fnOf x x (bW st) (aH st) (av st) .none kV g i an d e),osl])(c:codeIn K d x=true)(k:keepIn K (.ref f)=true)(b:∀(kV g i:Value)(an:px)(d e:Value)(us:qR),us.length=ps.length->bindArgs (fnOf x x (bW st) (aH st) (av st) .none kV g i an d e) #[us,[]]=pure (ps.zip us)):mI K mg x st ps:=
 #[f,_,rF (st:=st) l c k,(rF (st:=st) l c k).binds b,RO X G a]
section
variable{P:tj}{w:vu}{K:Frag}{mg:i2}{base:Heap}
theorem mI.cal{x:Str}{st:Stmt}{N ps:r9}{k:Nat}{sp:Sp}(D:mI K mg x st ps)(S:bZ N ps (av st))(e:∀(f:Addr)(a:Value)(A:vr)(c:ti)(s:tr)(H:Hp)(vs:List V)(Q:VK)(E:XK),Room k (A.deeper (envOfC x (av st) s.heap.objs.size f a))->sp vs H Q E->
   ∃t,PSs (cJ CX0 P w K mg base N x (av st) f a A c s H E).nox (aH st) t/\t {nx:=λ_ H'=>Q .non H',rt:=Q} (start N vs) H)(len:∀vs H Q E,sp vs H Q E->vs.length=ps.length:=by intro _ _ _ _ h;cases h;subst_vars;rfl):Cal P w K mg base (k+1) x ps sp:=by
 obtain⟨f,d,F,b,m⟩:=D.ex;show#[f,d,F.ok S (len:=len) λa A c s H vs Q E g i=>e f a A c s H vs Q E g i,m,F.kp,b]
end
section
variable{X:Cx}{x:Str}{ps:r9}{j k:Nat}{sp:Sp}{e:Expr}{es:q7}{t:TA}{p pos:Pos}
theorem Ly(C:Cal X.prog X.w X.K X.mg X.base j x ps sp)(l:Room k X.A)(h:j<=k)(g:Gl X x)(a:PA X (e::es) t)(c:(x==(Tq:Str))=false:=by decide)(d:starEach (e::es) X.env=(false,eval e X.env)::starEach es X.env:=by rfl)(i:(backTo pos (starEach es X.env)).any (·.1)=false:=by rfl):PE X (.Call (.Name x p) (e::es) [] pos) (wC sp [] E0 t):=by
 obtain⟨f,o,F,m,n,b⟩:=C.ex;exact vf F (l.mono h) g m n b .nil tH a c d i
end
theorem Same.upd{H a:Hp}{l:Addr}{o:HO}(e:Same H a)(h:H l=none):Same H (upd a l o):=λb u q=>by rw[aj (ah q h)];exact e b u q
theorem Same.new(h:H l=none):Same H (L2.upd H l o):=(Same.refl H).upd h
theorem Same.at(e:Same H H1)(h:H l=some o):H1 l=some o:=e l o h
theorem Mc{ts:sv}{t:Int}(h0:0<=t):dE (ts.map V.int) none (some t)=(ts.take t.toNat).map V.int:=by
 obtain⟨k,rfl⟩:=OJ h0;unfold dE;show((ts.map V.int).drop (HT.sIx _ 0 none)).take (HT.sIx _ _ (some (k:Int)) -HT.sIx _ 0 none)=_;rw[HT.lT,HT.qz,My,Td,Nat.sub_zero,<-Tn];show(ts.take (min k ts.length)).map V.int=(ts.take k).map V.int;by_cases a:k<=ts.length
 .rw[Q0 a]
 .rw[SR (),OV,PL ()]
def gw(p:Nat->Bool)(f:Nat->V)(i:Nat):List V:=((List.range i).filter p).map f
theorem zN(p:Nat->Bool)(f:Nat->V)(i:Nat):gw p f (i+1)=if p i=true then gw p f i++[f i]else gw p f i:=by unfold gw;rw[List.range_succ,P0,O1];cases a:p i<;>simp[a]
theorem CN(p:Nat->Bool)(f:Nat->V)(i:Nat):(gw p f i).length<=i:=by unfold gw;rw[My];exact NV (OW _ _) #[5]
section
variable{J:It}{g:TG}{tc:TT}{te:TE}{nv:Nat}{fr:sk}{σ:St}{H:Hp}{Q:VK}
theorem vF(n:Nat)(hn:n<=sizeLine)(I:Nat->V->Hp->Hp->Prop)(U:∀i H',i<n->Same H H'->J.go i H')(hy:∀i H' x c,i<n->Same H H'->J.yld i H' x c->Same H' c/\I i x H' c)(af:∀H',Same H H'->J.stop n H')(O:Addr->Nat->Hp->List V->Prop)(K:∀D H',O D 0 H' [])(L:∀D i H' a,O D i H' a->a.length<=i)(hs:∀(D:Addr)(i:Nat)(x:V)(vs:St)(H' c:Hp)(a:List V)(R:V->St->Hp->Prop)(S:St->Hp->Prop),i<n->I i x H' c->vs.length=nv->Same H H'->Same H' c->H' D=some (.lst a)->O D i H' a->
   (∀y f d,f.length=nv->Same c d->O D (i+1) (upd d D (.lst (a++[y]))) (a++[y])->R y (f++fr.map λj=>(σ[j]?).join) d)->(∀f d,f.length=nv->Same c d->O D (i+1) d a->S (f++fr.map λj=>(σ[j]?).join) d)->
   g x (vs++fr.map λj=>(σ[j]?).join) c λk G=>tc k G λb B=>if b=true then te k B λy t=>R y k t else S k B)(M:∀D H' a,H D=none->Same H H'->H' D=some (.lst a)->O D n H' a->Q (.ref D) H'):LCW J g tc te nv fr σ H Q:=by
 intro D w
 let N:Nat->St->Hp->Prop:=λi v H'=>∃(vs:St)(a:List V),vs.length=nv/\v=vs++(fr.map λj=>(σ[j]?).join)/\Same H H'/\H' D=some (.lst a)/\O D i H' a
 show#[λi m v H'=>m=n-i/\i<=n/\N i v H',#[n,2,Pw _,List.replicate nv none,[],Q7,2,Same.new w,ag,K D _],6];rintro i m v H' ⟨rfl,hi,vs,a,hv,rfl,h,u,z⟩;by_cases p:i<n
 .refine .inr #[U i H' p h,N (i+1),λa0 d q=>#[n- (i+1),QT p (PB _),2,p,q],λx c y=> ?_];obtain⟨r,hx⟩:=hy i H' x c p h y;have l:=L D i H' a z;exact hs D i x vs H' c a (λy k t=>∃xs,t D=some (.lst xs)/\xs.length<sizeLine/\N (i+1) k (upd t D (.lst (xs++[y])))) _ p hx hv h r u z (λy f d A s o=>#[a,s D _ (r D _ u),9,f,a++[y],A,2,((h.trans r).trans s).upd w,ag,o]) λf d A s o=>#[f,a,A,2,(h.trans r).trans s,s D _ (r D _ u),o]
 .have e:i=n:=()
  subst e;exact .inl #[af H' h,M D H' a w h u z]
theorem xK(n:Nat)(B:n<=sizeLine)(I:Nat->V->Hp->Hp->Prop)(A:∀i H',i<n->Same H H'->J.go i H')(M:∀i H' x a,i<n->Same H H'->J.yld i H' x a->Same H' a/\I i x H' a)(K:∀H',Same H H'->J.stop n H')(out:Nat->List V)(p:Nat->V->Bool)(f:Nat->V->V)(U:out 0=[])(ol:∀i,(out i).length<=i)(oS:∀i x H' a,i<n->I i x H' a->out (i+1)=if p i x=true then out i++[f i x]else out i)(G:∀(i:Nat)(x:V)(vs:St)(H' a:Hp)(R:V->St->Hp->Prop)(S:St->Hp->Prop),i<n->I i x H' a->vs.length=nv->Same H H'->Same H' a->
   (∀d c,d.length=nv->Same a c->if p i x=true then R (f i x) (d++fr.map λj=>(σ[j]?).join) c else S (d++fr.map λj=>(σ[j]?).join) c)->
   g x (vs++fr.map λj=>(σ[j]?).join) a λm u=>tc m u λb q=>if b=true then te m q λy v=>R y m v else S m q)(z:∀D H',H D=none->Same H H'->H' D=some (.lst (out n))->Q (.ref D) H'):LCW J g tc te nv fr σ H Q:=
 vF n B I A M K (λ_ i _ l=>l=out i) (λ_ _=>U.symm) (λ_ i _ l e=>e▸ol i) (λD i x vs H' a l R S r hx L o s2 hz e N O=>G i x vs H' a R S r hx L o s2 λd c t s=>by
  have k:=oS i x H' a r hx;split
  .rename_i h;rw[NZ h]at k;exact N _ d c t s (by rw[k,e])
  .rename_i h;rw[NW h]at k;exact O d c t s (e.trans k.symm)) λD H' l w o hz e=>z D H' w o (e▸hz)
end
theorem nH{l:Int}{fr:sk}{a:St}{Q:VK}(p:Nat->Bool)(f:Nat->V)(w:n<=sizeLine)(z:∀(i:Nat)(vs:St)(H':Hp)(R:V->St->Hp->Prop)(S:St->Hp->Prop),i<n->vs.length=nv->Same H H'->
   (∀m d,m.length=nv->Same H' d->if p i=true then R (f i) (m++fr.map λj=>(a[j]?).join) d else S (m++fr.map λj=>(a[j]?).join) d)->
   g (.int (l+i)) (vs++fr.map λj=>(a[j]?).join) H' λc q=>tc c q λb o=>if b=true then te c o λy r=>R y c r else S c o)(u:∀D H',H D=none->Same H H'->H' D=some (.lst (gw p f n))->Q (.ref D) H'):LCW (Itr l n) g tc te nv fr a H Q:=by
 refine xK n w (λi x H' e=>H'=e/\x= .int (l+i)) (λi H' h _=>h) (λi H' x e _ _ y=>by obtain⟨s,t⟩:=y;subst s t;show#[Same.refl _,22]) (λ_ _=>N3 _) (gw p f) (λi _=>p i) (λi _=>f i) rfl (CN p f) (λi _ _ _ _ _=>zN p f i) (λi x vs H' e R S v h A B _ k=> ?_) u;obtain⟨rfl,rfl⟩:=h;exact z i vs H' R S v A B k
def d5(p:V->Bool)(f:V->V)(xs:List V):List V:=(xs.filter p).map f
theorem qM(p:V->Bool)(f:V->V)(xs:List V)(i:Nat)(x:V)(h:xs[i]?=some x):d5 p f (xs.take (i+1))=if p x=true then d5 p f (xs.take i)++[f x]else d5 p f (xs.take i):=by unfold d5;rw[Pk,h,P0,O1];cases a:p x<;>simp[a]
theorem tJ(p:V->Bool)(f:V->V)(xs:List V):(d5 p f xs).length<=xs.length:=by unfold d5;rw[My];exact OW _ _
theorem bO{K:Frag}{xs:List V}{fr:sk}{c:St}{Q:VK}(p:V->Bool)(f:V->V)(n:SqL K H a xs)(z:xs.length<=sizeLine)(A:∀(i:Nat)(x:V)(vs:St)(H':Hp)(R:V->St->Hp->Prop)(S:St->Hp->Prop),xs[i]?=some x->vs.length=nv->Same H H'->
   (∀q l,q.length=nv->Same H' l->if p x=true then R (f x) (q++fr.map λj=>(c[j]?).join) l else S (q++fr.map λj=>(c[j]?).join) l)->
   g x (vs++fr.map λj=>(c[j]?).join) H' λd t=>tc d t λb r=>if b=true then te d r λy u=>R y d u else S d r)(w:∀D H',H D=none->Same H H'->H' D=some (.lst (d5 p f xs))->Q (.ref D) H'):LCW (Itl K a) g tc te nv fr c H Q:=by
 refine xK xs.length z (λi x H' m=>H'=m/\xs[i]?=some x) (λi H' h s=>#[xs,xs[i],s.seq n,by simp[h]]) (λi H' x m _ s y=>by obtain⟨e,h⟩:=y;subst e;show#[Same.refl _,2,h xs (s.seq n)]) (λH' s=>#[xs,s.seq n,N3 _]) (λi=>d5 p f (xs.take i)) (λ_ x=>p x) (λ_ x=>f x) rfl (λi=>NV (tJ p f _) (by rw[Ow];lia)) (λi x _ _ _ h=>qM p f xs i x h.2) (λi x vs H' m R S _ h B o _ k=> ?_) λD H' v o hz=>w D H' v o (by rw[hz,OV]);obtain⟨rfl,h⟩:=h;exact A i x vs H' R S h B o k
inductive RdN(K:Frag)(xs:List V)(H:Hp)(Q:VK):Prop
 |mk(p:Addr) (ys:List V) (e:xs=[.ref p]) (s:SqL K H p ys\/SqT K H p ys) (q:Q (.int ys.length) H):RdN K xs H Q
def Ki(K:Frag):List V->Hp->VK->Prop:=λxs H Q=>RdN K xs H Q
def IC(K:Frag):List V->Hp->VK->Prop:=λxs H Q=>∃p a,xs=[.ref p]/\(SqL K H p a\/SqT K H p a)/\∀l,H l=none->Q (.ref l) (upd H l (.lst a))
section
variable{X:Cx}{K:Frag}
theorem F0(h:X.K=K):IxR X (Lh K):=by subst h;exact JA
theorem Jz(h:X.K=K):IxR X (Lg K):=by subst h;exact LV
theorem eu(h:X.K=K):OpR X (compareOp .In) (rIn K false):=by subst h;exact CP
theorem so(h:X.K=K):OpR X (compareOp .NotIn) (rIn K true):=by subst h;exact vj
theorem sL(h:X.K=K):bz X (.builtin "len") (Ki K):=by subst h;intro c s f H xs us Q I r a;obtain⟨p,d,e,b,q⟩:=a;exact vW c s f H xs us Q I r #[p,d,e,b,q]
theorem sJ(h:X.K=K):bz X (.type Ts) (IC K):=by subst h;exact vV
theorem vX(h:X.K=K):bz X (.builtin TK) (MU K):=by subst h;exact yk
theorem a5(h:X.K=K):SlR X (MS K):=by subst h;exact Io
theorem IX{o:Expr}{to:TE}{name:Str}{a b:Pos}{T id:tT}{r:V->List V->Hp->VK->Prop}(h:X.K=K)(i:PlainAttrs T)(slot:Slot T name id)(g:typeOf (.builtin id)=pure (.type TQ))(e:MtR X id r)(f:PE X o to)(c:attributeBase o name X.env (eval o X.env)=eval o X.env:=by rfl)(d:(a.endLine==b.line)=true:=by rfl):PE X (.Call (.Attribute o name a) [] [] b) (MA K T r to):=by subst h;exact LA i slot g e f c d
theorem cz{o e:Expr}{es:q7}{to:TE}{t:TA}{name:Str}{b a:Pos}{T id:tT}{r:V->List V->Hp->VK->Prop}(h:X.K=K)(n:PlainAttrs T)(slot:Slot T name id)(m:typeOf (.builtin id)=pure (.type TQ))(i:MtR X id r)(j:PE X o to)(c:PA X (e::es) t)(d:attributeBase o name X.env (eval o X.env)=eval o X.env:=by rfl)(f:((backTo a (starEach (e::es) X.env)).all (λx=> !x.1)&&(backToKw a (keywordEach [] X.env)).all (λx=>x.1.isSome)
   &&decide ((e::es).length+([]:List Keyword).length+(if([]:List Keyword).isEmpty then 0 else 1)<30))=true:=by rfl)(g:(b.endLine==a.line)=true:=by rfl)(l:starEach (e::es) X.env=(false,eval e X.env)::starEach es X.env:=by rfl)(k:(backTo a (starEach es X.env)).any (·.1)=false:=by rfl):
  PE X (.Call (.Attribute o name b) (e::es) [] a) (tBM K T r to t):=by subst h;exact Nb n slot m i j c d f g l k
theorem E1(h:X.K=K)(hl:PE X l tl):PI X tg l (F6 K tl):=by subst h;exact IP hl
theorem IM(h:X.K=K)(hl:PE X l tl):PI X tg l (LX K tl):=by subst h;exact Lq hl
theorem E3{c:q7}{x1:Nat}{i:Pos}{a:Expr}{b:TA}{p pos:Pos}(h:X.K=K)(e:Gl X TC)(f:X.mg TC=none)(d:PA X [a] b)(g:starEach [a] X.env=[(false,eval a X.env)]:=by rfl):
  PI X (.Tuple c x1 i) (.Call (.Name TC p) [a] [] pos) (Kr K b):=by subst h;exact IQ e f d g
theorem pJ{es:q7}{k:Nat}{t:TGs}{n:Nat}{pos:Pos}(h:X.K=K)(a:X.calm=true)(c:PGs X es t)(b:(assignEach es X.env).length=n:=by rfl)(d:(assignEach es X.env).findIdx? (·.1)=none:=by rfl):
  PG X (.Tuple es k pos) (Nn K n t):=by subst h;exact Lr a c b d
end
end L2
namespace Bh
def bits(n:Nat):List Int:=((List.range 8).filter n.testBit).map λ(k:Nat)=>(k:Int)
theorem gc{n:Nat}:z∈bits n↔∃k:Nat,k<8/\n.testBit k=true/\z=k:=by
 unfold bits;simp only[Of,Pp,OQ];constructor
 .rintro⟨k,⟨a,b⟩,rfl⟩;show#[k,a,b,2]
 .rintro⟨k,a,b,rfl⟩;show#[k,#[a,b],2]
theorem vC{n k:Nat}(h:k<8):(k:Int)∈bits n↔n.testBit k=true:=by
 rw[gc];constructor
 .rintro⟨j,_,a,e⟩;have:k=j:=()
  rw[this];exact a
 .intro a;show#[k,h,a,2]
theorem iV(h:z∈bits n):0<=z/\z<8:=by obtain⟨k,a,_,rfl⟩:=gc.mp h;lia
theorem cV(n:Nat):(bits n).length<=8:=by unfold bits;rw[My];exact NV (OW _ _) #[5]
def sD(p:Nat->Bool):Nat:=(List.range 8).foldl (λt k=>if p k=true then t+2^k else t) 0
theorem zU(h:∀k,k<8->p k=q k):sD p=sD q:=by unfold sD;simp only[List.range,List.range.loop,List.foldl,h 0 (),h 1 (),h 2 (),h 3 (),h 4 (),h 5 (),h 6 (),h 7 ()]
theorem Nc(b:n<256)(a:m<256):n|||m<256:=Nat.or_lt_two_pow (n:=8) b a
theorem Mg(a:n<256):n&&&m<256:=Om S5 a
def K9(ns:sv):Nat:=ns.foldl (λs t=>s|||2^t.toNat) 0
theorem A5:∀(ns:sv)(s k:Nat),(∀z∈ns,0<=z)->((ns.foldl (λs (t:Int)=>s|||2^t.toNat) s).testBit k=true↔s.testBit k=true\/(k:Int)∈ns)
 | [],s,k,_=>by simp
 |z::r,s,k,h=>by
  rw[Qn,A5 r _ k (λy a=>h y (N4 _ a)),Te,Rr,Nat.testBit_two_pow,N1,OB];have hz:=h z N8;have:z.toNat=k↔(k:Int)=z:=()
  rw[this,or_assoc]
theorem Al{n m:Nat}(e:n<256)(d:m<256)(h:∀k,k<8->(n.testBit k=true↔m.testBit k=true)):n=m:=by
 refine QJ λk=> ?_;by_cases c:k<8
 .have:=h k c;cases a:n.testBit k with
  |true=>exact(this.mp a).symm
  |false=>
   cases b:m.testBit k with
   |true=>exact absurd (this.mpr b) (by rw[a];simp)
   |false=>rfl
 .have f:2^8<=2^k:=OG () ();rw[Qc (),Qc ()]
theorem A4:∀(ns:sv)(s:Nat),s<256->(∀z∈ns,0<=z/\z<8)->ns.foldl (λs (t:Int)=>s|||2^t.toNat) s<256
 | [],s,a,_=>a
 |z::r,s,a,h=>by rw[Qn];refine A4 r _ (Nc a ?_) λy b=>h y (N4 _ b);have hz:=h z N8;exact N7 (Nat.pow_lt_pow_right () (show z.toNat<8 by lia)) ()
theorem Iv(c:n<256)(a:∀z∈ns,0<=z/\z<8)(h:∀z,z∈ns↔z∈bits n):K9 ns=n:=by refine Al (A4 ns 0 () a) c λk b=> ?_;unfold K9;rw[A5 ns 0 k (λz hz=>(a z hz).1),h,vC b,Nat.zero_testBit];simp
theorem oj{n k:Nat}:n.testBit k=decide (n/2^k % 2=1):=Nat.testBit_eq_decide_div_mod_eq
theorem GL:∀n:Nat,n<256->(List.range (if n=0 then 0 else n.log2+1)).filter n.testBit=(List.range 8).filter n.testBit:=#[9]
def gp(f:sv)(t:Int):List Int:=f++f.map λp=>((p.toNat|||2^t.toNat:Nat):Int)
def Fd(n:Nat):List Int:=(bits n).foldl gp [0]
theorem Cm(f:sv)(t:Int):(gp f t).length=2*f.length:=by unfold gp;rw[Od,My];lia
theorem t7:∀(ts:sv)(f:sv),(ts.foldl gp f).length=2^ts.length*f.length
 | [],f=>by simp
 |t::r,f=>by rw[Qn,t7 r,Cm,Oa,Nat.pow_succ,Nat.mul_assoc]
theorem Et(h:∀p∈f,0<=p):∀p∈gp f t,0<=p:=λp a=>by
 rcases OS.mp a with q|q
 .exact h p q
 .obtain⟨x,_,rfl⟩:=Of.mp q;lia
theorem xS:∀(ts:sv)(f:sv),(∀p∈f,0<=p)->∀p∈ts.foldl gp f,0<=p
 | [],_,h=>h
 |t::r,f,h=>by rw[Qn];exact xS r _ (Et h)
theorem CV:∀a b c d e f g h:Bool,∀k:Fin 8,(sD λk=>[a,b,c,d,e,f,g,h].getD k false).testBit k.val=[a,b,c,d,e,f,g,h].getD k.val false:=#[9]
theorem Fs:∀a b c d e f g h:Bool,(sD λk=>[a,b,c,d,e,f,g,h].getD k false)<256:=#[9]
theorem tO(p:Nat->Bool):sD p=sD λk=>[p 0,p 1,p 2,p 3,p 4,p 5,p 6,p 7].getD k false:=by
 refine zU λk a=> ?_
 match k,a with
 |0,_=>rfl
 |1,_=>rfl
 |2,_=>rfl
 |3,_=>rfl
 |4,_=>rfl
 |5,_=>rfl
 |6,_=>rfl
 |7,_=>rfl
theorem qX(p:Nat->Bool)(a:k<8):(sD p).testBit k=p k:=by
 rw[tO];refine(CV _ _ _ _ _ _ _ _ #[k,a]).trans ?_
 match k,a with
 |0,_=>rfl
 |1,_=>rfl
 |2,_=>rfl
 |3,_=>rfl
 |4,_=>rfl
 |5,_=>rfl
 |6,_=>rfl
 |7,_=>rfl
theorem Je(p:Nat->Bool):sD p<256:=by rw[tO];exact Fs _ _ _ _ _ _ _ _
def Ag(n:Nat):List Nat:=(List.range 8).filter n.testBit
def jf(n:Nat):List Nat:=if n=0 then [45]else(Ag n).map (97+ ·)
def rdN(L:sk):Nat:=sD λk=>decide (97+k∈L)
theorem qA(L:sk):rdN L<256:=Je _
theorem BK(n:Nat):bits n=(Ag n).map λ(k:Nat)=>(k:Int):=rfl
theorem Iy:rdN []=0:=#[9]
theorem ER:rdN [45]=0:=#[9]
end Bh
namespace L2
open PySem PySem.Spec PyProof.Rows
def Its(z:Str):It:=#[λi _=>i<z.cps.size,λi H x H'=>H'=H/\∃c,z.cps[i]?=some c/\x= .str #[#v[c]],λi _=>i=z.cps.size]
theorem Ck(z:Str):Tp.contains (strIterType z)=false:=by unfold strIterType;split<;>decide
theorem sN{A:vr}(b:A.handled=none)(it:Addr)(z:Str)(t:Tok):Walks P w A it [it] [it] z.cps.size (SignAt z) (λi h=>h.IsStrIter it (strIterType z) z t i):=by
 cases a:z.cps.all (· <128)
 .have e:strIterType z= Uo:=by simp[strIterType,a]
  rw[e];exact Walks.strWide b it z t
 .have e:strIterType z= T2:=by simp[strIterType,a]
  rw[e];exact Walks.strAscii b it z t
theorem ue{A:vr}(b:A.handled=none)(it:Addr)(z:Str)(t:Tok):
  Draws P w A it [it] z.cps.size (λi v=>∃c u,z.cps[i]?=some c/\v= .str #[#v[c]] u) (λi h=>h.IsStrIter it (strIterType z) z t i):=by
 cases a:z.cps.all (· <128)
 .have e:strIterType z= Uo:=by simp[strIterType,a]
  rw[e];exact Draws.strWide b it z t
 .have e:strIterType z= T2:=by simp[strIterType,a]
  rw[e];exact Draws.strAscii b it z t
theorem F2{s:tr}(st:s.heap.IsStrIter it (strIterType z) z t i)(h:Q (.ref it) s):
  wpAny (model P w) A (pyIter (.ref it)) Q E s:=by
 cases a:z.cps.all (· <128)
 .have e:strIterType z= Uo:=by simp[strIterType,a]
  rw[e]at st;exact wpAny_pyIter_striter_wide st h
 .have e:strIterType z= T2:=by simp[strIterType,a]
  rw[e]at st;exact wpAny_pyIter_striter_ascii st h
theorem Eh{P:tj}{w:vu}{K:Frag}{O:Expr}(it:Addr)(z:Str)(t:Tok):Turn P w K O (Its z) [it] it (λi h=>h.IsStrIter it (strIterType z) z t i) where
 mem:=#[5]
 obj:=λi h st b hb=>by
  have e:b=it:=#[5,hb]
  subst e;obtain⟨o,e,c,d⟩:=st;show#[o,e,λv z=>by rw[d]at z;cases z]
 keep:=λi h h' st k=>let⟨o,e,r⟩:=st;#[o,k it #[5] o e,r]
 item:=by intro X n q m a i A s G H E I f st p;subst n q m;obtain⟨f0,f1,f2,g,j,l⟩:=f it #[5];have W:=sN (P:=X.prog) (w:=X.w) (I.ok.hd a) it z t;refine W.item i s _ _ p st λv h' y N B x=> ?_;obtain⟨c,u,a,rfl⟩:=N;have J:Inv X A G H {s with heap:=h',toks:=y}:=I.turned (λb o hb e=>x b o #[5,hb] e) f0 f1 g j l;obtain⟨o,e,L,hd⟩:=id B;show#[7,xR (s:={s with heap:=h',toks:=y}) e L hd (Ck z) #[.str #[#v[c]],H,J,#[u,2],#[2,c,a,2],B,λb hb=>(f b hb).1]]
 done:=by intro X n q m a i A s G H E I f st p;subst n q m;obtain⟨f0,f1,f2,g,j,l⟩:=f it #[5];have W:=sN (P:=X.prog) (w:=X.w) (I.ok.hd a) it z t;have M:i=z.cps.size:=p;subst M;exact W.done s _ _ st λh' y x=>#[2,I.turned (λb o hb e=>x b o #[5,hb] e) f0 f1 g j l]
 self:=λ_ _ _ _ _ st h=>F2 st h
def Itse(z:Str):It:=
 #[λi _=>i<z.cps.size,λi H x H'=>∃t,x= .ref t/\H t=none/\∃c,z.cps[i]?=some c/\H'=upd H t (.tup [.int (i:Nat), .str #[#v[c]]]),λi _=>i=z.cps.size]
theorem yW{P:tj}{w:vu}{K:Frag}{bp:q7}{x1:Nat}{tp:Pos}(z:Str)(t:Tok)(it en:Addr)(Q:en≠it):
  Turn P w K (.Tuple bp x1 tp) (Itse z) [en,it] en (λi h=>(∃old,IsEnum h en it ((i:Nat):Int) old)/\h.IsStrIter it (strIterType z) z t i) where
 mem:=#[5]
 obj:=λi h st b hb=>by
  obtain⟨⟨old,j⟩,hi⟩:=st;rcases N1.mp hb with e|e
  .subst e;show#[_,j,λv z=>by have z':Data.fields _=Data.cell v:=z;cases z']
  .have e:b=it:=#[5,e]
   subst e;obtain⟨o,e,c,d⟩:=hi;show#[o,e,λv z=>by rw[d]at z;cases z]
 keep:=λi h h' st k=>#[let⟨old,j⟩:=st.1;#[old,k en #[5] _ j],let⟨o,e,r⟩:=st.2;#[o,k it #[5] o e,r]]
 item:=by
  intro X N U M f i ab s σ H E I J st O;subst N U M;obtain⟨⟨old,j⟩,L⟩:=st;obtain⟨f0,f1,f2,f3,f4,f5⟩:=J en #[5];obtain⟨g0,g1,g2,g3,g4,g5⟩:=J it #[5];refine wpAny_pyNext_enum_itemD (ue (P:=X.prog) (w:=X.w) (A:=X.A.in1) (I.ok.hd f) it z t) j L O Q #[5,Q] λu c4 G hu b5 ct c1 dx cv=> ?_;obtain⟨c,tu,b4,rfl⟩:=hu;show#[7,wpAny_letOwnedTupleGo_enum b5 λh₂ b6 x=> ?_];replace x:Heap.SameBut en c4 h₂:=x;have ax:en<s.heap.objs.size:=N6 j;obtain⟨oi,cT,dt,dv⟩:=id L;have cm:it<s.heap.objs.size:=N6 cT;have l:H s.heap.objs.size=none:=I.fresh;have c2:h₂.get? s.heap.objs.size=some {cls:= .type TN,data:= .seq #v[.int i G, .str #[#v[c]] tu]}:=(x.2 _ (Qb ax)).trans c1;have B:∀b o,b≠en->b≠it->s.heap.get? b=some o->h₂.get? b=some o:=λb o g h2 e=>(x.2 b g).trans (cv b o g h2 e);have ay:∀b v,H b=some v->b≠en/\b≠it:=λb v e=>#[λz=>(by rw[z,f0]at e;cases e),λz=>(by rw[z,g0]at e;cases e)];have hok:HOk X.prog X.w H h₂:=λb v e=>(I.hok b v e).stay (λc o f q=>by
    have:c≠en/\c≠it:=by
     rcases f with z|z
     .rw[z];exact ay b v e
     .exact ay c _ z
    exact B c o this.1 this.2 q) (λ_ q=>q) λ_ _ q=>q
  have hL:∀m,s.heap.Ns X.env.locals m->h₂.Ns X.env.locals m:=λm hm=>by obtain⟨o,es,ep,ho,r⟩:=hm;show#[o,es,ep,B _ o (Pj f1) (Pj g1) ho,r]
  have a:Inv X ab σ H {s with heap:=h₂,gens:=s.gens,drawn:=s.drawn,toks:=G+1}:=by
   refine I.step (h':=h₂) (g':=s.gens) (d':=s.drawn) (t':=G+1) (ch:=[en,it]) (λb hb=> ?_) (λb o _ _ f e _=>B b o (λz=>f (by simp[z])) (λz=>f (by simp[z])) e)
    (λb o _ _ f e _=>#[o.slots,B b o (λz=>f (by simp[z])) (λz=>f (by simp[z])) e]) (λ_ _ _ _ n=>n)
    (λb o f e=>#[o,B b o (λz=>f (by simp[z])) (λz=>f (by simp[z])) e]) (λ_ _ e=>e) (λ_ _ _ e=>e) (λb ps e=>#[#v[],by rw[e];simp]) hL hok I.bare
   rcases N1.mp hb with e|e
   .subst e;show#[f3,f1,f4,f5]
   .have e:b=it:=#[5,e]
    subst e;show#[g3,g1,g4,g5]
  have I2:Inv X ab σ (upd H s.heap.objs.size (.tup [.int (i:Nat), .str #[#v[c]]])) {s with heap:=h₂,toks:=G+1}:=by
   show#[a.ok,a.os,a.bare,#[λb o e n hb hx=>a.base.keep b o e n hb hx,λb o e n hb hx=>a.base.slot b o e n hb hx,λb o e n hx=> ?_,a.base.there,λb ys e=> ?_,λb o u e=> ?_,λb ps e=> ?_],a.loc,a.cell,6,λy c e=> ?_,λp hp=> ?_,6,a.len]
   .have hb:b≠s.heap.objs.size:=Oe (N7 (N6 e) I.sz);rw[aj hb];exact a.base.free b o e n hx
   .have g:=a.base.tups b ys e;rw[aj (ah g l)];exact g
   .have g:=a.base.frzs b o u e;rw[aj (ah g l)];exact g
   .obtain⟨more,g⟩:=a.base.tbls b ps e;show#[more,by rw[aj (ah g l)];exact g]
   .rw[aj (Oe I.lt)];exact a.free
   .obtain⟨v,q⟩:=I.cell y c e;rw[aj (Oe q.lt)];exact a.freeC y c e
   .obtain⟨q1,q2,q3,q4,q5⟩:=a.pin p hp;have hb:p.1≠s.heap.objs.size:=Oe (N6 (I.pin p hp).1);show#[q1,by rw[aj hb];exact q2,q3,q4,q5]
   .intro b v e;by_cases hb:b=s.heap.objs.size
    .subst hb;rw[ag]at e;cases e;show#[by show 2<=sizeLine;decide,[.int i G, .str #[#v[c]] tu], .cons #[7] (.cons #[7] .nil),#[_,c2,27]]
    .rw[aj hb]at e;refine(hok b v e).stay (λ_ _ _ q=>q) (λc q=> ?_) λc ys q=> ?_
     .rw[aj (ah q l)];exact q
     .rw[aj (ah q l)];exact q
  show#[.ref s.heap.objs.size,_,I2,2,#[7,l,c,b4,2],#[#[.str #[#v[c]] tu,6],6],λb hb=> ?_]
  .have:((i+1:Nat):Int)=(i:Int)+1:=()
   rw[this];exact b6
  .obtain⟨o,e,c,d⟩:=ct;show#[o,(x.2 it (Pj Q)).trans e,c,d]
  .rcases N1.mp hb with e|e
   .rw[e,aj (Oe ax)];exact f0
   .have e:b=it:=#[5,e]
    rw[e,aj (Oe cm)];exact g0
 done:=by intro X N U M f i ab s σ H E I J st O;subst N U M;obtain⟨⟨old,j⟩,L⟩:=st;obtain⟨g0,g1,g2,g3,g4,g5⟩:=J it #[5];have b7:i=z.cps.size:=O;subst b7;exact wpAny_pyNext_enum_endD (ue (P:=X.prog) (w:=X.w) (A:=X.A.in1) (I.ok.hd f) it z t) j L λh' eb=>#[2,I.turned (t':=s.toks) (λb o hb e=>eb b o hb e) g0 g1 g3 g4 g5]
 self:=λ_ _ _ _ _ st h=>let⟨_,j⟩:=st.1;RC j h
section
variable{X:Cx}{tg:Expr}{elts:q7}{x1:Nat}{tp:Pos}
def NO(b:TE):TI:=λc H R=>b c H λx a=>∃z,x= .str z/\R (Its z) a
theorem vd(hl:PE X l tl):PI X tg l (NO tl):=by
 intro f s j H R I h;refine thn (hl f s j H _ I h) λv a ⟨x,d,c,i,g⟩=> ?_;obtain⟨z,e,q⟩:=g;subst e;obtain⟨t,rfl⟩:=i;refine wpAny_pyIter_strU ?_;show#[a.heap.objs.size,[a.heap.objs.size],11,d,2,c.kept (t':=a.toks) λb o e=>NY _ e,Eh _ z t,#[_,Oi _ rfl,22],λb hb=> ?_,q];have e:b=a.heap.objs.size:=#[5,hb]
 subst e;exact c.fpOk (N3 _) (c.hok.fresh (N3 _))
def LY(b:TA):TI:=λc H R=>b c H λvs a=>∃z,vs=[.str z]/\R (Itse z) a
theorem E2{a:Expr}{i:TA}{p pos:Pos}(l:Gl X TC)(o:X.mg TC=none)(k:PA X [a] i)(r:starEach [a] X.env=[(false,eval a X.env)]:=by rfl):PI X (.Tuple elts x1 tp) (.Call (.Name TC p) [a] [] pos) (LY i):=by
 intro v s y H R I h;refine Call_ (gM I l o boot_enumerate (O6 (thn (k pos v s y H _ I h) λus c ⟨vs,j,d,x,w⟩=> ?_) r rfl));obtain⟨z,e,q⟩:=w;subst e;obtain⟨u,rfl,t,rfl⟩:=x.one;refine call_enumerate_str λh' g m hsz n=> ?_;refine RC g #[c.heap.objs.size+1,[c.heap.objs.size+1,c.heap.objs.size],_,Itse z,j,2,d.kept (t':=c.toks) n,yW z t _ _ (Nat.succ_ne_self _),#[#[_,g],m],λb hb=> ?_,q];have f:c.heap.objs.size<=b:=by
  rcases N1.mp hb with e|e
  .rw[e];exact QM _
  .have e:b=c.heap.objs.size:=#[5,e]
   rw[e];exact N3 _
 exact d.fpOk f (d.hok.fresh f)
end
theorem BB{z:Str}{g:TG}{k:TS}{D:Ends}(Pv:Nat->St->Hp->Prop)(h0:Pv 0 a H)(o:∀i c a H,z.cps[i]?=some c->Pv i a H->g (.str #[#v[c]]) a H λf b=>k {D with nx:=Pv (i+1),ct:=Pv (i+1),bk:=D.nx} f b)(n:∀a H,Pv z.cps.size a H->D.nx a H):
  ∃W:Nat->Nat->St->Hp->Prop,(∃m,W 0 m a H)/\∀i m a H,W i m a H->
   ((Its z).stop i H/\D.nx a H)\/((Its z).go i H/\∃N:St->Hp->Prop,(∀d H',N d H'->∃j,j<m/\W (i+1) j d H')/\∀x H',(Its z).yld i H x H'->g x a H' λf b=>k {D with nx:=N,ct:=N,bk:=D.nx} f b):=by
 show#[λi m a H=>m=z.cps.size-i/\i<=z.cps.size/\Pv i a H,#[z.cps.size,#[5],Pw _,h0],6];rintro i m a H ⟨rfl,r,p⟩;by_cases h:i<z.cps.size
 .refine .inr #[h,Pv (i+1),λd H' q=>#[z.cps.size- (i+1),92,h,q],λx H' y=> ?_];obtain⟨e,c,l,y⟩:=y;subst e y;exact o i c a _ l p
 .have e:i=z.cps.size:=()
  subst e;exact .inl #[2,n a H p]
def di(p:Nat->Nat->Bool)(f:Nat->Nat->V):Nat->List Nat->List V
 |_,[]=>[]
 |i,x::r=>if p i x=true then f i x::di p f (i+1) r else di p f (i+1) r
theorem qL(p:Nat->Nat->Bool)(f:Nat->Nat->V):∀(i:Nat)(xs:sk)(x:Nat),di p f i (xs++[x])=if p (i+xs.length) x=true then di p f i xs++[f (i+xs.length) x]else di p f i xs
 |i,[],x=>by simp[di]
 |i,y::r,x=>by
  have e:i+(y::r).length=i+1+r.length:=by simp;lia
  rw[SS,di,qL p f (i+1) r x,e]
  conv=>rhs;rw[di]
  by_cases a:p i y=true<;>by_cases b:p (i+1+r.length) x=true<;>simp[a,b]
theorem tI(p:Nat->Nat->Bool)(f:Nat->Nat->V):∀(i:Nat)(xs:sk),(di p f i xs).length<=xs.length
 |_,[]=>N3 _
 |i,x::r=>by have:=tI p f (i+1) r;rw[di];split<;>simp<;>lia
theorem Dl{z:Str}{fr:sk}{d:St}(p:Nat->Nat->Bool)(f:Nat->Nat->V)(hn:z.cps.size<=sizeLine)(hs:∀(i:Nat)(c:Nat)(t:Addr)(vs:St)(H':Hp)(R:V->St->Hp->Prop)(S:St->Hp->Prop),z.cps[i]?=some c->vs.length=h->Same H H'->H' t=some (.tup [.int (i:Nat), .str #[#v[c]]])->
   (∀k a,k.length=h->Same H' a->if p i c=true then R (f i c) (k++fr.map λj=>(d[j]?).join) a else S (k++fr.map λj=>(d[j]?).join) a)->
   g (.ref t) (vs++fr.map λj=>(d[j]?).join) H' λl O=>tc l O λb A=>if b=true then te l A λy n=>R y l n else S l A)(hd:∀D H',H D=none->Same H H'->H' D=some (.lst (di p f 0 z.cps.toList))->Q (.ref D) H'):LCW (Itse z) g tc te h fr d H Q:=by
 intro D u;have hz:z.cps.toList.length=z.cps.size:=#[5]
 show#[λi m M H'=>m=z.cps.size-i/\i<=z.cps.size/\∃vs:St,vs.length=h/\M=vs++(fr.map λj=>(d[j]?).join)/\Same H H'/\H' D=some (.lst (di p f 0 (z.cps.toList.take i))),#[z.cps.size,#[5],Pw _,List.replicate h none,#[5],2,Same.new u,ag],6];rintro i m M H' ⟨rfl,hi,vs,hv,rfl,o,v⟩;by_cases J:i<z.cps.size
 .refine .inr #[J,λN a=>∃vs:St,vs.length=h/\N=vs++(fr.map λj=>(d[j]?).join)/\Same H a/\a D=some (.lst (di p f 0 (z.cps.toList.take (i+1)))),λN a q=>#[z.cps.size- (i+1),92,J,q],λx H2 y=> ?_];obtain⟨t,U,ht,c,G,e3⟩:=y;subst U e3;have r:Same H' (upd H' t (.tup [.int (i:Nat), .str #[#v[c]]])):=Same.new ht;refine hs i c t vs _ (λy l n=>∃s,n D=some (.lst s)/\s.length<sizeLine/\∃vs:St,vs.length=h/\l=vs++(fr.map λj=>(d[j]?).join)/\Same H (upd n D (.lst (s++[y])))/\upd n D (.lst (s++[y])) D=some (.lst (di p f 0 (z.cps.toList.take (i+1))))) _ G hv (o.trans r) ag λk a L w=> ?_;have e:di p f 0 (z.cps.toList.take (i+1))=if p i c=true then di p f 0 (z.cps.toList.take i)++[f i c]else di p f 0 (z.cps.toList.take i):=by
   have hx:z.cps.toList[i]?=some c:=#[5,G]
   rw[Pk,hx];show di p f 0 (z.cps.toList.take i++[c])=_;rw[qL,Ow,hz,Q0 hi,R0]
  have B:=w D _ (r D _ v);cases K:p i c with
  |true=>
   rw[K,NZ rfl]at e;rw[NZ rfl];show#[_,B,Om (tI p f _ _) ?_,k,L,2,((o.trans r).trans w).upd u,by rw[ag,e]];rw[Ow];lia
  |false=>
   rw[K,NW Oo]at e;rw[NW Oo];show#[k,L,2,(o.trans r).trans w,by rw[e];exact B]
 .have e:i=z.cps.size:=()
  subst e;refine .inl #[2,hd D H' u o ?_];rwa[<-hz,OV]at v
section
variable{X:Cx}
theorem pV:∀ {a:r9} {us:qR},Vals (a.map V.str) us->StrsAre us a
 | [],_, .nil=> .nil
 |y::a,_, .cons r b=>by obtain⟨t,rfl⟩:=r;exact .cons y t (pV b)
def Kj(K:Frag):V->List V->Hp->VK->Prop:=λx vs H Q=>∃(c:Str)(a:Addr)(b:r9),x= .str c/\vs=[.ref a]/\SqL K H a (b.map V.str)/\(b.map (·.length)).sum+b.length*c.length<=16777216/\Q (.str (Txt.join c b)) H
theorem Jk:MtR X "str.join" (Kj X.K):=by intro j s l H x vs v us Q I f e h;obtain⟨g,a,i,rfl,rfl,b,hz,q⟩:=h;obtain⟨t,rfl⟩:=f;obtain⟨u,rfl,d⟩:=e.one;cases d;obtain⟨is,c,p1,_⟩:=I.list b;exact join_list p1.isList #[5,pV c] hz λt' k=>#[.str (Txt.join g i),H,I.tok k,#[t',2],q]
theorem jH{K:Frag}(h:X.K=K):MtR X "str.join" (Kj K):=by subst h;exact Jk
def NK:V->Option Int->Option Int->Hp->VK->Prop:=λx b a H Q=>∃z,x= .str z/\z.length<=sizeLine/\Q (.str (Txt.slice z b a)) H
theorem eW:SlR X NK:=by
 intro n s p H x v w y e d r Q I o c pl g h;obtain⟨z,rfl,hz,q⟩:=h;obtain⟨t,rfl⟩:=o;have a:∀t' k,EP X n p Q (.str (Txt.slice z e d) t') {s with toks:=k}:=λt' k=>#[.str (Txt.slice z e d),H,I.tok k,#[t',2],q];have b:=NV (SU z e d) hz;show#["str",_,F.slot_str_getitem.lookup,RA _ _ _,6];cases pl with
 |none=>
  cases g with
  |none=>exact QV (l:=none) (u:=none) (st:=none) c rfl (R1 #[b,a])
  |int j f=>exact QV (l:=none) (u:=some (j,f)) (st:=none) c rfl (R1 #[b,a])
 |int i m=>
  cases g with
  |none=>exact QV (l:=some (i,m)) (u:=none) (st:=none) c rfl (R1 #[b,a])
  |int j f=>exact QV (l:=some (i,m)) (u:=some (j,f)) (st:=none) c rfl (R1 #[b,a])
theorem Cv(z:Str)(d b:Option Int):∀c∈(Txt.slice z d b).cps.toList,c∈z.cps.toList:=λc a=>by
 unfold Txt.slice at a;split at a
 .exact a
 .have f:c∈(List.filterMap (λi=>z.cps[i]?) (Builtin.Str.strSliceIndices d b 1 z.length)):=#[5,a]
  obtain⟨i,_,e⟩:=Qi.mp f;exact Array.mem_toList_iff.mpr (Array.mem_of_getElem? e)
theorem lh(x:Str)(c:Nat):(!(Builtin.Str.occurrences x #[#v[c]] 0 x.length 1).isEmpty)=decide (c∈x.cps.toList):=by
 rw[O8,OB,StrLaws.found_iff];constructor
 .rintro⟨i,h⟩;exact N5 ((StrLaws.subAt_one x c i).mp h)
 .intro h;obtain⟨i,a⟩:=Pq h;show#[i,(StrLaws.subAt_one x c i).mpr a]
end
structure Fly(P:tj)(w:vu)(outer:ti)(H:Hp)(s:tr)(ea:Addr)(cls:Value)(H':Hp)(s':tr):Prop where
 os:s'.os=s.os
 bare:AllBare s'.gens
 ex:∃(B:Heap)(a0:Value),Heap.FlyingW B outer ea cls a0 s'.heap/\(∀b o,s.heap.get? b=some o->H b=none->b∉frs outer->B.get? b=some o)/\
  (∀b o,s.heap.get? b=some o->b∉frs outer->∃o',B.get? b=some o')/\HOk P w H' B
 slot:∀b o,s.heap.get? b=some o->b∈frs outer->∃sl,s'.heap.get? b=some {o with slots:=sl}
 free:∀b o,s.heap.get? b=some o->H b=none->H' b=none
 tups:∀b xs,H b=some (.tup xs)->H' b=some (.tup xs)
 frzs:∀b o u,H b=some (.frz o u)->H' b=some (.frz o u)
 tbls:∀b ps,H b=some (.tbl ps)->∃more,H' b=some (.tbl (ps++more))
 new:s.heap.get? ea=none
def CXe(P:tj)(w:vu):CXT:=λb H s E e s'=>∃a cls H',e= .ref a/\Fly P w b H s a cls H' s'/\E cls (some a) H'
section
variable{P:tj}{w:vu}{K:Frag}{mg:i2}{base:Heap}{N:r9}{qual:Str}{scope:Scope}{f:Addr}{cd:Value}{A:vr}{outer:ti}{s:tr}{H:Hp}{E:XK}
theorem Gg{σ:St}{d:tr}(I:Inv (cJ (CXe P w) P w K mg base N qual scope f cd A outer s H E) pins σ H1 d)(hx:Heap.MadeExcOf d.heap h' a cls us)(q:E cls (some a) H1):(cJ (CXe P w) P w K mg base N qual scope f cd A outer s H E).xe (.ref a) {d with heap:=h'}:=by
 have L:d.heap.FunFrames base (envOfC qual scope s.heap.objs.size f cd::outer):=I.stack;have x:∀b o,s.heap.get? b=some o->b∉frs outer->b∉frs (envOfC qual scope s.heap.objs.size f cd::outer):=λb o e hb k=>by
  rcases N1.mp (I.stkSub b k)with z|z
  .exact absurd z (Oe (N6 e))
  .exact hb z
 show wpAny (model P w) (A.deeper (envOfC qual scope s.heap.objs.size f cd)) (leaving (envOfC qual scope s.heap.objs.size f cd) (.ref a)) (λ_ l=>CXe P w outer H s E (.ref a) l) (λy l=>CXe P w outer H s E y l) {d with heap:=h'};refine wpAny_leaves_madeW (base:=hideAll d.heap (frs (envOfC qual scope s.heap.objs.size f cd::outer))) (h:=d.heap) I.ok.frames rfl (λb o q=>Qh _ q)
  (Q2 L λe J b hb=>Qi.mpr #[e,J,hb]) hx λaf t x1 x2 x3 x4=> ?_
 show#[a,cls,H1,2,#[I.os,I.bare,#[11,x1,λb o e n hb=> ?_,λb o e hb=> ?_,λb u e=> ?_],λb o e hb=> ?_,λb o e n=>I.base.free b o e n (λz=>nomatch z),I.base.tups,I.base.frzs,I.base.tbls,6],q]
 .exact OT _ (I.base.keep b o e n hb (λz=>nomatch z)) (x b o e hb)
 .obtain⟨i,g⟩:=I.base.there b o e (λz=>nomatch z);show#[i,OT _ g (x b o e hb)]
 .refine(I.hok b u e).stay (λc v G r=>OT _ r λk=> ?_) (λ_ q=>q) λ_ _ q=>q;have j:=I.stkFree c k;rcases G with z|z
  .rw[z,e]at j;cases j
  .rw[z]at j;cases j
 .obtain⟨_,i,M,Q⟩:=I.ok.funs.mem hb;have p:s.heap.get? b=some i:=M;rw[e]at p;cases p;obtain⟨sl,g⟩:=I.base.slot b o e (I.ok.frf b hb) hb (λz=>nomatch z);obtain⟨U,B⟩:=x4 b _ (hx.keeps b _ g) Q;show#[U,B]
 .cases O:s.heap.get? a with
  |none=>rfl
  |some o=>
   obtain⟨i,g⟩:=I.base.there a o O (λz=>nomatch z);have m:d.heap.get? a=some i:=g;rw[hx.new]at m;cases m
theorem Gf{O:St}(I:Inv (cJ (CXe P w) P w K mg base N qual scope f cd A outer s H E) pins O H1 m)(h:CXe P w (envOfC qual scope s.heap.objs.size f cd::outer) H1 m E e s'):(cJ (CXe P w) P w K mg base N qual scope f cd A outer s H E).xe e s':=by
 obtain⟨d,cls,H',rfl,F,q⟩:=h;obtain⟨B,a0,t,u,J,y⟩:=F.ex;have l:∀b o,s.heap.get? b=some o->b∉frs outer->b∉frs (envOfC qual scope s.heap.objs.size f cd::outer):=λb o e hb v=>by
  rcases N1.mp (I.stkSub b v)with z|z
  .exact absurd z (Oe (N6 e))
  .exact hb z
 show wpAny (model P w) (A.deeper (envOfC qual scope s.heap.objs.size f cd)) (leaving (envOfC qual scope s.heap.objs.size f cd) (.ref d)) (λ_ i=>CXe P w outer H s E (.ref d) i) (λp i=>CXe P w outer H s E p i) s';refine wpAny_leaves_onW I.ok.frames rfl t λQ x1 x2=> ?_;show#[d,cls,H',2,#[F.os.trans I.os,F.bare,#[B,a0,x1,λb o e n hb=> ?_,λb o e hb=> ?_,y],λb o e hb=> ?_,λb o e n=> ?_,λb xs e=>F.tups b xs (I.base.tups b xs e),λb o xs e=>F.frzs b o xs (I.base.frzs b o xs e),λb ps e=> ?_,6],q]
 .exact u b o (I.base.keep b o e n hb (λz=>nomatch z)) (I.base.free b o e n (λz=>nomatch z)) (l b o e hb)
 .obtain⟨c,a⟩:=I.base.there b o e (λz=>nomatch z);exact J b c a (l b o e hb)
 .obtain⟨_,c,x,L⟩:=I.ok.funs.mem hb;have k:s.heap.get? b=some c:=x;rw[e]at k;cases k;obtain⟨U,a⟩:=I.base.slot b o e (I.ok.frf b hb) hb (λz=>nomatch z);obtain⟨ab,g⟩:=F.slot b _ a (N4 _ hb);obtain⟨M,r⟩:=x2 b _ g L;show#[M,r]
 .obtain⟨c,a⟩:=I.base.there b o e (λz=>nomatch z);exact F.free b c a (I.base.free b o e n (λz=>nomatch z))
 .obtain⟨m1,a⟩:=I.base.tbls b ps e;obtain⟨m2,g⟩:=F.tbls b _ a;show#[m1++m2,by rw[g,Ru]]
 .cases G:s.heap.get? d with
  |none=>rfl
  |some o=>
   obtain⟨c,a⟩:=I.base.there d o G (λz=>nomatch z);have j:m.heap.get? d=some c:=a;rw[F.new]at j;cases j
theorem aF:dF (CXe P w) (cJ (CXe P w) P w K mg base N qual scope f cd A outer s H E) E:=λ_ _ _ _ _ _ I h=>Gf I h
end
def jQ(a:Addr)(cls:Value):HO:= .ext λh=>∃o,h.get? a=some o/\o.cls=cls/\∃vs,o.data= .fields vs
section
variable{X:Cx}{pins:js}{σ:St}{H H':Hp}{s s':tr}{ea:Addr}{cls:Value}
theorem Inv.caught{B c:Heap}(I:Inv X pins σ H s)(F:Fly X.prog X.w X.stack H s ea cls H' s')(g:B.StaysIn c)(k:∀b o,s.heap.get? b=some o->H b=none->b∉frs X.stack->B.get? b=some o)(m:∀b o,s.heap.get? b=some o->b∉frs X.stack->∃f,B.get? b=some f)(l:HOk X.prog X.w H' B)(q:s'.heap.UpToSlots c):Inv X pins σ H' {s' with heap:=c}:=by
 have d:∀b o,s.heap.get? b=some o->b∈frs X.stack->∃h,c.get? b=some {o with slots:=h}:=λb o e hb=>by obtain⟨_,f,i,d⟩:=I.stack.mem hb;rw[e]at i;cases i;obtain⟨h,a⟩:=F.slot b o e hb;obtain⟨p,j⟩:=q b _ a d;show#[p,j]
 refine I.call' (s':={s' with heap:=c}) (ch:=[]) F.os #[λb o e n hb _=>g _ _ (k b o e n hb),λb o e n hb _=>d b o e hb,λb o e n _=>F.free b o e n,λb o e _=> ?_,F.tups,F.frzs,F.tbls] (l.kept g) F.bare (λb z=>nomatch z);by_cases hb:b∈frs X.stack
 .obtain⟨h,a⟩:=d b o e hb;show#[_,a]
 .obtain⟨f,a⟩:=m b o e hb;show#[f,g _ _ a]
theorem Inv.track{h0:Heap}(I:Inv X pins σ H s)(O:X.ex=[])(t:∀b o,X.s₀.heap.get? b=some o->∃h,h0.get? b=some h)(w:∃o,h0.get? X.env.locals=some o)(hC:∀x c,X.env.cells.lookup x=some c->∃o,h0.get? c=some o)(A:∀p∈X.pn++pins,∃o,h0.get? p.1=some o)(B:h0.get? ea=none)(f:H ea=none)(i:∃o,s.heap.get? ea=some o/\o.cls=cls/\∃vs,o.data= .fields vs):Inv X pins σ (upd H ea (jQ ea cls)) s:=by
 have ne:∀b o,h0.get? b=some o->b≠ea:=λb o e z=>by rw[z,B]at e;cases e
 show#[I.ok,I.os,I.bare,#[I.base.keep,I.base.slot,λb o e n hx=> ?_,I.base.there,λb l e=> ?_,λb o u e=> ?_,λb ps e=> ?_],I.loc,I.cell,6,λy c e=> ?_,λp j=> ?_,6,I.len]
 .obtain⟨h,d⟩:=t b o e;rw[aj (ne b h d)];exact I.base.free b o e n hx
 .have a:=I.base.tups b l e;rw[aj (ah a f)];exact a
 .have a:=I.base.frzs b o u e;rw[aj (ah a f)];exact a
 .obtain⟨more,a⟩:=I.base.tbls b ps e;show#[more,by rw[aj (ah a f)];exact a]
 .obtain⟨o,e⟩:=w;rw[aj (ne _ o e)];exact I.free
 .obtain⟨o,d⟩:=hC y c e;rw[aj (ne _ o d)];exact I.freeC y c e
 .obtain⟨G,J,K,L,M⟩:=I.pin p j;obtain⟨o,d⟩:=A p j;show#[G,by rw[aj (ne _ o d)];exact J,K,L,M]
 .intro b v e;by_cases hb:b=ea
  .subst hb;rw[ag]at e;cases e;show#[i,6,λa N ⟨o,g,m,r⟩ k=>#[o,k o g,m,r]];obtain⟨o,g,_⟩:=i;show#[o,g]
  .rw[aj hb]at e;refine(I.hok b v e).stay (λ_ _ _ q=>q) (λc q=> ?_) λc l q=> ?_
   .rw[aj (ah q f)];exact q
   .rw[aj (ah q f)];exact q
theorem pO(I:Inv X pins σ H s)(G:X.N.Nodup)(u:X.N[j]?=some n)(hl:X.env.kindOf n=some .local)(h:∀s',Inv X pins (σ.set j none) H s'->Q Unit.unit s'):wpAny M A (do bindName X.env n .none;unbindBehindTheSuite X.env n pos) Q E s:=by
 obtain⟨m,w,L⟩:=id I.loc;have J:(X.env.scope.kind== .class||(X.env.scope.kind== .module&&X.env.locals !=X.env.globals))=false:=by rw[I.ok.kind];rfl
 have K:j<σ.length:=by rw[I.len];exact(Oc.mp u).1
 refine wpAny_nameGoes_keeps hl w J λh' v O a=> ?_;obtain⟨oL,_,_,a3,_⟩:=id w;refine h _ #[I.ok,I.os,I.bare,#[λb o e n hb hx=> ?_,λb o e n hb hx=> ?_,I.base.free,λb o e hx=> ?_,I.base.tups,I.base.frzs,I.base.tbls],#[_,O,λi y v' f g B=> ?_],λy c e=> ?_,I.free,I.freeC,λp U=> ?_,λb ob e=> ?_,#[5,I.len]]
 .exact(a.2 b (Oe (N7 (N6 e) I.ok.above))).trans (I.base.keep b o e n hb hx)
 .obtain⟨sl,f⟩:=I.base.slot b o e n hb hx;show#[sl,(a.2 b (Oe (N7 (N6 e) I.ok.above))).trans f]
 .obtain⟨o',f⟩:=I.base.there b o e hx;show#[o',(a.2 b (Oe (N7 (N6 e) I.ok.above))).trans f]
 .by_cases r:i=j
  .subst r;rw[RF K]at g;cases g
  .rw[RX (Pj r)]at g;obtain⟨u',r',q⟩:=L i y v' f g B;show#[u',r',6];rcases q with ⟨k,e⟩|⟨k,c,e,z⟩
   .refine .inl #[k,6];have:y≠n:=λe=>r (qY G f (e▸u));simp[this,e]
   .exact .inr #[k,c,e,z.sameBut a (I.cne y c e)]
 .obtain⟨x,z⟩:=I.cell y c e;show#[x,z.sameBut a (I.cne y c e)]
 .obtain⟨e,n,ne,nf,d⟩:=I.pin p U;show#[(a.2 p.1 ne).trans e,n,ne,nf,d]
 .refine(I.hok b ob e).stay (λc x l q=>(a.2 c ?_).trans q) (λ_ q=>q) λ_ _ q=>q;rintro rfl;have t:=I.free;rcases l with rfl|l
  .rw[t]at e;cases e
  .rw[t]at l;cases l
abbrev Cx.inX(X:Cx)(ea:Addr):Cx:={X with A:=X.A.mark (some (.ref ea)),calm:=false,xe:=λ_ _=>False}
theorem Inv.inX(I:Inv X pins σ H s)(ea:Addr):Inv (X.inX ea) pins σ H s:=
 #[#[I.ok.mod,I.ok.kind,I.ok.glob,I.ok.blt,I.ok.above,I.ok.inj,I.ok.has,I.ok.cab,(λz=>nomatch z),I.ok.frames,I.ok.stk,I.ok.exf,I.ok.bs,I.ok.bsz,I.ok.noex,I.ok.exfs,I.ok.funs,I.ok.frf],I.os,I.bare,I.base,I.loc,I.cell,I.free,I.freeC,I.pin,I.hok,I.len]
theorem Inv.outX(J:X.Ok)(I:Inv (X.inX ea) pins σ H s):Inv X pins σ H s:=#[J,I.os,I.bare,I.base,I.loc,I.cell,I.free,I.freeC,I.pin,I.hok,I.len]
end
theorem bx.there{h:Heap}(x:bx P w H h a o):∃u,h.get? a=some u:=by
 cases o with
 |lst xs=>obtain⟨_,_,_,_,e⟩:=x;show#[_,e]
 |tup xs=>obtain⟨_,_,_,o,e,_⟩:=x;show#[_,e]
 |dK kvs=>obtain⟨_,_,_,_,o,_,_,e,_⟩:=x;show#[_,e]
 |dT kvs=>obtain⟨_,_,_,_,o,_,_,e,_⟩:=x;show#[_,e]
 |set S n=>obtain⟨o,_,_,_,e,_⟩:=x;show#[_,e]
 |ins C b fs=>obtain⟨_,_,_,e,_⟩:=x;show#[_,e]
 |own y=>exact x
 |xd fs=>obtain⟨_,⟨_,_,_,e,_⟩,_⟩:=x;show#[_,e]
 |rng d c=>obtain⟨_,_,_,e⟩:=x;show#[_,e]
 |frz g u=>obtain⟨e,_⟩:=x;show#[_,e]
 |tbl ps=>show#[_,(show h.get? a=some _ from x)]
 |met f y=>show#[_,(show h.get? a=some _ from x)]
 |ext i=>obtain⟨_,e,_⟩:=x;exact e
theorem HOk.none_of{h:Heap}(x:HOk P w H h)(e:h.get? a=none):H a=none:=by
 cases q:H a with
 |none=>rfl
 |some o=>
  obtain⟨u,z⟩:=(x a o q).there;rw[e]at z;cases z
def AE(X:Cx)(E:XK):Prop:=∀(b:js) (c:St) (H:Hp) (s:tr) (h':Heap) (a:Addr) (cls:Value) (us:qR),Inv X b c H s->Heap.MadeExcOf s.heap h' a cls us->E cls (some a) H->X.xe (.ref a) {s with heap:=h'}
theorem tq{K:Frag}{f:Addr}{a:Value}{A:vr}{b:ti}{s:tr}{H:Hp}{E:XK}:
  AE (cJ (CXe P w) P w K mg base N qual scope f a A b s H E) E:=λ_ _ _ _ _ _ _ _ I hx q=>Gg I hx q
section
variable{X:Cx}{e:Expr}{es:q7}{t:TA}{x:Str}{C:Addr}{B newId initId:tT}{bm:qR}{np cpos pos:Pos}{E:XK}
def KI(C:Addr)(E:XK)(t:TA):TS:=λ_ c H=>t c H λvs a=>vs.length<=sizeLine/\∀b,a b=none->E (.ref C) (some b) a
theorem qF(n:X.calm=true)(O:OwnCls x C bm newId X.mg X.base)(FB:ExcBaseFacts B newId initId bm)(p:Gl X x)(l:AE X E)(m:PA X (e::es) t)(o:(x==(Tq:Str))=false:=by decide)(d:starEach (e::es) X.env=(false,eval e X.env)::starEach es X.env:=by rfl)(v:(backTo cpos (starEach es X.env)).any (·.1)=false:=by rfl):
  PS X (.Raise (some (.Call (.Name x np) (e::es) [] cpos)) none pos) (KI C E t):=by
 intro g s i H D I h;obtain⟨y,N,nm,q,bs,hdct,sn,sub,ab,col,dd,k0,k1,k2,k3,k5,mN,hC,k,u,T⟩:=O.obj;refine wpAny_Raise_call_subT (C:=C) (nm:=nm) (q:=q) (N:=N) (bs:=bs) (bm:=y) (hdct:=hdct) (sn:=sn) (sub:=sub) (ab:=ab) (col:=col) (dd:=dd) (k0:=k0) (k1:=k1) (k2:=k2) (k3:=k3) (k5:=k5)
  FB (mN:=mN) (T.hasType FB.hasBase) (I.ok.hd n) (by rw[d];show(false||(backTo cpos (starEach es X.env)).any (·.1))=false;rw[v];rfl) u (dW I p O.bound #[26] o)
 have c:=m cpos g s i H _ I h;rw[d]at c⊢;refine Rf (thn c λus w ⟨vs,j,a,r,hl,q⟩=>#[2,by rw[<-r.length];exact hl,a.bk _ _ hC,k.keeps a.bk,T.keeps a.bk,λh' b f=> ?_]);exact l g i j w h' b _ us a f (q b (a.hok.none_of f.new))
end
structure HI(P:tj)(w:vu)(K:Frag)(mg:i2)(base:Heap)(k:Nat)(x:Str)(ps:r9)(sp:Sp):Prop where
 ex:∃(f:Addr)(fd:FuncData),c5 P w K mg base (CXe P w) k f fd ps sp/\mg x=some (.ref f)/\keepIn K (.ref f)=true/\cx K fd ps []
section
variable{P:tj}{w:vu}{K:Frag}{mg:i2}{base:Heap}
theorem mI.calX{x:Str}{st:Stmt}{N ps:r9}{k:Nat}{sp:Sp}(D:mI K mg x st ps)(S:bZ N ps (av st))(d:∀(f:Addr)(a:Value)(A:vr)(c:ti)(s:tr)(H:Hp)(vs:List V)(Q:VK)(E:XK),Room k (A.deeper (envOfC x (av st) s.heap.objs.size f a))->sp vs H Q E->
   ∃t,PSs (cJ (CXe P w) P w K mg base N x (av st) f a A c s H E) (aH st) t/\t {nx:=λ_ H'=>Q .non H',rt:=Q} (start N vs) H)(len:∀vs H Q E,sp vs H Q E->vs.length=ps.length:=by intro _ _ _ _ h;cases h;subst_vars;rfl):HI P w K mg base (k+1) x ps sp:=by
 obtain⟨f,n,F,b,m⟩:=D.ex;obtain⟨o,od,kV,l,q,an,a,j,p,rfl,lk,e⟩:=F.ex;show#[f,_,xT lk e S len λA c s H vs Q E g i=>d f a A c s H vs Q E g i,m,F.kp,b]
theorem zM{h₀:Heap}(X:K.In h₀)(G:h₀.Ns mainGlobals mg)(e:nsIn K mainGlobals x=some (some (.ref C)))(q:excIn K C bmB newId=true):OwnCls x C bmB newId mg h₀:=by
 show#[RO X G e,6];unfold excIn at q;split at q
 .rename_i dd h g j;split at q
  .rename_i p bm k0 k1 k2 k3 n k5 c f;simp only[Oz,Qd,Pb]at q;obtain⟨⟨⟨⟨⟨rfl,rfl⟩,b⟩,m⟩,a⟩,d⟩:=q;obtain⟨nm,bs,s,ns,o,i,sn,sub,ab,col,r⟩:=h;dsimp only at c b a d;subst c b;have k:g= #v[k0,k1,k2,k3,some (.builtin n),k5]:=by obtain⟨l⟩:=g;simp only at f;rw[f]
   subst k;show#[bm,ns,nm,o,bs,i,sn,sub,ab,col,dd,k0,k1,k2,k3,k5,_,X _ _ j, .of_isNs (PySem.W.isNs_of_in X a),PySem.W.nsMap_none_of_in X a d,PySem.W.tail_of_in X m]
  .cases q
 .cases q
end
theorem pE:bootBuiltins Ub=some (.type Ub):=#[9]
structure we(K:Frag)(C:Addr):Prop where
 hd:hasDictIn K C=true
 ga:findIn K (.ref C) TV=some (some (.builtin Tr))
 gt:findIn K (.ref C) "__getattr__"=some none
 cl:findIn K (.ref C) Uq=some (some (.builtin Tz))
 sb:PySem.W.subIn K (.ref C) (.type Tv)=some true
 mo:mroIn K C (.type Ur)=some true
section
variable{prog:tj}{w:vu}{A:vr}{E:f6}{K:Frag}{h:Heap}{g:Array GenState}{d:Drawn}{t:Nat}{os:OsState}{ea C:Addr}{o:Obj}{vs:qs}
theorem rG(hx:h.get? ea=some o)(a:o.cls= .ref C):Looks M h (typeOf (.ref ea)) (.ref C):=a▸ (SV hx).andThen .now
theorem JL(X:K.In h)(hx:h.get? ea=some o)(a:o.cls= .ref C)(b:mroIn K C (.type Ur)=some true)(c:R (.ok (.ret (.ref C))) #[h,g,d,t,os]):codeAny (model prog w) A (.call (.builtin T7) #[[.builtin Tz, .ref ea,e],[]]) R #[h,g,d,t,os]:=by
 have L0:=rG (M:=model prog w) hx a;have L1:=PySem.W.looks_mroIn (M:=model prog w) X b;refine QK PySem.W.KF.slot_gs.plain PySem.W.KF.entry_gs (PySem.W.KF.slot_gs.check _ _ _ _ _ _ _ _ PySem.W.KF.type_class (PySem.W.KF.args_gs _ _ _) ?_);unfold Builtin.«getset_descriptor.__get__» Builtin.Getset_descriptor.descrGet;rw[PySem.W.dga_obj];refine NU (N0 ?_);unfold Builtin.Getset_descriptor.descrGetter Builtin.Getset_descriptor.descrCheckInstance Builtin.Getset_descriptor.descrNameAndClass isInstance;simp only[PySem.W.KF.owner_class]
 repeat lk
 show#[Qw _ #[9],Px PySem.W.KF.entry_class ?_];unfold Builtin.«object.__class__» shownTypeOf
 repeat lk
 exact c
theorem DC(X:K.In h)(k:we K C)(hx:h.get? ea=some o)(a:o.cls= .ref C)(i:Q (.done (.ret (.ref C))) #[h,g,d,t,os]):
  wpAny (model prog w) A (Builtin.«object.__getattribute__» #[[.ref ea, .str Uq j],[]]) Q E #[h,g,d,t,os]:=by
 have L0:=rG (M:=model prog w) hx a;have L3:=QI (M:=model prog w) X k.cl;have f:(#[h,g,d,t,os]:tr).TypeIs (.builtin Tz) "getset_descriptor":=F.typeOf_object_class;have b:=F.typeOf_object_class;have c:=F.slot_gs_get.lookup;have e:=F.slot_gs_set.lookup
 repeat (any_goals (first|assumption|with_reducible refine L0.at ?_|with_reducible refine L3.at ?_|wp_step))
 refine JL X hx a k.mo ?_
 repeat (any_goals (first|assumption|wp_step))
end
section
variable{prog:tj}{w:vu}{A:vr}{E:f6}{K:Frag}{h:Heap}{g:Array GenState}{d:Drawn}{t:Nat}{os:OsState}{ea C:Addr}{o:Obj}{vs:qs}
theorem DE(X:K.In h)(k:we K C)(hx:h.get? ea=some o)(b:o.cls= .ref C)(e:Q Unit.unit #[h,g,d,t,os]):
  wpAny M A (checkBuiltinCall Tr #[[.ref ea,i],[]]) Q E #[h,g,d,t,os]:=by
 have c:builtinKind Tr=some .slot:=#[9]
 have f:splitId Tr=some (Tv,TV):=#[9]
 have L0:=rG (M:=M) hx b;have a:Looks M h (isSubtype (.ref C) (.type Tv)) true:=PySem.W.looks_subIn X k.sb;have j:=F.args_bexc_ga (.ref ea) i;simp only[checkBuiltinCall,c,f];refine NU ?_
 .unfold isInstance
  repeat (first|with_reducible refine L0.at ?_|with_reducible refine a.at ?_|wp_step)
  exact e
theorem DD(X:K.In h)(k:we K C)(hx:h.get? ea=some o)(a:o.cls= .ref C)(c:Q (some (.ref C)) #[h,g,d,t+1,os]):
  wpAny (model prog w) A (getAttr? (.ref ea) Uq) Q E #[h,g,d,t,os]:=by
 have L0:=rG (M:=model prog w) hx a;have L1:=QI (M:=model prog w) X k.ga;have L2:=QI (M:=model prog w) X k.gt;have b:=F.attr_ValueError.ga.bind (.ref ea);unfold getAttr? getAttrBy? getAttrBy;refine NU (wpAny_mkText (NU (Rj (O4 (NU (L0.at (NU (L1.at ?_))))))));show wpAny _ _ (getAttrByItsOwn (.ref ea) _ (.ref C) (.builtin Tr) false false) _ _ _;unfold getAttrByItsOwn hookBefore;refine NU (L2.at (NU (Rj (O4 ?_))));show wpAny _ _ (boundAndCalled (.builtin Tr) (.ref ea) _) _ _ _;unfold boundAndCalled;rw[b];refine NU (N0 ?_);refine QZ (QK F.attr_ValueError.ga.plain F.entry_bexc_ga (DE X k hx a (DC X k hx a ?_)))
 repeat (any_goals (first|assumption|wp_step))
theorem FY(k:we K C):PySem.W.KitX K (.ref ea) (.ref C) (λh=>∃o,h.get? ea=some o/\o.cls= .ref C) where
 ty:=λ_ _ _ ⟨_,hx,b⟩=>rG hx b
 it:=λ_ _ X _=>by
  obtain⟨f,a,_⟩:=QP k.hd;unfold clsIn at a;split at a
  .rename_i r d' u y c;intro m p E' s' k q;unfold isType loadHead;exact NU (Sa (k _ _ (X _ _ c)) (N0 q))
  .cases a
 ne:=λh l dd v n x X i=>by
  obtain⟨f,a,_⟩:=QP k.hd;refine SD.mpr λq=> ?_;have e:C=l:=Value.ref.inj (Qd.mp q);subst e;unfold clsIn at a;split at a
  .rename_i c;have:=X _ _ c;rw[i]at this;cases this
  .cases a
 ca:=λ{prog w A E Q s} X ⟨_,hx,b⟩ j=>by obtain⟨h,g,d,t,os⟩:=s;exact DD X k hx b j
end
inductive TyX(K:Frag)(H:Hp):V->Value->Prop where
 |non:TyX K H .non (.type "NoneType")
 |bl (x:Bool):TyX K H (.bl x) (.type "bool")
 |int (i:Int):TyX K H (.int i) (.type "int")
 |str (x:Str):TyX K H (.str x) (.type "str")
 |exc {a C:Addr} (e:H a=some (jQ a (.ref C))) (k:we K C):TyX K H (.ref a) (.ref C)
section
variable{X:Cx}{pins:js}{σ:St}{H:Hp}{s:tr}{K:Frag}
theorem AN(I:Inv X pins σ H s)(b:bo x u)(ty:TyX X.K H x t):∃P:Heap->Prop,PySem.W.KitX X.K u t P/\P s.heap/\u≠ .builtin "__main__.__loader__#opaque":=by
 cases ty with
 |non=>cases (show u=Value.none from b);show#[_,PySem.W.kitx_none,Og,λz=>nomatch z]
 |bl y=>cases (show u=Value.bool y from b);show#[_,PySem.W.kitx_bool,Og,λz=>nomatch z]
 |int i=>obtain⟨t,q⟩:=(show∃t,u=Value.int i t from b);cases q;show#[_,PySem.W.kitx_int,Og,λz=>nomatch z]
 |str y=>obtain⟨t,q⟩:=(show∃t,u=Value.str y t from b);cases q;show#[_,PySem.W.kitx_str,Og,λz=>nomatch z]
 | @exc a C e k=>
  cases (show u=Value.ref a from b);obtain⟨⟨o,c,d,_⟩,_⟩:=I.hok a _ e;show#[_,FY k,#[o,c,d],λz=>nomatch z]
def MV(K:Frag):List V->Hp->VK->Prop:=λxs H Q=>∃x n t b,xs=[x, .ty n]/\TyX K H x t/\kitOne K t (.type n)=some b/\Q (.bl b) H
def MT(K:Frag):List V->Hp->VK->Prop:=λxs H Q=>∃x C t b,xs=[x, .ref C]/\TyX K H x t/\kitOne K t (.ref C)=some b/\Q (.bl b) H
theorem GK:bz X (.builtin TK) (MV X.K):=by intro pins s σ H vs us Q I d h;obtain⟨x,n,t,b,rfl,ty,e,q⟩:=h;obtain⟨u,w,rfl,c,f⟩:=d.two;cases (show w=Value.type n from f);obtain⟨P,Z,p,a⟩:=AN I c ty;exact Pf Z I.kIn p e a λg=>#[.bl b,H,I.tok g,2,q]
theorem GJ:bz X (.builtin TK) (MT X.K):=by intro pins s σ H vs us Q I d h;obtain⟨x,C,t,b,rfl,ty,e,q⟩:=h;obtain⟨u,w,rfl,c,f⟩:=d.two;cases (show w=Value.ref C from f);obtain⟨P,Z,p,a⟩:=AN I c ty;exact Pf Z I.kIn p e a λg=>#[.bl b,H,I.tok g,2,q]
theorem DU(h:X.K=K):bz X (.builtin TK) (MV K):=by subst h;exact GK
theorem ib(h:X.K=K):bz X (.builtin TK) (MT K):=by subst h;exact GJ
end
theorem pA{env a:Env}(h:env.frame=a.frame):noteFrame e env=noteFrame e a:=by unfold noteFrame PySem.frameOf;rw[h]
def sf(B:Heap)(l:ti)(a:Addr)(cls a0 b:Value)(h:Heap):Prop:=B.StaysIn h/\B.get? a=none/\h.FunFrames B l/\h.TracedAtW B a cls a0 b
section
variable{M:Model}{A:vr}{E:f6}{s:tr}
theorem Af{env:Env}(v:A.frames=some (env::outer))(g:env.frame=some L)(w:sf B (env::outer) ea cls a0 i s.heap)(l:∀h',Heap.FlyingW B outer ea cls a0 h'->s.heap.UpToSlots h'->Q Unit.unit {s with heap:=h'}):wpAny M A (leaving env (.ref ea)) Q E s:=by
 obtain⟨f1,f2,h,d⟩:=w;by_cases p:i=rawInt L
 .subst p;unfold leaving;refine NU (wpAny_noteFrame_againW g d ?_);refine SW (L:=L) #[f1,f2,h,d] λh' x1 x2=> ?_;obtain⟨k1,k2,⟨_,_,k3⟩,y⟩:=x1;exact l h' #[k1,k2,k3,y] x2
 .obtain⟨oe,vs,T,G,ts,n,⟨u,h0⟩,m,j,x,t,hT,f,k⟩:=d;subst u;unfold leaving noteFrame;simp only[g];refine NU (NU (QN n m j ?_));rw[NZ (show(Value.ref T !=Value.none)=true from by simp)];refine NU (QN hT f k ?_);rw[NW (show¬((i==rawInt L)=true)from λz=>p #[5,z])];refine NU (P2 hT f (Qe.mp k).1 ?_);have c:∀b,b≠T->(s.heap.update T (Obj.mapFields (·.setIfInBounds 3 Value.none))).get? b=s.heap.get? b:=λb hb=>Oy _ _ (Pj hb);have r:∀b o,s.heap.get? b=some o->(∀vs,o.data≠ .fields vs)->b≠T:=λb o hb a q=>by rw[q,hT]at hb;injection hb with hb;subst hb;exact a ts f
  refine wpAny_newEntryW v (h.of_keeps λb o hb a=>#[o,(c b (r b o hb a)).trans hb,2]) g ((c ea (Pj t)).trans n)
   (λb o e=>(c b λq=>by rw[q,x]at e;cases e).trans (f1 b o e)) f2 m (Qe.mp j).1 h0
   λh' ⟨x1,⟨_,_,x2⟩,x3,x4⟩=>l h' #[x1,f2,x2,x3] λb o hb a=>x4 b o ((c b (r b o hb a)).trans hb) a
theorem zK(y:sf B l a cls a0 fl s.heap)(w:∀h' u,sf B l a cls a0 u h'->s.heap.UpToSlots h'->E (.ref a) {s with heap:=h'}):wpAny M A (PySem.passOn what (.ref a) g:Sem Value) (λ_ _=>False) E s:=by
 obtain⟨f1,f2,t,oe,vs,T,z,ts,k,x,j,h,n,m,hT,d,v⟩:=y;unfold PySem.passOn;refine NU (QN k j h ?_);rw[NW (show¬((Value.ref T==Value.none)=true)from by simp)];have p:3<ts.size:=(Qe.mp v).1;have step:wpAny M A (do setFlight (.ref a) g.frame;throw (.ref a):Sem Value) (λ_ _=>False) E s:=by
  unfold setFlight;refine NU (NU (QN k j h ?_));rw[NZ (show(Value.ref T !=Value.none)=true from by simp)];have e:∀b,b≠T->(s.heap.update T (Obj.mapFields (·.setIfInBounds 3 (g.frame.elim Value.none λf=>rawInt f)))).get? b=s.heap.get? b:=λb hb=>Oy _ _ (Pj hb);have r:∀b o,s.heap.get? b=some o->(∀vs,o.data≠ .fields vs)->b≠T:=λb o hb c q=>by rw[q,hT]at hb;injection hb with hb;subst hb;exact c ts d
  refine P2 hT d p (wpAny_throw (w _ (g.frame.elim Value.none λf=>rawInt f) #[λb o i=>(e b λq=>by rw[q,n]at i;cases i).trans (f1 b o i),f2,
   t.of_keeps λb o hb c=>#[o,(e b (r b o hb c)).trans hb,2],6] λb o hb c=>#[o.slots,(e b (r b o hb c)).trans hb]))
  show#[oe,vs,T,11,(e a (Pj m)).trans k,x,j,h,n,m,OC _ hT (Qk (O7 d _)),O7 d _,by simp[p]]
 first
  |exact step
  |exact NU (N0 step)
end
def Outs(X:Cx)(E:XK):Prop:=X.Ok->∀(a:Addr)(cls:Value)(H':Hp)(s':tr)(B:Heap)(a0 c:Value),s'.os=X.s₀.os->AllBare s'.gens->sf B X.stack a cls a0 c s'.heap->
 (∀b o,X.s₀.heap.get? b=some o->X.H₀ b=none->b∉X.fs->B.get? b=some o)->(∀b o,X.s₀.heap.get? b=some o->b∉X.fs->∃d,B.get? b=some d)->HOk X.prog X.w H' B->
 (∀b o,X.s₀.heap.get? b=some o->b∈X.fs->∃e,s'.heap.get? b=some {o with slots:=e})->(∀b o,X.s₀.heap.get? b=some o->X.H₀ b=none->H' b=none)->(∀b xs,X.H₀ b=some (.tup xs)->H' b=some (.tup xs))->
 (∀b o u,X.H₀ b=some (.frz o u)->H' b=some (.frz o u))->(∀b ps,X.H₀ b=some (.tbl ps)->∃more,H' b=some (.tbl (ps++more)))->X.s₀.heap.get? a=none->E cls (some a) H'->X.xe (.ref a) s'
theorem jW{K:Frag}{f:Addr}{a:Value}{A:vr}{d:ti}{s:tr}{H:Hp}{E:XK}:
  Outs (cJ (CXe P w) P w K mg base N qual scope f a A d s H E) E:=by
 intro J c cls H' s' B a0 y os bare i keep there p slot free x m v new q;show wpAny (model P w) (A.deeper (envOfC qual scope s.heap.objs.size f a)) (leaving (envOfC qual scope s.heap.objs.size f a) (.ref c)) (λ_ g=>CXe P w d H s E (.ref c) g) (λj g=>CXe P w d H s E j g) s';refine Af J.frames rfl i λz x1 x2=> ?_;show#[c,cls,H',2,#[os,bare,#[B,a0,x1,keep,there,p],λb o e hb=> ?_,free,x,m,v,new],q];obtain⟨_,t,n,r⟩:=J.funs.mem hb;have h:s.heap.get? b=some t:=n;rw[e]at h;cases h;obtain⟨G,k⟩:=slot b o e hb;obtain⟨u,l⟩:=x2 b _ k r;show#[u,l]
theorem ky{B c h h':Heap}(d:∀b,B.get? b=none->c.get? b=none):∀ {l:ti},(∀b∈frs l,b≠C)->Heap.SameBut C h h'->h.FunFrames B l->h'.FunFrames c l
 | [],_,_,_=>trivial
 |env::r,e,f,⟨j,⟨L,o,a,m,n,i⟩,p⟩=>by
  have k:∀b∈frs r,b∈frs (env::r):=λb hb=>by unfold frs at hb⊢;rw[P8,a];exact N4 _ hb
  have g:L∈frs (env::r):=by unfold frs;rw[P8,a];exact N8
  show#[j,#[L,o,a,d L m,(f.2 L (e L g)).trans n,i],ky d (λb hb=>e b (k b hb)) f p]
def rH(X d:Cx)(E:XK):Value->Shared->Prop:=λe s'=>∃(pins':js) (f:St) (b:Hp) (c:tr) (a:Addr) (cls:Value) (H':Hp),e= .ref a/\Inv d pins' f b c/\Fly X.prog X.w X.stack b c a cls H' s'/\E cls (some a) H'
section
variable{X:Cx}{elt target iter:Expr}{ifs:q7}{sc:Scope}{pos:Pos}{wi:TI}{g:TG}{tc:TT}{te:TE}{vars frn:r9}{fr:sk}
theorem aE{x:Str}{ps:r9}{j k:Nat}{sp:Sp}{e:Expr}{es:q7}{t:TA}{p pos:Pos}{E:XK}(C:HI X.prog X.w X.K X.mg X.base j x ps sp)(o:Room k X.A)(i:j<=k)(h:Gl X x)(l:dF (CXe X.prog X.w) X E)(a:PA X (e::es) t)(c:(x==(Tq:Str))=false:=by decide)(d:starEach (e::es) X.env=(false,eval e X.env)::starEach es X.env:=by rfl)(n:(backTo pos (starEach es X.env)).any (·.1)=false:=by rfl):PE X (.Call (.Name x p) (e::es) [] pos) (wC sp [] E t):=by
 obtain⟨f,r,F,m,q,b⟩:=C.ex;exact vf F (o.mono i) h m q b .nil l a c d n
end
end L2
namespace Bh
def br(c:Nat):List Nat->List (List Nat)
 | []=>[[]]
 |d::r=>if d=c then []::br c r else match br c r with
  |p::q=>(d::p)::q
  | []=>[[d]]
theorem mO(c:Nat):∀L:List Nat,∃p q,br c L=p::q
 | []=>#[17]
 |d::r=>by
  obtain⟨p,q,e⟩:=mO c r;rw[br];split
  .show#[17]
  .rw[e];show#[17]
def ku(c:Nat):List (List Nat)->List Nat
 | []=>[]
 | [p]=>p
 |p::q::r=>p++c::ku c (q::r)
theorem gq(h:d≠c)(L p:sk)(q:List (List Nat))(e:br c L=p::q):br c (d::L)=(d::p)::q:=by rw[br,NW h,e]
theorem kG:∀(p L:sk),c∉p->∀a b,br c L=a::b->br c (p++L)=(p++a)::b
 | [],L,_,a,b,e=>e
 |d::p,L,h,a,b,e=>by have f:d≠c:=λz=>h (by rw[z];exact N8);exact gq f _ _ _ (kG p L (λz=>h (N4 _ z)) a b e)
theorem je:∀(ps:List (List Nat)),ps≠[]->(∀p∈ps,c∉p)->br c (ku c ps)=ps
 | [],h,_=>absurd rfl h
 | [p],_,h=>by have:=kG p [] (h p N8) [] [] rfl;rwa[OP]at this
 |p::q::r,_,h=>by
  have a:=je (q::r) #[5] λx hx=>h x (N4 _ hx);have e:br c (c::ku c (q::r))=[]::(q::r):=by rw[br,NZ rfl,a]
  have:=kG p (c::ku c (q::r)) (h p N8) _ _ e;rwa[OP]at this
end Bh
namespace L2
open PySem PySem.Spec PySem.Builtin PySem.Builtin.Str PyProof.Rows
section
variable{X:Cx}
theorem pS:∀l:List (PySem.Str×Tok),Vals ((l.map (·.1)).map V.str) (strValues l)
 | []=> .nil
 |p::r=> .cons #[p.2,2] (pS r)
def Lc:V->List V->Hp->VK->Prop:=λx vs H Q=>∃z a:PySem.Str,x= .str z/\vs=[.str a]/\(a.length==0)=false/\z.length+2<=sizeLine/\∀p,H p=none->Q (.ref p) (upd H p (.lst ((Txt.split z a).map V.str)))
theorem rh:MtR X "str.split" Lc:=by
 intro g s m H x0 vs v us Q I j i h;obtain⟨x,y,rfl,rfl,d,hsz,q⟩:=h;obtain⟨t,rfl⟩:=j;obtain⟨o,rfl,u,rfl⟩:=i.one;have c:∀(l:List (PySem.Str×Tok)) (k:Nat),l.map (·.1)=Txt.split x y->EP X g m Q (.ref s.heap.objs.size) {s with heap:=s.heap.push {cls:= .type Ts,data:= .seq (strValues l).toArray},toks:=k}:=λl k e=>by have r:=pS l;rw[e]at r;show#[.ref _,_,I.lnew (t':=k) r ?_,2,q _ I.fresh];rw[My];exact NV (split_le x y) hsz
 have f:(partsBetween x (occurrences x y 0 x.length (x.length+1)) y.length).length<=sizeLine:=by have n:=StrLaws.occ_length_le x y 0 x.length (x.length+1);rw[length_partsBetween];lia
 cases a:(decide (x.length<y.length)||decide (strKind x<strKind y))
 .cases b:(occurrences x y 0 x.length (x.length+1)).isEmpty
  .refine RZ SX (RA _ _ _) SE (Sl _ _) (meets_str_split_sep x y t u a d b () f) ?_;show wants _ _ _ {s with toks:=_,heap:=s.heap.push {cls:= .type Ts,data:= .seq (strsFrom s.toks (partsBetween x (occurrences x y 0 x.length (x.length+1)) y.length)).toArray}};rw[strsFrom_eq];exact c (numbered s.toks _) _ ((numbered_texts _ _).trans ((NW (R9 a)).trans (NW (R9 b))).symm)
  .exact RZ SX (RA _ _ _) SE (Sl _ _) (meets_str_split_not_found x y t u a d b)
    (c [(x,t)] s.toks ((NW (R9 a)).trans (NZ b)).symm)
 .exact RZ SX (RA _ _ _) SE (Sl _ _) (meets_str_split_cannot_occur x y t u a)
   (c [(x,t)] s.toks (NZ a).symm)
end
theorem hW{K:Frag}{xs:List V}{fr:sk}{p:St}{Q:VK}(G:V->Prop)(f:V->V)(n:SqL K H a xs)(B:xs.length<=sizeLine)(J:∀(i:Nat)(x:V)(vs:St)(H':Hp)(R:V->St->Hp->Prop)(S:St->Hp->Prop),xs[i]?=some x->vs.length=nv->Same H H'->
   (G x->∀d c,d.length=nv->Same H' c->R (f x) (d++fr.map λj=>(p[j]?).join) c)->
   g x (vs++fr.map λj=>(p[j]?).join) H' λl t=>tc l t λb r=>if b=true then te l r λy u=>R y l u else S l r)(w:∀D H',H D=none->Same H H'->H' D=some (.lst (xs.map f))->(∀x∈xs,G x)->Q (.ref D) H'):LCW (Itl K a) g tc te nv fr p H Q:=by
 refine vF xs.length B (λi x H' m=>H'=m/\xs[i]?=some x) (λi H' h s=>#[xs,xs[i],s.seq n,by simp[h]]) (λi H' x m _ s y=>by obtain⟨e,h⟩:=y;subst e;show#[Same.refl _,2,h xs (s.seq n)]) (λH' s=>#[xs,s.seq n,N3 _]) (λ_ i _ k=>k=(xs.take i).map f/\∀x∈xs.take i,G x) (λ_ _=>#[2,λx h=>nomatch h]) (λ_ i _ k e=>by rw[e.1,My,Ow];lia) (λD i x vs H' m k R S _ h L o _ _ e N _=> ?_) λD H' k v o hz e=>by rw[OV]at e;exact w D H' v o (e.1▸hz) e.2
 obtain⟨rfl,h⟩:=h;refine J i x vs H' R S h L o λA d c M s=>N _ d c M s ?_;rw[Pk,h,e.1];show#[by rw[O1];rfl,λz hz=>(OS.mp hz).elim (e.2 z) λq=>by rw[Oj.mp q];exact A]
end L2
namespace Bh
open PySem
theorem rq(c:Nat):∀ps:List Str,(Str.join #[#v[c]] ps).cps.toList=ku c (ps.map (·.cps.toList))
 | []=>rfl
 | [p]=>rfl
 |p::q::r=>by show((p++(#[#v[c]]:Str))++Str.join #[#v[c]] (q::r)).cps.toList=_;rw[OH,OH,rq c (q::r),List.append_assoc];rfl
theorem Co(c:Nat)(z:Str):(Txt.split z #[#v[c]]).map (·.cps.toList)=br c z.cps.toList:=by
 have e:=OL (λy:Str=>br c y.cps.toList) (StrLaws.join_split z #[#v[c]]);have a:br c (Str.join #[#v[c]] (Txt.split z #[#v[c]])).cps.toList=br c z.cps.toList:=e;rw[<-a,rq,je]
 .intro h;have:=RH z #[#v[c]];rw[QU.mp h]at this;exact absurd this ∅
 .intro p b;obtain⟨y,d,rfl⟩:=Of.mp b;exact StrLaws.split_free z c y d
end Bh
namespace L2
open PySem PySem.Spec PyProof.Rows
structure yu(K:Frag)(m qual:Str)(st:Stmt)(ps:r9)(f:Addr):Prop where
 ex:∃fd:FuncData,Fun K m qual st f fd/\cx K fd ps []
theorem FH{K:Frag}{st:Stmt}{ps:r9}{kV e g a d:Value}(l:K.lookup f=some #[oc,od, .func (fnOf m qual (bW st) (aH st) (av st) .none kV e g an a d),osl])(c:codeIn K a qual=true)(k:keepIn K (.ref f)=true)(b:∀(kV e g:Value)(an:px)(a d:Value)(us:qR),us.length=ps.length->bindArgs (fnOf m qual (bW st) (aH st) (av st) .none kV e g an a d) #[us,[]]=pure (ps.zip us)):yu K m qual st ps f:=
 #[_,rF (st:=st) l c k,(rF (st:=st) l c k).binds b]
structure dg(P:tj)(w:vu)(K:Frag)(mg:i2)(base:Heap)(k:Nat)(f:Addr)(ps:r9)(sp:Sp):Prop where
 ex:∃fd:FuncData,c5 P w K mg base CX0 k f fd ps sp/\cx K fd ps []
 kp:keepIn K (.ref f)=true
structure nW(P:tj)(w:vu)(K:Frag)(mg:i2)(base:Heap)(k:Nat)(C:Addr)(m:Str)(ps:r9)(sp:Sp):Prop where
 cl:Cls K C
 ex:∃f,Meth K C m f/\dg P w K mg base k f ps sp
structure mJ(P:tj)(w:vu)(K:Frag)(mg:i2)(base:Heap)(k:Nat)(x:Str)(C:Addr)(ps:r9)(sp:Sp):Prop where
 ex:∃f,Mk K C f/\dg P w K mg base k f ps sp
 g:mg x=some (.ref C)
structure NA(P:tj)(w:vu)(K:Frag)(mg:i2)(base:Heap)(k:Nat)(C:Addr)(m:Str)(ps:r9)(sp:Sp):Prop where
 ex:∃f,dg P w K mg base k f ps sp/\findCls K (.ref C) (.type "type") m=some (.val (.ref f))
 ga:specialIn K (.ref C) TV=some (some (.builtin "type.__getattribute__"))
 rd:readsIn K C (.type "type")=true
section
variable{P:tj}{w:vu}{K:Frag}{mg:i2}{base:Heap}
theorem yu.fn{m a:Str}{st:Stmt}{N ps:r9}{k:Nat}{sp:Sp}{f:Addr}(D:yu K m a st ps f)(S:bZ N ps (av st))(e:∀(c:Value)(A:vr)(g:ti)(s:tr)(H:Hp)(vs:List V)(Q:VK)(E:XK),Room k (A.deeper (envOfC a (av st) s.heap.objs.size f c))->sp vs H Q E->
   ∃t,PSs (cJ CX0 P w K mg base N a (av st) f c A g s H E).nox (aH st) t/\t {nx:=λ_ H'=>Q .non H',rt:=Q} (start N vs) H)(len:∀vs H Q E,sp vs H Q E->vs.length=ps.length:=by intro _ _ _ _ h;cases h;subst_vars;rfl):dg P w K mg base (k+1) f ps sp:=by
 obtain⟨d,F,b⟩:=D.ex;show#[#[d,F.ok S (len:=len) e,b],F.kp]
theorem dg.mono(C:dg P w K mg base j f ps sp)(h:j<=k):dg P w K mg base k f ps sp:=by obtain⟨⟨a,F,b⟩,c⟩:=C;show#[#[a,F.mono h,b],c]
end
inductive RdM(Dom:Addr->Prop)(m:Str)(spf:Addr->Sp)(t:TA)(σ:St)(Q:VK)(x:V)(H:Hp):Prop
 |mk(a C dx:Addr) (fs:List (Str×V)) (e:x= .ref a) (h:H a=some (.ins C dx fs)) (d:Dom C) (l:fs.lookup m=none) (q:t σ H λvs H2=>spf C (x::vs) H2 Q E0):RdM Dom m spf t σ Q x H
def Ep(b:Addr->Prop)(m:Str)(c:Addr->Sp)(d:TE)(t:TA):TE:=λa H Q=>d a H (RdM b m c t a Q)
def Mx(C:Addr)(sp:Sp)(d:TE)(t:TA):TE:=λa H Q=>d a H λx b=>x= .ref C/\t a b λvs c=>sp vs c Q E0
section
variable{X:Cx}{j k:Nat}{C:Addr}{x m:Str}{ps:r9}{sp:Sp}{Dom:Addr->Prop}{spf:Addr->Sp}{e o:Expr}{es:q7}{ta:TE}{t:TA}{p pos apos:Pos}
theorem vg{pl:Sem Bool}(M:∀C,Dom C->nW X.prog X.w X.K X.mg X.base j C m ps (spf C))(U:Room k X.A)(L:j<=k)(J:PE X o ta)(G:PA X (e::es) t)(ab:starEach (e::es) X.env=(false,eval e X.env)::starEach es X.env:=by rfl)(N:(backTo pos (starEach es X.env)).any (·.1)=false:=by rfl)(ht:eval (.Call (.Attribute o m apos) (e::es) [] pos) X.env=(do
   let i<-eval o X.env
   standAt apos.atName
   let(f,first)<-holding [i] (getMethod i m pl)
   callWith pos f first (backTo pos (starEach (e::es) X.env)) (backToKw pos (keywordEach [] X.env))):=by rfl):
  PE X (.Call (.Attribute o m apos) (e::es) [] pos) (Ep Dom m spf ta t):=by
 intro n s v H Q I h;refine Qj (pl:=pl) (thn (J n s v H _ I h) λu s1 O=> ?_) ht;obtain⟨x,y,b,rx,a,C,dx,fs,ex,B,z,l,q⟩:=O;subst ex;obtain rfl:u=Value.ref a:=rx;obtain⟨c,f,g,⟨fd,F,hb⟩,kp⟩:=M C z;refine iS b B c g l ?_;refine PY (first:=[.ref a]) (h₀:=X.base) I.ok.mod.kin g.kp (thn (G pos n s1 v y _ b q) λus s2 ⟨vs,H2,d,r,q2⟩=>#[d.kIn,6]) ab N;exact mY (us:= .ref a::us) (vs:= .ref a::vs) (dvs:=[]) F (U.mono L) hb .nil tH d (.cons rfl r) (by rw[OP];exact q2)
theorem xb{pl:Sem Bool}(M:∀C,Dom C->nW X.prog X.w X.K X.mg X.base j C m ps (spf C))(z:Room k X.A)(v:j<=k)(r:PE X o ta)(B:eval (.Call (.Attribute o m apos) [] [] pos) X.env=(do
   let g<-eval o X.env
   standAt apos.atName
   let(f,first)<-holding [g] (getMethod g m pl)
   callWith pos f first (backTo pos (starEach [] X.env)) (backToKw pos (keywordEach [] X.env))):=by rfl):
  PE X (.Call (.Attribute o m apos) [] [] pos) (Ep Dom m spf ta wB):=by
 intro G s L H Q I h;refine Qj (pl:=pl) (thn (r G s L H _ I h) λu s1 y=> ?_) B;obtain⟨x,N,b,J,a,C,O,fs,ex,n,i,l,q⟩:=y;subst ex;obtain rfl:u=Value.ref a:=J;obtain⟨c,f,d,⟨U,F,hb⟩,kp⟩:=M C i;refine iS b n c d l ?_;exact PySem.W.callWith_K0 (first:=[.ref a]) b.kIn d.kp (mY (us:=[.ref a]) (vs:=[.ref a]) (dvs:=[]) F (z.mono v) hb .nil tH b (.cons rfl .nil) q)
theorem jA(M:mJ X.prog X.w X.K X.mg X.base j x C ps sp)(n:Room k X.A)(i:j+1<=k)(h:Gl X x)(a:PA X (e::es) t)(c:(x==(Tq:Str))=false:=by decide)(d:starEach (e::es) X.env=(false,eval e X.env)::starEach es X.env:=by rfl)(l:(backTo pos (starEach es X.env)).any (·.1)=false:=by rfl):PE X (.Call (.Name x p) (e::es) [] pos) (AO C sp [] E0 t):=by
 obtain⟨⟨f,mk,⟨q,F,b⟩,r⟩,g⟩:=M;exact IU mk F (n.mono i) h g b .nil tH a c d l
theorem pK{pl:Sem Bool}(M:NA X.prog X.w X.K X.mg X.base j C m ps sp)(J:Room k X.A)(B:j<=k)(y:PE X o ta)(v:PA X (e::es) t)(L:starEach (e::es) X.env=(false,eval e X.env)::starEach es X.env:=by rfl)(G:(backTo pos (starEach es X.env)).any (·.1)=false:=by rfl)(N:eval (.Call (.Attribute o m apos) (e::es) [] pos) X.env=(do
   let c<-eval o X.env
   standAt apos.atName
   let(f,first)<-holding [c] (getMethod c m pl)
   callWith pos f first (backTo pos (starEach (e::es) X.env)) (backToKw pos (keywordEach [] X.env))):=by rfl):
  PE X (.Call (.Attribute o m apos) (e::es) [] pos) (Mx C sp ta t):=by
 intro d s g H Q I h;refine Qj (pl:=pl) (thn (y d s g H _ I h) λu s1 ⟨x,i,a,rx,ex,q⟩=> ?_) N;subst ex;obtain rfl:u=Value.ref C:=rx;obtain⟨⟨f,⟨⟨fd,F,hb⟩,O⟩,z⟩,n,rd⟩:=M;refine PySem.W.method_cls a.kIn n (PySem.W.cls_value a.kIn rd z rfl ?_);have l:=a.tok (s1.toks+1);refine PY (first:=[]) (h₀:=X.base) I.ok.mod.kin O (thn (v pos d _ g i _ l q) λus s2 ⟨vs,H2,b,r,U⟩=>#[b.kIn,6]) L G;exact mY (us:=us) (vs:=vs) (dvs:=[]) F (J.mono B) hb .nil tH b r (by rw[OP];exact U)
variable{K:Frag}{f:Str}{value:Expr}{tv:TE}{pos':Pos}
theorem IW(h:X.K=K)(a:PE X e ta)(hb:attributeBase e f X.env (eval e X.env)=eval e X.env):PE X (.Attribute e f pos) (KO K ta f):=by subst h;exact Lx a hb
theorem II(h:X.K=K)(a:PE X o ta)(c:PE X value tv)(b:swapsWith value (some (.Attribute o f pos')) pos.line X.env=pure false):PS X (.Assign [.Attribute o f pos'] value pos) (La K ta tv f):=by subst h;exact Lm a c b
def Kh(K:Frag):List V->Hp->VK->Prop:=λxs H Q=>∃(a:Addr)(ns:sv),xs=[.ref a]/\SqL K H a (ns.map V.int)/\ns≠[]/\∀m∈ns,(∀z∈ns,z<=m)->Q (.int m) H
theorem DS(r:X.calm=true):bz X (.builtin "max") (Kh X.K):=by
 intro O s σ H vs us Q I L h;obtain⟨a,ns,rfl,n,A,q⟩:=h;obtain⟨u,rfl,J⟩:=L.one;cases J;obtain⟨is,G,p1,_⟩:=I.list n;have d:=iR G;obtain⟨xs,ex⟩:=d.allInts.items;have hl:=p1.isList;rw[ex]at hl;have c:numsOf (intItems xs).toList=ns:=by rw[<-ex];exact d.numsOf
 rw[nums_intItems]at c;have hsz:xs.size=ns.length:=by rw[<-c];simp
 have N:0<ns.length:=by
  cases ns with
  |nil=>exact absurd rfl A
  |cons _ _=>simp
 have g:∀i,i<ns.length->ns[i]?=some (numAt xs i):=λi b=>by
  unfold numAt;rw[<-c,Ot,Pu];have:i<xs.size:=()
  rw[OY this];rfl
 refine max_intList (I.ok.hd r) hl () λv h' U B y=> ?_;obtain⟨t,rfl⟩:=intItems_at B;obtain⟨M,l⟩:=argBest_gt (numAt xs) (xs.size-1);show#[.int (numAt xs (argBest (λi j=>decide (numAt xs i>numAt xs j)) (xs.size-1))),H,I.kept y,#[7],q _ ?_ λz hz=> ?_]
 .exact N5 (g _ ())
 .obtain⟨i,b⟩:=Pq hz;have w:i<ns.length:=(Oc.mp b).1;rw[g i w]at b;cases b;exact l i ()
theorem rR(h:X.K=K)(a:X.calm=true):bz X (.builtin "max") (Kh K):=by subst h;exact DS a
variable{a b:Expr}{rest:q7}{tb:TE}
end
theorem Jx{K:Frag}{xs:List V}{fr:sk}{c:St}{Q:VK}(p:V->Bool)(f:V->V)(n:H a=some (.tup xs))(z:xs.length<=sizeLine)(A:∀(i:Nat)(x:V)(vs:St)(H':Hp)(R:V->St->Hp->Prop)(S:St->Hp->Prop),xs[i]?=some x->vs.length=nv->Same H H'->
   (∀q l,q.length=nv->Same H' l->if p x=true then R (f x) (q++fr.map λj=>(c[j]?).join) l else S (q++fr.map λj=>(c[j]?).join) l)->
   g x (vs++fr.map λj=>(c[j]?).join) H' λd t=>tc d t λb r=>if b=true then te d r λy u=>R y d u else S d r)(w:∀D H',H D=none->Same H H'->H' D=some (.lst (d5 p f xs))->Q (.ref D) H'):LCW (Itt K a) g tc te nv fr c H Q:=by
 refine xK xs.length z (λi x H' m=>H'=m/\xs[i]?=some x) (λi H' h s=>#[xs,xs[i],SqT.of (s.at n),by simp[h]]) (λi H' x m _ s y=>by obtain⟨e,h⟩:=y;subst e;show#[Same.refl _,2,h xs (SqT.of (s.at n))]) (λH' s=>#[xs,SqT.of (s.at n),N3 _]) (λi=>d5 p f (xs.take i)) (λ_ x=>p x) (λ_ x=>f x) rfl (λi=>NV (tJ p f _) (by rw[Ow];lia)) (λi x _ _ _ h=>qM p f xs i x h.2) (λi x vs H' m R S _ h B o _ k=> ?_) λD H' v o hz=>w D H' v o (by rw[hz,OV]);obtain⟨rfl,h⟩:=h;exact A i x vs H' R S h B o k
theorem aJ(f:Str)(v:V)(fs:List (Str×V)):(aW f v fs).lookup f=some v:=by rw[eO,NZ rfl]
theorem aA(v:V)(fs:List (Str×V))(h:¬g=f):(aW f v fs).lookup g=fs.lookup g:=by rw[eO,NW h]
def Lb(K:Frag):List V->Hp->VK->Prop:=λxs H Q=>∃p a,xs=[.ref p]/\((SqL K H p a/\∀l,H l=none->Q (.ref l) (upd H l (.tup a)))\/(SqT K H p a/\Q (.ref p) H))
theorem dX{X:Cx}{K:Frag}(h:X.K=K):bz X (.type TN) (Lb K):=by subst h;exact sI
end L2
namespace L2
theorem aq(b:St->Hp->Prop)(hrest:∀a H',b a H'->u D a H')(h:(∀a H',b a H'->u D a H')->t {D with nx:=u D} σ H):KH t u D σ H:=h hrest
end L2
namespace L2
open PySem PySem.Spec PyProof.Rows
section
variable{X:Cx}{tg:Expr}
def ND(b:TA):TE:=λc H Q=>b c H λvs a=>∃j:Int,vs=[.int j]/\∀p,a p=none->Q (.ref p) (upd a p (.rng 0 j))
theorem Lu{a:Expr}{d:TA}{p pos:Pos}(g:Gl X Tx)(i:X.mg Tx=none)(f:PA X [a] d)(k:starEach [a] X.env=[(false,eval a X.env)]:=by rfl):PE X (.Call (.Name Tx p) [a] [] pos) (ND d):=by
 intro l s x H Q I h;refine Call_ (gM I g i boot_range (O6 (thn (f pos l s x H _ I h) λus v ⟨vs,y,c,n,m⟩=> ?_) k rfl));obtain⟨j,e,q⟩:=m;subst e;cases n with
 |cons r u=>
  cases u;obtain⟨t,rfl⟩:=r;refine call_range_1 ?_;show#[.ref v.heap.objs.size,_,c.laid (λb o e=>NY _ e) (N3 _) (show bx X.prog X.w _ _ _ (.rng 0 j)from#[111,Oi _ rfl]),2,q _ (c.hok.fresh (N3 _))]
end
end L2
namespace L2
open PySem PySem.Spec PySem.W PyProof.Rows
def jR(i j:Int):Prop:=Builtin.Int.intBits i+Builtin.Int.intBits j<=2^26
theorem jR.ok(h:jR i j):IntMulOk i j:=by
 unfold IntMulOk;have h':Builtin.Int.intTooBig ((Builtin.Int.intBits i:Int)+(Builtin.Int.intBits j:Int))=false:=by unfold Builtin.Int.intTooBig;have hb:bitsLine=2^27:=rfl;unfold jR at h;simp only[hb,Pl];lia
 simp[h']
theorem Bl:OpR X (binaryOp .Mult) (rI jR λi j=> .int (i*j)):=opI λ_ _ _ _ _ _ _ a q=>mul_int q a.ok
end L2
namespace L2
open PySem PySem.Spec PyProof.Rows
theorem CC(bs:List Bool):(List.range bs.length).all (λi=>bs.getD i true)=bs.all id:=by
 rw[O8,O3,O3];constructor
 .intro h b hb;obtain⟨i,a⟩:=Pq hb;have c:i<bs.length:=(Oc.mp a).1;have:=h i (OQ.mpr c);rwa[OD,a]at this
 .intro h i a;have c:=OQ.mp a;rw[OD,Ob c];exact h _ (PD c)
theorem CB(bs:List Bool):(List.range bs.length).any (λi=>bs.getD i true)=bs.any id:=by
 rw[O8,QQ,QQ];constructor
 .rintro⟨i,a,h⟩;have c:=OQ.mp a;rw[OD,Ob c]at h;show#[_,PD c,h]
 .rintro⟨b,hb,h⟩;obtain⟨i,a⟩:=Pq hb;have c:i<bs.length:=(Oc.mp a).1;show#[i,OQ.mpr c,6];rw[OD,a];exact h
section
variable{X:Cx}
theorem oW{bs:List Bool}{a:qR}(r:Vals (bs.map V.bl) a):TruthOf prog w A (λi v=>a.toArray[i]?=some v) (λi=>bs.getD i true):=by
 intro i v s Q E d e;have c:a[i]?=some v:=#[5,d]
 have g:i<a.length:=(Oc.mp c).1;have hl:=r.length;rw[My]at hl;have hb:(bs.map V.bl)[i]?=some (V.bl (bs.getD i true)):=by rw[Ot,OD,Ob (show i<bs.length by lia)];rfl
 obtain⟨u,b,f⟩:=r.get hb;rw[c]at b;cases b;cases f;exact P6 e
def Kl(K:Frag):List V->Hp->VK->Prop:=λxs H Q=>∃(a:Addr)(bs:List Bool),xs=[.ref a]/\SqL K H a (bs.map V.bl)/\Q (.bl (bs.all id)) H
def Kk(K:Frag):List V->Hp->VK->Prop:=λxs H Q=>∃(a:Addr)(bs:List Bool),xs=[.ref a]/\SqL K H a (bs.map V.bl)/\Q (.bl (bs.any id)) H
theorem DX(f:X.calm=true):bz X (.builtin "all") (Kl X.K):=by
 intro m s o H vs us Q I l h;obtain⟨a,bs,rfl,d,q⟩:=h;obtain⟨u,rfl,k⟩:=l.one;cases k;obtain⟨b,c,p1,_⟩:=I.list d;have hl:=p1.isList;have j:a<s.heap.objs.size:=by obtain⟨_,e,_⟩:=hl;exact N6 e
 have len:=c.length;rw[My]at len;refine call_all_walk (Q4 hl #[s.heap.objs.size,[s.heap.objs.size,a],[s.heap.objs.size],b.toArray.size,11,λi=>bs.getD i true,2,Walks.list (A:=X.A.in1) (I.ok.hd f) _ a (Oe j) b.toArray,#[#[_,Oi _ rfl,22],hl.push _],oW c,λh' n g=> ?_]);show#[.bl (bs.all id),H,I.kept (old_kept g),6,q];rw[Oq,<-len,CC];rfl
theorem DW(f:X.calm=true):bz X (.builtin "any") (Kk X.K):=by
 intro m s o H vs us Q I l h;obtain⟨a,bs,rfl,d,q⟩:=h;obtain⟨u,rfl,k⟩:=l.one;cases k;obtain⟨b,c,p1,_⟩:=I.list d;have hl:=p1.isList;have j:a<s.heap.objs.size:=by obtain⟨_,e,_⟩:=hl;exact N6 e
 have len:=c.length;rw[My]at len;refine call_any_walk (Q4 hl #[s.heap.objs.size,[s.heap.objs.size,a],[s.heap.objs.size],b.toArray.size,11,λi=>bs.getD i true,2,Walks.list (A:=X.A.in1) (I.ok.hd f) _ a (Oe j) b.toArray,#[#[_,Oi _ rfl,22],hl.push _],oW c,λh' n g=> ?_]);show#[.bl (bs.any id),H,I.kept (old_kept g),6,q];rw[Oq,<-len,CB];rfl
theorem AA{K:Frag}(h:X.K=K)(a:X.calm=true):bz X (.builtin "all") (Kl K):=by subst h;exact DX a
theorem Az{K:Frag}(h:X.K=K)(a:X.calm=true):bz X (.builtin "any") (Kk K):=by subst h;exact DW a
end
end L2
namespace Bh
theorem IK(h:n<=8):2^n<=256:=OG (n:=2) () h
abbrev sz(n:Nat):Nat:=(bits n).length
def qB(ms:sv)(s:Nat):Nat:=ms.foldl (λr m=>max r (sz (s&&&m.toNat))) 0
theorem va:∀(ms:sv)(s r:Nat),r<=ms.foldl (λr (m:Int)=>max r (sz (s&&&m.toNat))) r/\(∀m∈ms,sz (s&&&m.toNat)<=ms.foldl (λr (m:Int)=>max r (sz (s&&&m.toNat))) r)/\
  (ms.foldl (λr (m:Int)=>max r (sz (s&&&m.toNat))) r=r\/∃m∈ms,sz (s&&&m.toNat)=ms.foldl (λr (m:Int)=>max r (sz (s&&&m.toNat))) r)
 | [],s,r=>#[N3 _,λm hm=>(by cases hm), .inl rfl]
 |x::ms,s,r=>by
  obtain⟨b,c,a⟩:=va ms s (max r (sz (s&&&x.toNat)));rw[Qn];show#[NV (Nat.le_max_left _ _) b,λm hm=> ?_,6]
  .rcases N1.mp hm with rfl|hm
   .exact NV (Nat.le_max_right _ _) b
   .exact c m hm
  .rcases a with a|⟨m,hm,e⟩
   .rw[a];rcases Nat.le_total r (sz (s&&&x.toNat))with h|h
    .rw[Nat.max_eq_right h];exact .inr #[x,N8,2]
    .rw[Nat.max_eq_left h];exact .inl rfl
   .exact .inr #[m,N4 _ hm,e]
theorem Be{m:Int}(h:m∈ms):sz (s&&&m.toNat)<=qB ms s:=(va ms s 0).2.1 m h
theorem IA(h:ms≠[]):∃m∈ms,sz (s&&&m.toNat)=qB ms s:=by
 rcases(va ms s 0).2.2 with e|e
 .cases ms with
  |nil=>exact absurd rfl h
  |cons m r=>
   have:=Be (s:=s) (m:=m) (ms:=m::r) N8;have a:qB (m::r) s=0:=e;show#[m,N8,9]
 .exact e
theorem Iz(h:ms≠[])(hb:∀m∈ms,sz (s&&&m.toNat)<=b):qB ms s<=b:=by obtain⟨m,a,e⟩:=IA (s:=s) h;rw[<-e];exact hb m a
theorem wZ(d:∃m∈ms,sz (s&&&m.toNat)=r)(f:∀m∈ms,sz (s&&&m.toNat)<=r):qB ms s=r:=by obtain⟨m,c,e⟩:=d;have a:=Be (s:=s) c;have b:=Iz (s:=s) (ms:=ms) (by rintro rfl;cases c) f;lia
theorem nh:∀n:Nat,n<9->Fd (2^n-1)=(List.range (2^n)).map λk:Nat=>(k:Int):=#[9]
theorem oY:∀(n x y:Nat),x<=n->(x&&&y)+(x^^^ (x&&&y))=x:=by
 intro n
 induction n with
 |zero=>
  intro x y h;have:x=0:=()
  subst this;simp
 |succ n f=>
  intro x y h;by_cases h0:x=0
  .subst h0;simp
  have i:=f (x/2) (y/2) ();rw[<-Nat.and_div_two,<-Nat.xor_div_two]at i;have c:(x&&&y) % 2=1↔x % 2=1/\y % 2=1:=Nat.and_mod_two_eq_one;have d:(x^^^ (x&&&y)) % 2=1↔¬((x % 2=1)↔((x&&&y) % 2=1)):=Nat.xor_mod_two_eq_one;by_cases hx:x % 2=1<;>by_cases e:y % 2=1
  .have a:=c.mpr #[hx,e];have b:¬(x^^^ (x&&&y)) % 2=1:=λz=>(d.mp z) #[λ_=>a,λ_=>hx];lia
  .have a:¬(x&&&y) % 2=1:=λz=>e (c.mp z).2;have b:=d.mpr λz=>a (z.mp hx);lia
  .have a:¬(x&&&y) % 2=1:=λz=>hx (c.mp z).1;have b:¬(x^^^ (x&&&y)) % 2=1:=λz=>(d.mp z) #[λq=>absurd q hx,λq=>absurd q a];lia
  .have a:¬(x&&&y) % 2=1:=λz=>hx (c.mp z).1;have b:¬(x^^^ (x&&&y)) % 2=1:=λz=>(d.mp z) #[λq=>absurd q hx,λq=>absurd q a];lia
def dj(s t:Nat):Nat:=s^^^ (s&&&t)
theorem Js(s t:Nat):(s||| (s&&&t)) - (s&&& (s&&&t))=dj s t:=by
 have h:=oY s s t (N3 _);have a:s||| (s&&&t)=s:=QJ λj=>by rw[Te,Qo];cases s.testBit j<;>simp
 have b:s&&& (s&&&t)=s&&&t:=QJ λj=>by rw[Qo,Qo];cases s.testBit j<;>simp
 rw[a,b];unfold dj;lia
theorem jZ(s t:Nat):dj s t<=s:=by have:=oY s s t (N3 _);unfold dj;lia
end Bh
namespace L2
open PySem PySem.Spec PyProof.Rows
theorem rQ:∀(b:f7) (n:Nat) (a:mm) {x:Str} {c:Addr},(x,c)∈cellsFrom n b a->(x,c)∈a\/n<=c
 | [],_,_,_,_,h=> .inl h
 |(name,kind)::r,n,a,x,c,h=>by
  unfold cellsFrom at h;split at h
  .rcases rQ r (n+1) _ h with h|h
   .rcases N1.mp h with e|h
    .cases e;exact .inr (N3 _)
    .exact .inl h
   .exact .inr ()
  .exact rQ r n a h
theorem vT:∀(d:f7) (h:Heap) (a:mm) {x:Str} {c:Addr},(x,c)∈cellsFrom h.objs.size d a->(x,c)∈a\/(pushCells h d).IsCell c none
 | [],_,_,_,_,h=> .inl h
 |(name,kind)::r,h,a,x,c,e=>by
  unfold cellsFrom at e;unfold pushCells;split at e
  .rename_i b;rw[NZ b];have f:(x,c)∈cellsFrom (h.push {cls:= .type "cell",data:= .cell none}).objs.size r ((name,h.objs.size)::a):=by rw[Pd];exact e
   rcases vT r _ _ f with e|e
   .rcases N1.mp e with e|e
    .cases e;exact .inr #[_,S6 _ _ _ _ (Oi _ rfl),2]
    .exact .inl e
   .exact .inr e
  .rename_i b;rw[NW b];exact vT r h a e
theorem Ar(b:Nat):∀(i:f7) (n:Nat) (a:mm),(∀p∈a,p.2<n)->b<=n->(∀x y c,(x,c)∈a->(y,c)∈a->b<=c->x=y)->∀x y c,(x,c)∈cellsFrom n i a->(y,c)∈cellsFrom n i a->b<=c->x=y
 | [],_,_,_,_,h=>h
 |(name,kind)::r,n,a,hl,k,h=>by
  unfold cellsFrom;split
  .refine Ar b r (n+1) _ (λp f=> ?_) () λx y c hx d j=> ?_
   .rcases N1.mp f with e|f
    .subst e;exact PB _
    .exact Qr (hl p f)
   .rcases N1.mp hx with ex|hx<;>rcases N1.mp d with g|d
    .cases ex;cases g;rfl
    .cases ex;exact absurd (hl _ d) (Pt _)
    .cases g;exact absurd (hl _ hx) (Pt _)
    .exact h x y c hx d j
  .exact Ar b r n a hl k h
theorem vS:∀(g:f7) (n:Nat) (b:mm) (x:Str),((∃y∈g,y.1=x/\y.2= .cell)\/∃c,b.lookup x=some c)->∃c,(cellsFrom n g b).lookup x=some c
 | [],_,_,_,h=>by
  rcases h with ⟨y,a,_⟩|h
  .cases a
  .exact h
 |(name,kind)::r,n,b,x,h=>by
  unfold cellsFrom;have lk:(∃c,b.lookup x=some c)->∃c,((name,n)::b).lookup x=some c:=λ⟨c,e⟩=>by
   rw[Pr];cases hx:x==name with
   |true=>show#[7]
   |false=>show#[c,e]
  split
  .refine vS r (n+1) _ x ?_;rcases h with ⟨y,a,d,f⟩|h
   .rcases N1.mp a with e|a
    .subst e;refine .inr #[n,6];rw[Pr,show(x==name)=true from by simpa using d.symm]
    .exact .inl #[y,a,d,f]
   .exact .inr (lk h)
  .rename_i i;refine vS r n b x ?_;rcases h with ⟨y,a,d,f⟩|h
   .rcases N1.mp a with e|a
    .subst e;exact absurd #[5,f] i
    .exact .inl #[y,a,d,f]
   .exact .inr h
theorem Aq(b:Nat):∀(j:f7) (n:Nat) (d:mm) (x:Str),b<=n->((∃y∈j,y.1=x/\y.2= .cell)\/∀c,d.lookup x=some c->b<=c)->∀c,(cellsFrom n j d).lookup x=some c->b<=c
 | [],_,_,_,_,h,c,e=>by
  rcases h with ⟨y,a,_⟩|h
  .cases a
  .exact h c e
 |(name,kind)::r,n,d,x,i,h,c,e=>by
  unfold cellsFrom at e;split at e
  .refine Aq b r (n+1) _ x () ?_ c e;by_cases hx:x=name
   .refine .inr λc e=> ?_;rw[Pr,show(x==name)=true from by simpa using hx]at e;cases e;exact i
   .rcases h with ⟨y,a,f,g⟩|h
    .rcases N1.mp a with e|a
     .subst e;exact absurd f.symm hx
     .exact .inl #[y,a,f,g]
    .refine .inr λc e=> ?_;rw[Pr,show(x==name)=false from by simpa using hx]at e;exact h c e
  .rename_i k;refine Aq b r n d x i ?_ c e;rcases h with ⟨y,a,f,g⟩|h
   .rcases N1.mp a with e|a
    .subst e;exact absurd #[5,g] k
    .exact .inl #[y,a,f,g]
   .exact .inr h
theorem lU{a:Scope}(h:(relabel a env).names.lookup x=some .cell\/(relabel a env).names.lookup x=some .free):∃y∈a.names,y.1=x/\(y.2= .cell\/y.2= .free):=by
 obtain⟨k,g,m⟩:∃k,(k=NameKind.cell\/k=NameKind.free)/\(x,k)∈(relabel a env).names:=by
  rcases h with h|h
  .show#[_, .inl rfl,OZ h]
  .show#[_, .inr rfl,OZ h]
 obtain⟨y,d,e⟩:=Of.mp (show(x,k)∈a.names.map _ from m);obtain⟨n,k0⟩:=y;dsimp only at e;split at e
 .rename_i c;have b:n=x:=OL Prod.fst e;show#[_,d,b, .inr ?_];simp only[Oz,Qd]at c;exact c.1.1
 .have b:n=x:=OL Prod.fst e;have f:k0=k:=OL Prod.snd e;show#[_,d,b,6];show k0=_\/k0=_;rw[f];exact g
theorem si{s:tr}{scope:Scope}{code:Value}{a:Env}{Q:Env->Shared->Prop}(h:Q (newEnv scope s.heap.objs.size globals (cellsFrom (s.heap.objs.size+1) scope.names closure) c func code (some a) builtinsNs) {s with heap:=pushCells (s.heap.push {cls:= .type TH,data:= .dict #v[]}) scope.names}):
  wpAny M A (newFunctionEnv scope globals closure [] c func code (some a)) Q E s:=by
 simp only[newFunctionEnv,Option.isSome_some,Sb];refine NU (wpAny_alloc ?_);refine NU (wpAny_layCells _ (λname kind cells=>by cases b:kind==NameKind.cell<;>simp[b]) _ _ _ _ ?_);rw[show({s with heap:=s.heap.push {cls:= .type TH,data:= .dict #v[]}}:tr).heap.objs.size=s.heap.objs.size+1 from Pd ..];refine NU ?_;rw[List.forIn_nil];exact N0 (N0 h)
theorem nQ{env:Env}(h:∀y∈b,y.2= .free->∃c,env.cells.lookup y.1=some c)(e:(x,c)∈iU env b):env.cells.lookup x=some c:=by
 have k:∀(b:f7) (d:mm),(∀y∈b,y.2= .free->∃c,env.cells.lookup y.1=some c)->(∀x c,(x,c)∈d->env.cells.lookup x=some c)->∀x c,(x,c)∈b.foldl (ft env) d->env.cells.lookup x=some c:=by
  intro b
  induction b with
  |nil=>intro d _ f x c e;exact f x c e
  |cons y r m=>
   intro d h f;refine m _ (λz hz=>h z (N4 _ hz)) λx c e=> ?_;unfold ft at e;split at e
   .rename_i l;obtain⟨a,j⟩:=h y N8 #[5,l];rcases N1.mp e with e|e
    .have g:x=y.1:=OL Prod.fst e;have i:c=(env.cells.lookup y.1).getD 0:=OL Prod.snd e;rw[g,i,j];rfl
    .exact f x c e
   .exact f x c e
 exact k b [] h (λ_ _ z=>by cases z) x c e
theorem vR:∀(c:f7) (n:Nat) (a:mm) (x:Str),(∀y∈c,y.1=x->y.2≠ .cell)->(cellsFrom n c a).lookup x=a.lookup x
 | [],_,_,_,_=>rfl
 |(name,kind)::r,n,a,x,h=>by
  unfold cellsFrom;split
  .rename_i d;rw[vR r (n+1) _ x λy b=>h y (N4 _ b),Pr];cases hx:x==name with
   |true=>
    have e:x=name:=#[5,hx]
    exact absurd #[5,d] (h _ N8 e.symm)
   |false=>rfl
  .exact vR r n a x λy b=>h y (N4 _ b)
def pQ(X:Cx)(d:r9)(a:Scope)(b:tr)(c:Hp)(e:List Addr)(f:js):Cx where
 prog:=X.prog
 w:=X.w
 K:=X.K
 mg:=X.mg
 base:=X.base
 A:=X.A
 N:=d
 s₀:=b
 H₀:=c
 env:=compEnvC a (cellsFrom (b.heap.objs.size+1) a.names (iU X.env a.names)) b.heap.objs.size X.env
 outer:=X.stack
 stack:=X.stack
 ex:=e
 fn:=λx=>a.names.lookup x==some .cell
 calm:=X.calm
 pn:=X.pn++f
 xe:=λ_ _=>False
theorem lA{ns:sv}(h:IntsAre vs ns):Vals (ns.map V.int) vs:=by
 induction h with
 |nil=>exact .nil
 |cons n t _ a=>exact .cons #[t,2] a
end L2
namespace L2
open PySem PySem.Spec PySem.W PyProof.Rows PySem.SeqAt
end L2
namespace L2
open PySem PySem.Spec PyProof.Rows
theorem xJ{K:Frag}{xs:List V}{fr:sk}{o:St}{Q:VK}(all:Bool)(Pv:Int->Prop)(t:SqL K H a xs)(N:xs.length<=sizeLine)(O:∀(i:Nat)(x:V)(vs:St)(H':Hp)(R:V->St->Hp->Prop)(S:St->Hp->Prop),xs[i]?=some x->vs.length=nv->Same H H'->
   (∀z f d,Pv z->f.length=nv->Same H' d->R (.int z) (f++fr.map λj=>(o[j]?).join) d)->(all=false->∀f d,f.length=nv->Same H' d->S (f++fr.map λj=>(o[j]?).join) d)->
   g x (vs++fr.map λj=>(o[j]?).join) H' λp B=>tc p B λb A=>if b=true then te p A λy G=>R y p G else S p A)(M:∀D H' (c:sv),H D=none->Same H H'->H' D=some (.lst (c.map V.int))->(∀z∈c,Pv z)->c.length<=xs.length->(all=true->c.length=xs.length)->Q (.ref D) H'):LCW (Itl K a) g tc te nv fr o H Q:=by
 refine vF xs.length N (λi x H' q=>H'=q/\xs[i]?=some x) (λi H' h s=>#[xs,xs[i],s.seq t,by simp[h]]) (λi H' x q _ s y=>by obtain⟨e,h⟩:=y;subst e;show#[Same.refl _,2,h xs (s.seq t)]) (λH' s=>#[xs,s.seq t,N3 _]) (λ_ i _ n=>∃c:List Int,n=c.map V.int/\(∀z∈c,Pv z)/\c.length<=i/\(all=true->c.length=i)) (λ_ _=>#[[],2,(λx h=>nomatch h),N3 _,λ_=>rfl]) (λ_ i _ n ⟨c,e,_,l,_⟩=>by rw[e,My];exact l) (λD i x vs H' q n R S _ h hv w _ _ e kR kS=> ?_) λD H' n J w hz ⟨c,e,k,m,r⟩=>M D H' c J w (e▸hz) k m r;obtain⟨rfl,h⟩:=h;obtain⟨c,rfl,k,m,r⟩:=e;refine O i x vs H' R S h hv w (λz f d pz v s=>kR _ f d v s #[c++[z],by rw[O1];rfl,λu U=> ?_,by rw[Od];exact QR m,λe=>by rw[Od,r e];rfl]) λL f d v s=>kS f d v s #[c,2,k,SG m,λe=>by rw[L]at e;cases e];rcases OS.mp U with h|h
 .exact k u h
 .rw[Oj.mp h];exact pz
end L2
namespace Bh
abbrev Ans:=Option (Int×Int×Int)
def Kt(s t y:Nat):Nat:=dj s (2^t)|||2^y
end Bh
namespace L2
open PySem PySem.Spec PySem.W PyProof.Rows PySem.SeqAt
def ic(H H':Hp):Prop:=∀b xs,H b=some (.tup xs)->H' b=some (.tup xs)
theorem ic.of(h:Same H H'):ic H H':=λb xs e=>h b _ e
theorem ic.upd{H:Hp}{q:Addr}{a:List V}{o:HO}(h:H q=some (.lst a)):ic H (upd H q o):=λb xs e=>by rw[aj (jG e h (by intro z;cases z))];exact e
theorem ic.new(h:H q=none):ic H (L2.upd H q o):=λb xs e=>by rw[aj (ah e h)];exact e
def dZ(H:Hp)(xs:List V)(ts:List (Nat×Nat)):Prop:=xs.length=ts.length/\∀(i:Nat)(t:Nat×Nat),ts[i]?=some t->∃a,xs[i]?=some (.ref a)/\H a=some (.tup [.int t.1, .int t.2])
theorem dZ.ts{ts:List (Nat×Nat)}(h:dZ H xs ts)(e:ic H H'):dZ H' xs ts:=
 #[h.1,λi t d=>by obtain⟨a,b,c⟩:=h.2 i t d;show#[a,b,e _ _ c]]
theorem dZ.at{ts:List (Nat×Nat)}(h:dZ H xs ts){i:Nat}(d:xs[i]?=some y):∃a t,ts[i]?=some t/\y= .ref a/\H a=some (.tup [.int t.1, .int t.2]):=by
 have c:i<ts.length:=by rw[<-h.1];exact(Oc.mp d).1
 obtain⟨a,b,e⟩:=h.2 i (ts[i]) (Ob c);rw[d]at b;show#[a,ts[i],Ob c,OA b,e]
def Bf(K:Frag):List V->Hp->VK->Prop:=λxs H Q=>∃(p:Addr)(ns:sv),xs=[.ref p]/\SqL K H p (ns.map V.int)/\ns.length+1<4096/\
 ∀l,H l=none->Q (.ref l) (upd H l (.set (λk=>(firstMet (λi=>ns.getD i 0) ns.length).any (· ==k)) (firstMet (λi=>ns.getD i 0) ns.length).length))
theorem DR{X:Cx}(j:X.calm=true):bz X (.type T8) (Bf X.K):=by
 intro v s x H vs us Q I n h;obtain⟨p,ns,rfl,i,t,q⟩:=h;obtain⟨u,rfl,m⟩:=fJ n;cases m;obtain⟨d,f,p1,hz⟩:=I.list i;have k:=iR f;have c:=f.length;rw[My]at c;refine call_set_list (ns:=ns) (I.ok.hd j) p1.isList #[5,k] (by rw[Oq];show d.length+1<4096;lia) λh' r a l=> ?_;have g:d.toArray.size=ns.length:=by rw[Oq,c]
 rw[g]at a;show#[.ref s.heap.objs.size,_,I.laid (t':=r) (λb o e=>l b o (N6 e) e) (N3 _) (show bx X.prog X.w _ _ _ (.set _ _)from a),2,q _ (I.hok.fresh (N3 _))]
theorem Aw{X:Cx}{K:Frag}(h:X.K=K)(a:X.calm=true):bz X (.type T8) (Bf K):=by subst h;exact DR a
def Lf:List V->Hp->VK->Prop:=λxs H Q=>∃(p:Addr)(S:Int->Bool)(n:Nat),xs=[.ref p]/\H p=some (.set S n)/\Q (.int n) H
theorem Ay:bz X (.builtin "len") Lf:=by intro m s r H vs us Q I i h;obtain⟨p,S,n,rfl,f,q⟩:=h;obtain⟨u,rfl,g⟩:=fJ i;cases g;obtain⟨o,es,ep,t,e,b,a,k,l,hb,c,d⟩:=I.hok p _ f;have j:es.size<4096:=hb;exact call_len_set e b a c (Int.lt_of_lt_of_le (show(es.size:Int)<4096 by lia) ∅) #[.int n,H,I.tok _,#[_,by rw[d]],q]
def Le:List V->Hp->VK->Prop:=λxs H Q=>∃(p:Addr)(n:Nat),xs=[.ref p]/\H p=some (.rng 0 n)/\n<=1000/\∀l,H l=none->Q (.ref l) (upd H l (.lst (((List.range n).map λi:Nat=>(i:Int)).map V.int)))
theorem pT:∀(a:qR)(n k:Nat),a.length=n->(∀(i:Nat)(v:Value),a[i]?=some v->∃t,v= .int (((k+i:Nat)):Int) t)->Vals (((List.range' k n).map λi:Nat=>(i:Int)).map V.int) a
 | [],0,_,_,_=> .nil
 |v::r,n+1,k,hl,h=>by
  obtain⟨t,e⟩:=h 0 v rfl;subst e;exact .cons #[t,2] (pT r n (k+1) (Nat.succ.inj hl) λi u c=>by obtain⟨t',b⟩:=h (i+1) u #[5,c];show#[t',by rw[b,show k+(i+1)=k+1+i by lia]])
theorem Ax{X:Cx}(g:X.calm=true):bz X (.type Ts) Le:=by
 intro A s B H vs us Q I y h;obtain⟨p,n,rfl,l,k,q⟩:=h;obtain⟨u,rfl,x⟩:=fJ y;cases x;obtain⟨t,u,v,e⟩:=I.hok p _ l;have m:IsRange s.heap p 0 (n:Int) 1 t u v:=e;refine call_list_range (n:=n) (I.ok.hd g) m (small_one ∅ ∅ () ()) (by rw[rangeSize_nat];lia) () λh' z a c j f b=> ?_;have o:Vals (((List.range n).map λi:Nat=>(i:Int)).map V.int) a.toList:=by rw[List.range_eq_range'];refine pT a.toList n 0 (by rw[Ou];exact b.1) λi w r=> ?_;obtain⟨t',d⟩:=b.2 i w (by rw[<-r,Pu]);show#[t',by rw[d];congr 1;lia]
 show#[.ref s.heap.objs.size,_,I.laid (t':=z) j (N3 _) (show bx X.prog X.w _ _ _ (.lst _)from#[6,a.toList,c,o,6]),2,q _ (I.hok.fresh (N3 _))]
 .rw[My,My,O2];exact NV k ∅
 .rw[Array.toArray_toList];exact f
theorem FV{K:Frag}{xs:List V}{fr:sk}{o:St}{Q:VK}(f:V->V->Hp->Prop)(M:∀x y H H',ic H H'->f x y H->f x y H')(ha:SqL K H a xs)(hn:xs.length<=sizeLine)(hs:∀(i:Nat)(x:V)(vs:St)(H':Hp)(R:V->St->Hp->Prop)(S:St->Hp->Prop),xs[i]?=some x->vs.length=l->Same H H'->
   (∀y u d,f x y d->u.length=l->Same H' d->R y (u++fr.map λj=>(o[j]?).join) d)->
   g x (vs++fr.map λj=>(o[j]?).join) H' λp U=>tc p U λb G=>if b=true then te p G λy k=>R y p k else S p G)(hd:∀D H' (c:List V),H D=none->Same H H'->H' D=some (.lst c)->c.length=xs.length->(∀(j:Nat)(x y:V),xs[j]?=some x->c[j]?=some y->f x y H')->Q (.ref D) H'):LCW (Itl K a) g tc te l fr o H Q:=by
 intro D v;show#[λi m N H'=>m=xs.length-i/\i<=xs.length/\∃(vs:St)(c:List V),vs.length=l/\N=vs++(fr.map λj=>(o[j]?).join)/\Same H H'/\H' D=some (.lst c)/\c.length=i/\(∀(j:Nat)(x y:V),xs[j]?=some x->c[j]?=some y->f x y H'),#[xs.length,#[5],Pw _,List.replicate l none,[],#[5],2,Same.new v,ag,2,#[5]],6];rintro i m N H' ⟨rfl,hi,vs,c,hv,rfl,t,J,hl,hz⟩;have w:SqL K H' a xs:=t.seq ha;by_cases r:i<xs.length
 .refine .inr #[#[xs,xs[i],w,by simp[r]],λO d=>∃(vs:St)(c:List V),vs.length=l/\O=vs++(fr.map λj=>(o[j]?).join)/\Same H d/\d D=some (.lst c)/\c.length=i+1/\(∀(j:Nat)(x y:V),xs[j]?=some x->c[j]?=some y->f x y d),λO d q=>#[xs.length- (i+1),QT r (PB _),2,r,q],λx H2 y=> ?_];obtain⟨e1,e2⟩:=y;subst e1;have hx:=e2 xs w;refine hs i x vs _ (λy p k=>∃s,k D=some (.lst s)/\s.length<sizeLine/\∃(vs:St)(c:List V),vs.length=l/\p=vs++(fr.map λj=>(o[j]?).join)/\Same H (upd k D (.lst (s++[y])))/\upd k D (.lst (s++[y])) D=some (.lst c)/\c.length=i+1/\(∀(j:Nat)(x z:V),xs[j]?=some x->c[j]?=some z->f x z (upd k D (.lst (s++[y]))))) _ hx hv t (λy u d pz b0 B=> ?_);have L:=B D _ J;show#[_,L,by rw[hl];exact N7 r hn,u,c++[y],b0,2,(t.trans B).upd v,ag,by rw[Od,hl];rfl,λj x' z A h=> ?_];refine M _ _ _ _ (ic.upd L) ?_;by_cases hj:j<c.length
  .rw[PQ hj]at h;exact M _ _ _ _ (ic.of B) (hz j x' z A h)
  .rw[PH ()]at h;have a3:j-c.length=0:=by
    cases e:j-c.length with
    |zero=>rfl
    |succ n=>rw[e]at h;simp at h
   rw[a3]at h;cases h;have ej:j=i:=()
   subst ej;rw[hx]at A;cases A;exact pz
 .have e:i=xs.length:=RY hi (Qf r);subst e;exact .inl #[#[xs,w,N3 _],hd D H' c v t J hl hz]
end L2
namespace Bh
def mrg(ms:sv)(x y:Nat):List Int:=ms.map λm=>if m=ms.getD x 0 then ms.getD y 0 else m
theorem zZ(ms:sv)(x y:Nat):(mrg ms x y).length=ms.length:=My ..
def start(p:Nat):List Int:=(List.range p).map λi:Nat=>(i:Int)
def z3(p:Nat)(ts:List (Nat×Nat))(l:sv):List Int:=l.foldl (λms k=>mrg ms (ts.getD k.toNat (0,0)).1 (ts.getD k.toNat (0,0)).2) (start p)
theorem C6(p:Nat)(ts:List (Nat×Nat))(l:sv)(k:Int):z3 p ts (l++[k])=mrg (z3 p ts l) (ts.getD k.toNat (0,0)).1 (ts.getD k.toNat (0,0)).2:=by unfold z3;rw[Q5];rfl
theorem oM(p:Nat)(ts:List (Nat×Nat)):∀l:List Int,(z3 p ts l).length=p:=by
 intro l;unfold z3;have:∀(l:sv)(ms:sv),ms.length=p->(l.foldl (λms k=>mrg ms (ts.getD k.toNat (0,0)).1 (ts.getD k.toNat (0,0)).2) ms).length=p:=by
  intro l
  induction l with
  |nil=>intro ms h;exact h
  |cons k r a=>intro ms h;rw[Qn];exact a _ (by rw[zZ];exact h)
 exact this l _ (by simp[start])
def Nd(p:Nat)(ts:List (Nat×Nat))(s:Nat):List Int:=z3 p ts (bits s)
theorem rS(b:s<2^n){k:Int}(h:k∈bits s):0<=k/\k.toNat<n:=by obtain⟨j,c,hb,rfl⟩:=gc.mp h;show#[Pc _,6];rw[N9];refine Nat.lt_of_not_le λa=> ?_;have:s.testBit j=false:=Qc (N7 b (OG () a));rw[this]at hb;cases hb
def JR(val:Nat->Int):Nat->Nat
 |0=>0
 |i+1=>if(List.range i).any (λj=>val j==val i)=true then JR val i else JR val i+1
def pcs(p:Nat)(ts:List (Nat×Nat))(s:Nat):Nat:=JR (λi=>(Nd p ts s).getD i 0) p
end Bh
namespace L2
open PySem PySem.Spec PyProof.Rows
def Itz(K:Frag)(a b:Addr):It:=
 #[λi H=>∃xs c x y,SqL K H a xs/\SqL K H b c/\xs[i]?=some x/\c[i]?=some y,
  λi H x H'=>∃t,x= .ref t/\H t=none/\∃v u,(∀xs,SqL K H a xs->xs[i]?=some v)/\(∀c,SqL K H b c->c[i]?=some u)/\H'=upd H t (.tup [v,u]),
  λi H=>∃xs c,SqL K H a xs/\SqL K H b c/\(xs.length<=i\/c.length<=i)]
theorem AJ{z TI TO a c b:Addr}(h:b∈[z,TO,a,c]):b∈[z,TI,TO,a,c]:=by
 rcases N1.mp h with h|h
 .exact N1.mpr (.inl h)
 .exact N4 _ (N4 _ h)
theorem eF{z TO a c b:Addr}(hb:b∉ [z,TO,a,c]):b≠z/\b≠TO/\b≠a/\b≠c:=by simp only[N1,PF,Rg,not_or]at hb;exact hb
theorem Eg{P:tj}{w:vu}{K:Frag}{b2:q7}{x1:Nat}{tp:Pos}(l1 l2 z TI TO f g:Addr)(D:ZipApart z TI TO f g l1 l2):
  Turn P w K (.Tuple b2 x1 tp) (Itz K l1 l2) [z,TI,TO,f,g] z (λi h=>IsZip h z TI TO .none/\IsPair h TI (.ref f) (.ref g)/\(∃a b,IsPair h TO a b)/\h.IsListIter f l1 i/\h.IsListIter g l2 i) where
 mem:=#[5]
 obj:=λi h st b hb=>by
  obtain⟨hz,j,⟨t,A,n⟩,l,m⟩:=st;simp only[N1,PF,Rg]at hb;rcases hb with rfl|rfl|rfl|rfl|rfl
  .show#[_,hz,λv q=>by have r:Data.fields _=Data.cell v:=q;cases r]
  .show#[_,j,λv q=>by have r:Data.seq _ _=Data.cell v:=q;cases r]
  .show#[_,n,λv q=>by have r:Data.seq _ _=Data.cell v:=q;cases r]
  .obtain⟨o,e,c,d⟩:=l;show#[o,e,λv q=>by rw[d]at q;cases q]
  .obtain⟨o,e,c,d⟩:=m;show#[o,e,λv q=>by rw[d]at q;cases q]
 keep:=λi h h' st k=>by obtain⟨hz,j,⟨t,A,n⟩,l,m⟩:=st;show#[k z #[5] _ hz,k TI #[5] _ j,#[t,A,k TO #[5] _ n],l.at λo e=>k f #[5] o e,m.at λo e=>k g #[5] o e]
 item:=by
  intro X O U N hc i af s σ H E I B st Q;subst O U N;obtain⟨xs,ys,x,y,G,J,hx,L⟩:=Q;obtain⟨hz,j,⟨t,A,n⟩,l,m⟩:=st;obtain⟨dx,rv,p1,dm⟩:=I.list G;obtain⟨dV,ax,p2,dn⟩:=I.list J;obtain⟨u,hu,ru⟩:=rv.get hx;obtain⟨v,hv,d1⟩:=ax.get L;refine wpAny_pyNext_zip_item D hz j n l m p1.isList p2.isList (x:=u) (y:=v) #[5,hu] #[5,hv] λdv dp cm b4 b6 c8 ed cN=> ?_;show#[7,wpAny_letOwnedTupleGo_zip dp λh₂ dt p=> ?_];replace p:Heap.SameBut z dv h₂:=p;have a3:z<s.heap.objs.size:=N6 hz;have b7:TI<s.heap.objs.size:=N6 j;have b8:TO<s.heap.objs.size:=N6 n;have b3:f<s.heap.objs.size:=by obtain⟨o,e,_⟩:=l;exact N6 e
  have b5:g<s.heap.objs.size:=by obtain⟨o,e,_⟩:=m;exact N6 e
  have cE:H s.heap.objs.size=none:=I.fresh;have dc:h₂.get? s.heap.objs.size=some {cls:= .type TN,data:= .seq #v[u,v]}:=(p.2 _ (Qb a3)).trans c8;have M:∀c o,c≠z->c≠TO->c≠f->c≠g->s.heap.get? c=some o->h₂.get? c=some o:=λc o c1 c2 c3 c4 e=>(p.2 c c1).trans (cN c o c1 c2 c3 c4 e);have I1:Inv X af σ H {s with heap:=h₂,gens:=s.gens,drawn:=s.drawn,toks:=s.toks}:=I.own [z,TO,f,g] (λb hb=>B b (AJ hb)) λb o hb e=>M b o (eF hb).1 (eF hb).2.1 (eF hb).2.2.1 (eF hb).2.2.2 e;have I2:Inv X af σ (upd H s.heap.objs.size (.tup [x,y])) {s with heap:=h₂}:=I.pairIn I1 ru d1 dc;show#[.ref s.heap.objs.size,_,I2,2,#[7,cE,x,y,λzs L=>by rw[I.list_inj L G];exact hx,λzs hz=>by rw[I.list_inj hz J];exact L,2],#[dt,6,#[11,(p.2 TO D.TOz).trans cm],66],λb hb=> ?_]
  .exact M TI _ D.TIz D.TITO D.TIi1 D.TIi2 j
  .obtain⟨o,e,c,d⟩:=b4;show#[o,(p.2 f D.i1z).trans e,c,d]
  .obtain⟨o,e,c,d⟩:=b6;show#[o,(p.2 g D.i2z).trans e,c,d]
  .have ct:=(B b hb).1;have cv:b≠s.heap.objs.size:=by
    simp only[N1,PF,Rg]at hb;rcases hb with rfl|rfl|rfl|rfl|rfl
    .exact Oe a3
    .exact Oe b7
    .exact Oe b8
    .exact Oe b3
    .exact Oe b5
   rw[aj cv];exact ct
 done:=by
  intro X O U N hc i af s σ H E I B st Q;subst O U N;obtain⟨xs,ys,G,J,cT⟩:=Q;obtain⟨hz,j,⟨t,A,n⟩,l,m⟩:=st;obtain⟨dx,rv,p1,dm⟩:=I.list G;obtain⟨dV,ax,p2,dn⟩:=I.list J;have e1:=rv.length;have e2:=ax.length;refine wpAny_pyNext_zip_end (I.ok.hd hc) D hz j n l m p1.isList p2.isList (by
   rcases cT with h|h
   .exact .inl (by simp;lia)
   .exact .inr (by simp;lia)) λh₂ M=>#[26]
  exact I.own [z,TO,f,g] (λb hb=>B b (AJ hb)) λb o hb e=>M b o (eF hb).1 (eF hb).2.1 (eF hb).2.2.1 (eF hb).2.2.2 e
 self:=λ_ _ _ _ _ st h=>wpAny_pyIter_zip st.1 h
section
variable{X:Cx}{elts:q7}{x1:Nat}{tp:Pos}
def Nk(K:Frag)(d:TA):TI:=λf H R=>d f H λvs c=>∃a b,vs=[.ref a, .ref b]/\(∃xs,SqL K c a xs)/\(∃e,SqL K c b e)/\R (Itz K a b) c
theorem Lp{a b:Expr}{j:TA}{p pos:Pos}(w:Gl X "zip")(y:X.mg "zip"=none)(t:PA X [a,b] j)(A:starEach [a,b] X.env=(false,eval a X.env)::starEach [b] X.env:=by rfl)(z:(backTo pos (starEach [b] X.env)).any (·.1)=false:=by rfl):PI X (.Tuple elts x1 tp) (.Call (.Name "zip" p) [a,b] [] pos) (Nk X.K j):=by
 intro L s U H R I h;refine PX (gM I w y boot_zip ?_);refine O6 (thn (t pos L s U H _ I h) λus d ⟨vs,k,f,N,M⟩=> ?_) A z;obtain⟨a,b,e,⟨xs,hx⟩,⟨ys,B⟩,q⟩:=M;subst e;obtain⟨u,v,rfl,O,Q⟩:=Ec N;cases O;cases Q;obtain⟨ar,r2,p2,ab⟩:=f.list hx;obtain⟨ax,r3,p3,af⟩:=f.list B;have G:a<d.heap.objs.size:=by obtain⟨o,e,_⟩:=p2.isList;exact N6 e
 have J:b<d.heap.objs.size:=by obtain⟨o,e,_⟩:=p3.isList;exact N6 e
 refine call_zip_2 p2.isList p3.isList λh' hz n r l m hsz x=> ?_;refine wpAny_pyIter_zip hz #[d.heap.objs.size+4,[d.heap.objs.size+4,d.heap.objs.size+2,d.heap.objs.size+3,d.heap.objs.size,d.heap.objs.size+1],_,Itz X.K a b,k,2,f.kept (t':=d.toks) x,Eg a b _ _ _ _ _ (zipApart_new G J),#[hz,n,#[11,r],l,m],λc g=> ?_,q];have i:d.heap.objs.size<=c:=by
  simp only[N1,PF,Rg]at g;rcases g with e|e|e|e|e<;>rw[e]
  .exact RR _ _
  .exact RR _ _
  .exact RR _ _
  .exact N3 _
  .exact RR _ _
 exact f.fpOk i (f.hok.fresh i)
theorem IL{K:Frag}{a b:Expr}{c:TA}{p pos:Pos}(h:X.K=K)(e:Gl X "zip")(f:X.mg "zip"=none)(d:PA X [a,b] c)(i:starEach [a,b] X.env=(false,eval a X.env)::starEach [b] X.env:=by rfl)(g:(backTo pos (starEach [b] X.env)).any (·.1)=false:=by rfl):PI X (.Tuple elts x1 tp) (.Call (.Name "zip" p) [a,b] [] pos) (Nk K c):=by subst h;exact Lp e f d i g
end
def hide(H:Hp)(D:Addr):Hp:=λb=>if b=D then none else H b
theorem gA(h:b≠D):hide H D b=H b:=by unfold hide;rw[NW h]
theorem F9:hide (upd H D o) D=hide H D:=by
 funext b;unfold hide;split
 .rfl
 .rename_i h;exact aj h
theorem dH:Same (hide H D) H:=λb o e=>by
 unfold hide at e;split at e
 .cases e
 .exact e
theorem Dt(h:Same H H'):Same (hide H D) (hide H' D):=λb o e=>by
 unfold hide at e⊢;split at e
 .cases e
 .rename_i hb;rw[NW hb];exact h b o e
section
variable{J:It}{g:TG}{tc:TT}{te:TE}{nv:Nat}{fr:sk}{σ:St}{H:Hp}{Q:VK}
theorem FU(n:Nat)(M:n<=sizeLine)(I:Nat->V->Hp->Hp->Prop)(K:∀i H',i<n->Same H H'->J.go i H')(hy:∀i H' x a,i<n->Same H H'->J.yld i H' x a->Same H' a/\I i x H' a)(O:∀H',Same H H'->J.stop n H')(f:Nat->V->Hp->Prop)(B:∀i y H H',Same H H'->f i y H->f i y H')(N:∀(i:Nat)(x:V)(vs:St)(D:Addr)(H' a:Hp)(R:V->St->Hp->Prop)(S:St->Hp->Prop),i<n->I i x H' a->vs.length=nv->Same H H'->Same H' a->(∃l,H' D=some (.lst l))->(∀y m d,f i y (hide d D)->m.length=nv->Same a d->R y (m++fr.map λj=>(σ[j]?).join) d)->
   g x (vs++fr.map λj=>(σ[j]?).join) a λo v=>tc o v λb r=>if b=true then te o r λy w=>R y o w else S o r)(G:∀D H' (c:List V),H D=none->Same H H'->H' D=some (.lst c)->c.length=n->(∀j y,c[j]?=some y->f j y (hide H' D))->Q (.ref D) H'):LCW J g tc te nv fr σ H Q:=
 vF n M I K hy O (λD i H' c=>c.length=i/\∀j y,c[j]?=some y->f j y (hide H' D)) (λ_ _=>#[2,λj y h=>by cases h]) (λ_ i _ q e=>Nat.le_of_eq e.1) (λD i x vs H' a q R S L hx U p u hz e kR _=>N i x vs D H' a R S L hx U p u #[_,hz] λy m d pz ab s=>kR y m d ab s #[by rw[Od,e.1];rfl,λj z k=>by
  rw[F9];by_cases hl:j<q.length
  .rw[PQ hl]at k;exact B _ _ _ _ (Dt (u.trans s)) (e.2 j z k)
  .have l:=(Oc.mp k).1;rw[Od]at l;have t:j=q.length:=by simp at l;lia
   rw[t,List.getElem?_concat_length]at k;cases k;rw[t,e.1];exact pz]) λD H' c A p hz e=>G D H' c A p hz e.1 e.2
end
theorem hV{K:Frag}{xs:List V}{fr:sk}{t:St}{Q:VK}(d:V->V->Hp->Prop)(A:∀x y H H',Same H H'->d x y H->d x y H')(q:SqL K H a xs)(J:xs.length<=sizeLine)(L:∀(i:Nat)(x:V)(vs:St)(D:Addr)(H':Hp)(R:V->St->Hp->Prop)(S:St->Hp->Prop),xs[i]?=some x->vs.length=nv->Same H H'->(∃l,H' D=some (.lst l))->
   (∀y m c,d x y (hide c D)->m.length=nv->Same H' c->R y (m++fr.map λj=>(t[j]?).join) c)->
    g x (vs++fr.map λj=>(t[j]?).join) H' λn w=>tc n w λb u=>if b=true then te n u λy z=>R y n z else S n u)(B:∀D H' (f:List V),H D=none->Same H H'->H' D=some (.lst f)->f.length=xs.length->(∀(j:Nat)(x y:V),xs[j]?=some x->f[j]?=some y->d x y (hide H' D))->Q (.ref D) H'):LCW (Itl K a) g tc te nv fr t H Q:=by
 refine FU xs.length J (λi x H' o=>H'=o/\xs[i]?=some x) (λi H' h s=>#[xs,xs[i],s.seq q,by simp[h]]) (λi H' x o _ s y=>by obtain⟨e,h⟩:=y;subst e;show#[Same.refl _,2,h xs (s.seq q)]) (λH' s=>#[xs,s.seq q,N3 _]) (λj y G=>∀x,xs[j]?=some x->d x y G) (λi y G v s h x e=>A x y G v s (h x e)) (λi x vs D H' o R S _ h M r _ p k=> ?_) λD H' f p r hz hl h=>B D H' f p r hz hl λj x y hx O=>h j y O x hx;obtain⟨rfl,h⟩:=h;exact L i x vs D H' R S h M r p λy m c U N s=>k y m c (λx' e=>by rw[h]at e;cases e;exact U) N s
theorem Jw{K:Frag}{xs:List V}{fr:sk}{t:St}{Q:VK}(d:V->V->Hp->Prop)(A:∀x y H H',Same H H'->d x y H->d x y H')(q:H a=some (.tup xs))(J:xs.length<=sizeLine)(L:∀(i:Nat)(x:V)(vs:St)(D:Addr)(H':Hp)(R:V->St->Hp->Prop)(S:St->Hp->Prop),xs[i]?=some x->vs.length=nv->Same H H'->(∃l,H' D=some (.lst l))->
   (∀y m c,d x y (hide c D)->m.length=nv->Same H' c->R y (m++fr.map λj=>(t[j]?).join) c)->
    g x (vs++fr.map λj=>(t[j]?).join) H' λn w=>tc n w λb u=>if b=true then te n u λy z=>R y n z else S n u)(B:∀D H' (f:List V),H D=none->Same H H'->H' D=some (.lst f)->f.length=xs.length->(∀(j:Nat)(x y:V),xs[j]?=some x->f[j]?=some y->d x y (hide H' D))->Q (.ref D) H'):LCW (Itt K a) g tc te nv fr t H Q:=by
 refine FU xs.length J (λi x H' o=>H'=o/\xs[i]?=some x) (λi H' h s=>#[xs,xs[i],SqT.of (s.at q),by simp[h]]) (λi H' x o _ s y=>by obtain⟨e,h⟩:=y;subst e;show#[Same.refl _,2,h xs (SqT.of (s.at q))]) (λH' s=>#[xs,SqT.of (s.at q),N3 _]) (λj y G=>∀x,xs[j]?=some x->d x y G) (λi y G v s h x e=>A x y G v s (h x e)) (λi x vs D H' o R S _ h M r _ p k=> ?_) λD H' f p r hz hl h=>B D H' f p r hz hl λj x y hx O=>h j y O x hx;obtain⟨rfl,h⟩:=h;exact L i x vs D H' R S h M r p λy m c U N s=>k y m c (λx' e=>by rw[h]at e;cases e;exact U) N s
theorem Jv{K:Frag}{xs c:List V}{fr:sk}{q:St}{H:Hp}{Q:VK}(f:Nat->V)(p:SqL K H a xs)(hb:SqL K H b c)(ar:xs.length=n)(ax:c.length=n)(M:n<=sizeLine)(N:∀(i:Nat)(x y:V)(vs:St)(H':Hp)(t:Addr)(R:V->St->Hp->Prop)(S:St->Hp->Prop),xs[i]?=some x->c[i]?=some y->vs.length=nv->Same H H'->H' t=none->
   (∀l d,l.length=nv->Same (upd H' t (.tup [x,y])) d->R (f i) (l++fr.map λj=>(q[j]?).join) d)->
   g (.ref t) (vs++fr.map λj=>(q[j]?).join) (upd H' t (.tup [x,y])) λm w=>tc m w λb r=>if b=true then te m r λy z=>R y m z else S m r)(L:∀D H',H D=none->Same H H'->H' D=some (.lst ((List.range n).map f))->Q (.ref D) H'):LCW (Itz K a b) g tc te nv fr q H Q:=by
 refine xK n M (λi x H' o=>∃t v u,x= .ref t/\H' t=none/\xs[i]?=some v/\c[i]?=some u/\o=upd H' t (.tup [v,u])) (λi H' h s=>#[xs,c,xs[i]'(),c[i]'(),s.seq p,s.seq hb,Ob _,Ob _]) (λi H' x o _ s y=> ?_) (λ_ s=>#[xs,c,s.seq p,s.seq hb, .inl ()]) (λi=>(List.range i).map f) (λ_ _=>true) (λi _=>f i) rfl (λi=>#[5]) (λi _ _ _ _ _=>by rw[List.range_succ,O1];rfl) (λi x vs H' o R S _ h O sm _ k=> ?_) L
 .obtain⟨t,A,e,v,u,B,G,J⟩:=y;subst A J;show#[Same.new e,t,v,u,2,e,B xs (s.seq p),G c (s.seq hb),2]
 .obtain⟨t,v,u,rfl,e,hx,hy,rfl⟩:=h;exact N i v u vs H' t R S hx hy O sm e λl d U s=>by have:=k l d U s;rwa [NZ rfl]at this
def bu(H:Hp)(xs:List V)(M:pw):Prop:=xs.length=M.length/\∀(i:Nat)(r:sv),M[i]?=some r->∃a,xs[i]?=some (.ref a)/\H a=some (.lst (r.map V.int))
theorem bu.same(h:bu H xs M)(e:Same H H'):bu H' xs M:=
 #[h.1,λi r d=>by obtain⟨a,b,c⟩:=h.2 i r d;show#[a,b,e.at c]]
theorem bu.at(h:bu H xs M){i:Nat}(d:xs[i]?=some y):∃a r,M[i]?=some r/\y= .ref a/\H a=some (.lst (r.map V.int)):=by
 have c:i<M.length:=by rw[<-h.1];exact(Oc.mp d).1
 obtain⟨a,b,e⟩:=h.2 i (M[i]) (Ob c);rw[d]at b;show#[a,M[i],Ob c,OA b,e]
theorem bu.of{b:List V}{M:pw}(hl:b.length=M.length)(h:∀(j:Nat)(r:sv)(y:V),M[j]?=some r->b[j]?=some y->∃a,y= .ref a/\H a=some (.lst (r.map V.int))):bu H b M:=by
 show#[hl,λi r d=> ?_];have c:i<b.length:=by rw[hl];exact(Oc.mp d).1
 obtain⟨a,e,f⟩:=h i r _ d (Ob c);show#[a,by rw[Ob c,e],f]
def jP(H:Hp)(xs:List V)(M:pw):Prop:=xs.length=M.length/\∀(i:Nat)(r:sv),M[i]?=some r->∃a,xs[i]?=some (.ref a)/\H a=some (.tup (r.map V.int))
theorem jP.ts(h:jP H xs M)(e:ic H H'):jP H' xs M:=
 #[h.1,λi r d=>by obtain⟨a,b,c⟩:=h.2 i r d;show#[a,b,e _ _ c]]
theorem jP.at(h:jP H xs M){i:Nat}(d:xs[i]?=some y):∃a r,M[i]?=some r/\y= .ref a/\H a=some (.tup (r.map V.int)):=by
 have c:i<M.length:=by rw[<-h.1];exact(Oc.mp d).1
 obtain⟨a,b,e⟩:=h.2 i (M[i]) (Ob c);rw[d]at b;show#[a,M[i],Ob c,OA b,e]
theorem Ge{K:Frag}{xs:List V}{g:TG}{l:TS}{D:Ends}(Pv:Nat->St->Hp->Prop)(h0:Pv 0 b H)(hl:∀i b H,i<=xs.length->Pv i b H->SqL K H a xs)(u:∀(i:Nat) x t b H,xs[i]?=some x->H t=none->Pv i b H->g (.ref t) b (upd H t (.tup [.int (i:Nat),x])) λh d=>l {D with nx:=Pv (i+1),ct:=Pv (i+1),bk:=D.nx} h d)(s:∀b H,Pv xs.length b H->D.nx b H):
  ∃W:Nat->Nat->St->Hp->Prop,(∃m,W 0 m b H)/\∀i m b H,W i m b H->
   ((Ite K a).stop i H/\D.nx b H)\/((Ite K a).go i H/\∃N:St->Hp->Prop,(∀f H',N f H'->∃k,k<m/\W (i+1) k f H')/\∀x H',(Ite K a).yld i H x H'->g x b H' λh d=>l {D with nx:=N,ct:=N,bk:=D.nx} h d):=by
 show#[λi m b H=>m=xs.length-i/\i<=xs.length/\Pv i b H,#[xs.length,#[5],Pw _,h0],6];rintro i m b H ⟨rfl,j,p⟩;have q:=hl i b H j p;by_cases c:i<xs.length
 .refine .inr #[#[xs,xs[i],q,by simp[c]],Pv (i+1),λf H' z=>#[xs.length- (i+1),QT c (PB _),2,c,z],λx H' y=> ?_];obtain⟨t,n,w,v,o,r⟩:=y;subst n r;exact u i v t b H (o xs q) w p
 .have e:i=xs.length:=RY j (Qf c);subst e;exact .inl #[#[xs,q,N3 _],s b H p]
theorem BI(xs:List V)(i:Nat):dE xs none (some (i:Int))=xs.take i:=by
 unfold dE;show(xs.drop (HT.sIx _ 0 none)).take (HT.sIx _ _ (some (i:Int)) -HT.sIx _ 0 none)=_;rw[HT.lT,HT.qz,Td,Nat.sub_zero];by_cases a:i<=xs.length
 .rw[Q0 a]
 .rw[SR (),OV,PL ()]
theorem bG(xs:List V)(i:Nat):dE xs (some (i:Int)) none=xs.drop i:=by
 unfold dE;show(xs.drop (HT.sIx _ 0 (some (i:Int)))).take (HT.sIx _ _ none-HT.sIx _ 0 (some (i:Int)))=_;rw[HT.lT,HT.qz,PL (by rw[OU];lia)];by_cases a:i<=xs.length
 .rw[Q0 a]
 .rw[SR (),List.drop_length,List.drop_of_length_le ()]
theorem rA:∀ {a b:sv},a.map V.int=b.map V.int->a=b
 | [],[],_=>rfl
 | [],_::_,h=>by simp at h
 |_::_,[],h=>by simp at h
 |x::a,y::b,h=>by
  rw[OI,OI]at h;injection h with c d
  rw[V.int.inj c,rA d]
theorem pM{H:Hp}{r s:sv}(h:H a=some (.lst (r.map V.int)))(g:H a=some (.lst (s.map V.int))):r=s:=by
 rw[h]at g;injection g with g
 injection g with g
 exact rA g
theorem bu.cut{xs:List V}{M:pw}(h:bu H xs M)(i:Nat):bu H (xs.take i++xs.drop (i+1)) (M.take i++M.drop (i+1)):=by
 have hl:=h.1;show#[by rw[Od,Od,Ow,Ow,OU,OU,hl],λj r b=> ?_];by_cases f:j<(M.take i).length
 .rw[PQ f]at b;rw[Ow]at f;rw[Rw ()]at b;obtain⟨a,c,d⟩:=h.2 j r b;show#[a,by rw[PQ (by rw[Ow,hl];exact f),Rw ()];exact c,d]
 .rw[PH ()]at b;have e:(xs.take i).length=(M.take i).length:=by rw[Ow,Ow,hl]
  rw[List.getElem?_drop]at b;obtain⟨a,c,d⟩:=h.2 _ r b;show#[a,by rw[PH (),List.getElem?_drop,e];exact c,d]
theorem HQ{H:Hp}{r s:sv}(h:H a=some (.tup (r.map V.int)))(g:H a=some (.tup (s.map V.int))):r=s:=by
 rw[h]at g;injection g with g
 injection g with g
 exact rA g
end L2
namespace Bh
theorem GA(i l:Nat):min i l+(l- (i+1))<=l:=()
structure Mat(n:Nat)(r:Nat->Nat):Prop where
 n8:n<=8
 zero:r 0=0
 step:∀s k,s<2^n->k<n->r s<=r (s|||2^k)/\r (s|||2^k)<=r s+1
 sub:∀s j k,s<2^n->j<n->k<n->r (s|||2^j)=r s->r (s|||2^k)=r s->r (s|||2^j|||2^k)=r s
namespace Mat
variable{n:Nat}{r:Nat->Nat}(M:Mat n r)
include M
end Mat
namespace Mat
variable{n:Nat}{r:Nat->Nat}(M:Mat n r)
include M
end Mat
end Bh
namespace Bh
namespace Mat
variable{n:Nat}{r:Nat->Nat}(M:Mat n r)
include M
end Mat
end Bh
namespace Bh
theorem DZ{n s k:Nat}(b:s<2^n)(h:s.testBit k=true):k<n:=by refine Nat.lt_of_not_le λa=> ?_;rw[Qc (N7 b (OG () a))]at h;cases h
namespace Mat
variable{n:Nat}{r:Nat->Nat}(M:Mat n r)
include M
end Mat
end Bh
namespace L2
open PySem PySem.Spec PyProof.Rows
end L2
namespace L2
theorem Ae{b:Type}{p:List b->Prop}(h:p [])(us:List b)(e:us.length=0):p us:=by
 cases us with
 |nil=>exact h
 |cons a r=>cases e
theorem FR{b:Type}{p:List b->Prop}(h:∀(a:b)(r:List b),r.length=n->p (a::r))(us:List b)(e:us.length=n+1):p us:=by
 cases us with
 |nil=>cases e
 |cons a r=>exact h a r (Nat.succ.inj e)
theorem Ad{b:Type}{p:List b->Prop}(h:∀a,p [a])(us:List b)(e:us.length=1):p us:=FR (p:=p) (λa r=>Ae (p:=λr=>p (a::r)) (h a) r) us e
theorem Ac{c:Type}{p:List c->Prop}(h:∀a b,p [a,b])(us:List c)(e:us.length=2):p us:=FR (p:=p) (λa r=>Ad (p:=λr=>p (a::r)) (h a) r) us e
theorem Ab{d:Type}{p:List d->Prop}(h:∀a b c,p [a,b,c])(us:List d)(e:us.length=3):p us:=FR (p:=p) (λa r=>Ac (p:=λr=>p (a::r)) (h a) r) us e
theorem Aa{f:Type}{p:List f->Prop}(h:∀a b c d,p [a,b,c,d])(us:List f)(e:us.length=4):p us:=FR (p:=p) (λa r=>Ab (p:=λr=>p (a::r)) (h a) r) us e
theorem Dj{g:Type}{p:List g->Prop}(h:∀a b c d f,p [a,b,c,d,f])(us:List g)(e:us.length=5):p us:=FR (p:=p) (λa r=>Aa (p:=λr=>p (a::r)) (h a) r) us e
end L2
namespace Bh
namespace Mat
variable{n:Nat}{r:Nat->Nat}(M:Mat n r)
include M
end Mat
end Bh
namespace Bh
def cu(n:Nat)(fs:sk)(s:Nat):Nat:=fs.foldl (λl f=>if s&&&f=s then l&&&f else l) (2^n-1)
theorem rl(s k:Nat):∀(fs:sk)(l:Nat),(fs.foldl (λl f=>if s&&&f=s then l&&&f else l) l).testBit k=true↔l.testBit k=true/\∀f∈fs,s&&&f=s->f.testBit k=true
 | [],l=>by simp
 |f::fs,l=>by
  rw[Qn,rl s k fs];by_cases h:s&&&f=s
  .rw[NZ h,Qo,Oz];constructor
   .rintro⟨⟨d,b⟩,e⟩;show#[d,λg a c=> ?_];rcases N1.mp a with rfl|a
    .exact b
    .exact e g a c
   .rintro⟨d,b⟩;show#[#[d,b f (N8 ..) h],λg a c=>b g (N4 _ a) c]
  .rw[NW h];constructor
   .rintro⟨d,b⟩;show#[d,λg a c=> ?_];rcases N1.mp a with rfl|a
    .exact absurd c h
    .exact b g a c
   .rintro⟨d,b⟩;show#[d,λg a c=>b g (N4 _ a) c]
end Bh
namespace L2
open PySem PySem.Spec PyProof.Rows
section
variable{κ:Type}[DecidableEq κ]
def eG(kvs:List (κ×V))(k:κ):Option V:=(kvs.find? λa=>decide (a.1=k)).map (·.2)
def gV(kvs:List (κ×V))(k:κ)(v:V):List (κ×V):=
 if(kvs.any λa=>decide (a.1=k))=true then kvs.map (λa=>if a.1=k then(a.1,v)else a)else kvs++[(k,v)]
theorem cK{k:κ}(e:p.1=k):eG (p::r) k=some p.2:=by simp[eG,Qz,e]
theorem cO{k:κ}(e:¬p.1=k):eG (p::r) k=eG r k:=by simp[eG,Qz,e]
theorem lB(k:κ):∀kvs:List (κ×V),(kvs.any λa=>decide (a.1=k))=(eG kvs k).isSome
 | []=>rfl
 |p::r=>by
  rw[QG];by_cases e:p.1=k
  .simp only[cK e,N2 e,SY,Option.isSome_some]
  .rw[cO e,NX e,Rk];exact lB k r
theorem wq(k j:κ)(y:V):∀kvs:List (κ×V),eG (kvs.map λa=>if a.1=k then(a.1,y)else a) j=(eG kvs j).map λx=>if j=k then y else x
 | []=>rfl
 |p::r=>by
  have b:=wq k j y r;rw[OI];by_cases h:p.1=k
  .rw[NZ h];by_cases e:p.1=j
   .rw[cK (p:=(p.1,y)) e,cK e,R3,NZ (e.symm.trans h)]
   .rw[cO (p:=(p.1,y)) e,cO e,b]
  .rw[NW h];by_cases e:p.1=j
   .rw[cK (p:=p) e,cK e,R3,NW (λz=>h (e.trans z))]
   .rw[cO (p:=p) e,cO e,b]
theorem sO(k j:κ)(y:V):∀kvs:List (κ×V),eG kvs k=none->eG (kvs++[(k,y)]) j=if j=k then some y else eG kvs j
 | [],_=>by
  by_cases e:k=j
  .rw[NZ e.symm];exact cK (p:=(k,y)) e
  .rw[NW (λz=>e z.symm)];exact cO (p:=(k,y)) e
 |p::r,a=>by
  rw[SS];have b:¬p.1=k:=λz=>by rw[cK z]at a;cases a
  rw[cO b]at a;have c:=sO k j y r a;by_cases e:p.1=j
  .rw[cK e,cK e,NW (λz=>b (e.trans z))]
  .rw[cO e,cO e,c]
theorem wm(kvs:List (κ×V))(k j:κ)(y:V):eG (gV kvs k y) j=if j=k then some y else eG kvs j:=by
 unfold gV;by_cases a:(kvs.any λb=>decide (b.1=k))=true
 .rw[NZ a,wq];rw[lB]at a;by_cases e:j=k
  .obtain⟨x,hx⟩:=Rv.mp a;rw[NZ e,e,hx,R3,NZ rfl]
  .rw[NW e];cases eG kvs j with
   |none=>rfl
   |some x=>rw[R3,NW e]
 .rw[NW a];refine sO k j y kvs ?_;rw[lB]at a;cases q:eG kvs k with
  |none=>rfl
  |some x=>rw[q]at a;exact(a rfl).elim
theorem gz(kvs:List (κ×V))(k:κ)(v:V):(gV kvs k v).length<=kvs.length+1:=by
 unfold gV;split
 .rw[My];lia
 .rw[Od,Oa,Qp];lia
theorem ie.isSome_eq{o:Option V}{u:Option Value}(r:ie o u):o.isSome=u.isSome:=by
 cases o with
 |none=>cases u with
  |none=>rfl
  |some _=>exact(show False from r).elim
 |some _=>cases u with
  |none=>exact(show False from r).elim
  |some _=>rfl
theorem KV.val(r:KV kvs vs)(k:κ):ie (eG kvs k) (valueAt vs k):=by
 unfold KV at r
 induction r with
 |nil=>exact Og
 | @cons p q ps c h t g=>
  obtain⟨d,f⟩:=h;by_cases e:p.1=k
  .have a:q.1=k:=d.symm.trans e;have b:valueAt (q::c) k=some q.2:=by simp[valueAt,Qz,a]
   rw[cK e,b];exact f
  .have a:¬q.1=k:=λz=>e (d.trans z);have b:valueAt (q::c) k=valueAt c k:=by simp[valueAt,Qz,a]
   rw[cO e,b];exact g
theorem KV.any{kvs:List (κ×V)}{vs:List (κ×Value)}(r:KV kvs vs)(k:κ):(kvs.any λa=>decide (a.1=k))=vs.any λa=>decide (a.1=k):=by
 unfold KV at r
 induction r with
 |nil=>rfl
 |cons h t b=>rw[QG,QG,b,h.1]
theorem KV.repl{kvs:List (κ×V)}{vs:List (κ×Value)}(r:KV kvs vs)(k:κ)(f:bo y u):
  KV (kvs.map λa=>if a.1=k then(a.1,y)else a) (vs.map λa=>if a.1=k then(a.1,u)else a):=by
 unfold KV at r⊢
 induction r with
 |nil=>exact .nil
 | @cons p q ps g h t d=>
  rw[OI,OI];refine .cons ?_ d;obtain⟨b,c⟩:=h;by_cases e:p.1=k
  .rw[NZ e,NZ (b.symm.trans e)];show#[b,f]
  .rw[NW e,NW (λz=>e (b.trans z))];show#[b,c]
theorem KV.put(r:KV kvs vs)(k:κ)(a:bo y u):KV (gV kvs k y) (stored vs k u):=by
 unfold gV stored;rw[r.any k];by_cases e:(vs.any λb=>decide (b.1=k))=true
 .rw[NZ e,NZ e];exact r.repl k a
 .rw[NW e,NW e];exact Paired.snoc r #[2,a]
theorem KV.length{kvs:List (κ×V)}{vs:List (κ×Value)}(r:KV kvs vs):kvs.length=vs.length:=Paired.length r
end
theorem tZ(r:bo (kV k) u):(bD P w).is k u=true:=by
 cases k with
 |inl i=>obtain⟨t,e⟩:=(show∃t,u=Value.int i t from r);subst e;exact xB P w i t
 |inr x=>obtain⟨t,e⟩:=(show∃t,u=Value.str x t from r);subst e;exact eN P w x t
theorem t5:∀ {a:List Key} {us:qR},Vals (a.map kV) us->ItemsAre (bD P w) a us
 | [],_,r=>by rw[SQ]at r;cases r;exact .nil
 |k::a,_,r=>by
  rw[OI]at r;cases r with
  |cons h t=>exact .cons (tZ h) (t5 t)
abbrev KT(H:Hp):List (List Key×V)->List (List Key×Addr×Value)->Prop:=Paired λp q=>p.1=q.1/\H q.2.1=some (.tup (p.1.map kV))/\bo p.2 q.2.2
theorem KT.val(r:KT H kvs xs)(k:List Key):ie (eG kvs k) ((atKey xs k).map (·.2)):=by
 induction r with
 |nil=>exact Og
 | @cons p q ps c h t g=>
  obtain⟨d,_,f⟩:=h;by_cases e:p.1=k
  .have a:q.1=k:=d.symm.trans e;have b:atKey (q::c) k=some q.2:=by simp[atKey,Qz,a]
   rw[cK e,b];exact f
  .have a:¬q.1=k:=λz=>e (d.trans z);have b:atKey (q::c) k=atKey c k:=by simp[atKey,Qz,a]
   rw[cO e,b];exact g
theorem KT.repl{kvs:List (List Key×V)}{xs:List (List Key×Addr×Value)}(r:KT H kvs xs)(k:List Key)(g:bo y u):
  KT H (kvs.map λb=>if b.1=k then(b.1,y)else b) (xs.map (putAt k u)):=by
 induction r with
 |nil=>exact .nil
 | @cons p q ps i h t f=>
  rw[OI,OI];refine .cons ?_ f;obtain⟨a,c,d⟩:=h;unfold putAt;by_cases e:p.1=k
  .rw[NZ e,NZ (a.symm.trans e)];show#[a,c,g]
  .rw[NW e,NW (λz=>e (a.trans z))];show#[a,c,d]
theorem KT.put(r:KT H kvs xs)(k:List Key)(hb:H b=some (.tup (k.map kV)))(a:bo y u):
  KT H (gV kvs k y) (storedH xs k b u):=by
 have e:(kvs.any λc=>decide (c.1=k))=(atKey xs k).isSome:=by rw[lB,(r.val k).isSome_eq,RD]
 unfold gV storedH;rw[e];by_cases q:(atKey xs k).isSome=true
 .rw[NZ q,NZ q];exact r.repl k a
 .rw[NW q,NW q];exact Paired.snoc r #[2,hb,a]
theorem KT.keeps(r:KT H kvs xs)(c:∀b a,H b=some (.tup a)->H' b=some (.tup a)):KT H' kvs xs:=
 Paired.mapP r λ_ _ z=>#[z.1,c _ _ z.2.1,z.2.2]
section
variable{P:tj}{w:vu}{H:Hp}{h:Heap}{a:Addr}
theorem Kf(ok:HOk P w H h)(e:Rd H a u):bx P w H h a u:=e.ok ok
theorem uf{kvs:List (Key×V)}(ok:HOk P w H h)(e:Rd H a (.dK kvs)):kvs.length<=sizeLine/\(a==sysModules)=false/\∃vs,KV kvs vs/\h.DictOf (bD P w) a vs:=
 show bx P w H h a (.dK kvs)from Kf ok e
theorem BE{kvs:List (Key×V)}(ok:HOk P w H h)(e:H a=some (.dK kvs)):kvs.length<=sizeLine/\(a==sysModules)=false/\∃vs,KV kvs vs/\h.DictOf (bD P w) a vs:=uf ok (.inl e)
theorem rp{b:List Key}(ok:HOk P w H h)(e:H a=some (.tup (b.map kV))):(tupleKind (bD P w)).is h b a:=by obtain⟨_,g,r,o,c,d,n,f⟩:=(show bx P w H h a (.tup (b.map kV))from ok a _ e);show#[o,g.toArray,n,c,d,f,#[5,t5 r]]
theorem ud{kvs:List (List Key×V)}(ok:HOk P w H h)(e:Rd H a (.dT kvs)):kvs.length<=sizeLine/\(a==sysModules)=false/\
  ∃xs,KT H kvs xs/\h.DictOfH (tupleKind (bD P w)) a xs:=by
 obtain⟨z,y,xs,r,o,es,ep,c,d,f,g,i⟩:=(show bx P w H h a (.dT kvs)from Kf ok e);show#[z,y,xs,r,o,es,ep,c,d,f,g,λx hx=> ?_,i];have all:∀ {l:List (List Key×V)} {m:List (List Key×Addr×Value)},KT H l m->∀x∈m,(tupleKind (bD P w)).is h x.1 x.2.1:=by
  intro l m q
  induction q with
  |nil=>intro x hx;exact nomatch hx
  | @cons p q ps k b t j=>
   intro x hx;rcases N1.mp hx with e|hx
   .subst e;exact rp ok (by rw[<-b.1];exact b.2.1)
   .exact j x hx
 exact all r x hx
theorem Nr{kvs:List (List Key×V)}(ok:HOk P w H h)(e:H a=some (.dT kvs)):kvs.length<=sizeLine/\(a==sysModules)=false/\
  ∃xs,KT H kvs xs/\h.DictOfH (tupleKind (bD P w)) a xs:=ud ok (.inl e)
end
def pH(H:Hp)(a:Addr)(y:V)(r:Option V):Prop:=
 (∃kvs k,Rd H a (.dK kvs)/\y=kV k/\r=eG kvs k)\/∃kvs k b,Rd H a (.dT kvs)/\y= .ref b/\H b=some (.tup (k.map kV))/\r=eG kvs k
def HH(H:Hp)(a:Addr)(y v:V)(H':Hp):Prop:=
 (∃kvs k,H a=some (.dK kvs)/\y=kV k/\kvs.length<sizeLine/\H'=upd H a (.dK (gV kvs k v)))\/
 ∃kvs k b,H a=some (.dT kvs)/\y= .ref b/\H b=some (.tup (k.map kV))/\kvs.length<sizeLine/\H'=upd H a (.dT (gV kvs k v))
theorem pH.k{k:Key}(e:H a=some (.dK kvs)):pH H a (kV k) (eG kvs k):= .inl #[kvs,k, .inl e,22]
theorem HH.k{kvs:List (Key×V)}{k:Key}(e:H a=some (.dK kvs))(hl:kvs.length<sizeLine):HH H a (kV k) v (upd H a (.dK (gV kvs k v))):= .inl #[kvs,k,e,2,hl,2]
section
variable{X:Cx}{pins:js}{σ:St}{H:Hp}{s:tr}{a:Addr}{y v:V}{u r:Value}{o:Option V}{A:vr}{E:f6}
theorem Inv.big(I:Inv X pins σ H s):sysModules<s.heap.objs.size:=by have h:mainGlobals<s.heap.objs.size:=(I.mod.glob.keeps I.bk).lt;exact PJ ∅ h
theorem DJ(B:A.units+1<cLine)(I:Inv X pins σ H s)(g:pH H a y (some v))(m:bo y u)(h:∀c s',Inv X pins σ H s'->bo v c->Q c s'):
  wpAny (model X.prog X.w) A (getItem (.ref a) u) Q E s:=by
 rcases g with ⟨kvs,k,e,d,l⟩|⟨kvs,k,b,e,d,n,l⟩
 .subst d;obtain⟨z,q,vs,i,dd⟩:=uf I.hok e;obtain⟨c,f,j⟩:=ie.some_of (v:=v) (o:=valueAt vs k) (by rw[l];exact i.val k);exact wpAny_getItem_of (tZ m) dd.mapOf f (h c _ (I.tok _) j)
 .subst d;cases (show u=Value.ref b from m);obtain⟨z,q,xs,i,dd⟩:=ud I.hok e;obtain⟨c,f,j⟩:=ie.some_of (v:=v) (o:=(atKey xs k).map (·.2)) (by rw[l];exact i.val k);obtain⟨p,t,x⟩:=Q3.mp f;refine wpAny_getItem_heap (Rx B) (rp I.hok n) dd t ?_;rw[x];exact h c _ (I.tok _) j
theorem NQ(m:A.units+1<cLine)(I:Inv X pins σ H s)(g:pH H a y o)(i:bo y u)(h:∀s',Inv X pins σ H s'->Q (.bool o.isSome) s'):
  wpAny (model X.prog X.w) A (compareOp .In u (.ref a)) Q E s:=by
 rcases g with ⟨kvs,k,e,c,l⟩|⟨kvs,k,b,e,c,j,l⟩
 .subst c;obtain⟨z,d,vs,f,dd⟩:=uf I.hok e;refine wpAny_in_of (tZ i) d dd.mapOf ?_;rw[<-(f.val k).isSome_eq,<-l];exact h _ (I.tok _)
 .subst c;cases (show u=Value.ref b from i);obtain⟨z,d,xs,f,dd⟩:=ud I.hok e;refine wpAny_in_heap (Rx m) (rp I.hok j) d dd ?_;have q:=(f.val k).isSome_eq;rw[RD]at q;rw[<-q,<-l];exact h _ (I.tok _)
theorem JP(m:A.units+1<cLine)(I:Inv X pins σ H s)(g:pH H a y o)(i:bo y u)(h:∀s',Inv X pins σ H s'->Q (.bool (!o.isSome)) s'):
  wpAny (model X.prog X.w) A (compareOp .NotIn u (.ref a)) Q E s:=by
 rcases g with ⟨kvs,k,e,c,l⟩|⟨kvs,k,b,e,c,j,l⟩
 .subst c;obtain⟨z,d,vs,f,dd⟩:=uf I.hok e;refine wpAny_notIn_of (tZ i) d dd.mapOf ?_;rw[<-(f.val k).isSome_eq,<-l];exact h _ (I.tok _)
 .subst c;cases (show u=Value.ref b from i);obtain⟨z,d,xs,f,dd⟩:=ud I.hok e;refine wpAny_notIn_heap (Rx m) (rp I.hok j) d dd ?_;have q:=(f.val k).isSome_eq;rw[RD]at q;rw[<-q,<-l];exact h _ (I.tok _)
theorem vN{h':Heap}(I:Inv X pins σ H s)(f:Mut (H a))(d:Heap.SameBut a s.heap h')(c:∃q,h'.get? a=some q)(new:bx X.prog X.w (upd H a ob) h' a ob):
  Inv X pins σ (upd H a ob) {s with heap:=h',toks:=t'}:=
 I.write (x:=a) (e:=a) f (.inl rfl) (λb q hb z=>(d.2 b hb).trans z) c new
theorem Gv{h':Heap}{kvs:List (Key×V)}(z:kvs.length<=sizeLine)(b:(a==sysModules)=false)(c:KV kvs vs)(dd:h'.DictOf (bD P w) a vs):
  bx P w H' h' a (.dK kvs):=#[z,b,vs,c,dd]
theorem DI(O:A.units+1<cLine)(I:Inv X pins σ H s)(g:HH H a y v H')(G:bo y u)(B:bo v r)(h:∀s',Inv X pins σ H' s'->Q Unit.unit s'):
  wpAny (model X.prog X.w) A (setItem (.ref a) u r) Q E s:=by
 rcases g with ⟨kvs,k,e,m,l,j⟩|⟨kvs,k,b,e,m,t,l,j⟩
 .subst m j;obtain⟨z,n,vs,d,dd⟩:=BE I.hok e;have hz:vs.length<=sizeLine:=by rw[<-d.length];exact z
  have hl:(gV kvs k v).length<=sizeLine:=by have:=gz kvs k v;lia
  refine wpAny_setItem_pairs (hsz:=hz) (tZ G) dd λh' f p=>h _ ?_;have N:∃q,h'.get? a=some q:=let⟨q,_,_,i,_⟩:=f;#[q,i];exact vN I (by rw[e];exact Og) p N (Gv hl n (d.put k B) f)
 .subst m j;cases (show u=Value.ref b from G);obtain⟨z,n,xs,d,dd⟩:=Nr I.hok e;have hz:xs.length<=sizeLine:=by rw[<-Paired.length d];exact z
  have hl:(gV kvs k v).length<=sizeLine:=by have:=gz kvs k v;lia
  refine wpAny_setItem_heap (hsz:=hz) (Rx O) (rp I.hok t) dd λh' f p=>h _ ?_;obtain⟨q,es,ep,i,J,K,L,_,M⟩:=f;refine vN I (by rw[e];exact Og) p #[q,i] #[hl,n,_,(d.put k t B).keeps λc U x=> ?_,q,es,ep,i,J,K,L,M];rw[aj (jG x e (λz=>nomatch z))];exact x
end
def Mh(i:Expr):Prop:=∀b a,subscripted i false b a=operate [b,a] (getItem b a)
theorem AQ{T id:tT}{Q:f6}(hl:typeLookup (.type T) "__getitem__"=pure (some (.builtin id)))(e:Mh slice)(h:wpAny (model prog w) A (eval value env) (λo c=>wpAny (model prog w) A (eval slice env) (λi a=>a.TypeIs o T/\wpAny (model prog w) A (getItem o i) Q E a) E c) E s):
  wpAny (model prog w) A (eval (.Subscript value slice pos) env) Q E s:=by
 refine Subscript_ (ON h (λo c f=>ON f (λi a h₂=> ?_) λ_ _ x=>x) λ_ _ x=>x);obtain⟨hT,h₂⟩:=h₂;unfold subscriptTail;refine NU ?_;rw[getitemInPython_of_ne hT.not_modules];refine NU (wpAny_specialOf hT hl ?_);have b:wpAny (model prog w) A (subscripted slice false o i) (λr d=>wpAny (model prog w) A (letTemporaryGo value o r>>=λ_=>pure r) Q E d) E a:=by rw[e o i];exact wpAny_operating (ON h₂ (λr d g=>NU (wpAny_letTemporaryGo (N0 g))) λ_ _ x=>x)
 first
  |exact N0 (NU b)
  |exact NU (N0 (NU b))
  |exact NU b
theorem xZ{c:St}{s:tr}(I:Inv X pins c H s)(g:pH H a y o):s.TypeIs (.ref a) TH:=by
 rcases g with ⟨kvs,k,e,_,_⟩|⟨kvs,k,b,e,_,_,_⟩
 .obtain⟨_,_,vs,_,dd⟩:=uf I.hok e;exact dd.typeIs
 .obtain⟨_,_,xs,_,dd⟩:=ud I.hok e;exact dd.typeIs
def Mw(e ty:TE):TE:=λc H Q=>e c H λx d=>ty c d λy b=>∃a v,x= .ref a/\pH b a y (some v)/\Q v b
def NI(ty e:TE):TE:=λc H Q=>ty c H λy d=>e c d λx b=>∃a o,x= .ref a/\pH b a y o/\Q (.bl o.isSome) b
def HV(ty e:TE):TE:=λc H Q=>ty c H λy d=>e c d λx b=>∃a o,x= .ref a/\pH b a y o/\Q (.bl (!o.isSome)) b
def MN(g ty tv:TE):TS:=λD b H=>tv b H λv d=>g b d λx e=>ty b e λy f=>∃a c,x= .ref a/\HH f a y v c/\D.nx b c
section
variable{X:Cx}{o i e value:Expr}{pos pos' tpos:Pos}{td ty tv:TE}
theorem Bj(q:X.A.units+1<cLine)(m:PE X o td)(l:PE X i ty)(p:Mh i):PE X (.Subscript o i pos) (Mw td ty):=by intro c s d H Q I h;refine AQ SI.lookup p (thn (m c s d H _ I h) λu G ⟨x,f,k,z,r⟩=>thn (l c G d f _ k r) λJ K n=> ?_);obtain⟨y,j,b,B,a,v,ex,g,t⟩:=n;subst ex;obtain rfl:u=Value.ref a:=z;show#[xZ b g,DJ q b g B λM L I3 w=>#[v,j,I3,w,t]]
theorem LB(p:X.A.units+1<cLine)(l:PE X i ty)(m:PE X o td):PC X .In i o (NI ty td):=by intro b s c H Q I h;refine thn (l b s c H _ I h) λB z ⟨y,d,j,w,r⟩=>thn (m b z c d _ j r) λu G n=> ?_;obtain⟨x,f,k,v,a,q,ex,g,t⟩:=n;subst ex;obtain rfl:u=Value.ref a:=v;exact NQ p k g w λJ I3=>#[.bl q.isSome,f,I3,2,t]
theorem tG(p:X.A.units+1<cLine)(l:PE X i ty)(m:PE X o td):PC X .NotIn i o (HV ty td):=by intro b s c H Q I h;refine thn (l b s c H _ I h) λB z ⟨y,d,j,w,r⟩=>thn (m b z c d _ j r) λu G n=> ?_;obtain⟨x,f,k,v,a,q,ex,g,t⟩:=n;subst ex;obtain rfl:u=Value.ref a:=v;exact JP p k g w λJ I3=>#[.bl (!q.isSome),f,I3,2,t]
theorem Bg(w:X.A.units+1<cLine)(p:PE X o td)(n:PE X i ty)(z:PE X value tv)(t:swapsWith value (some (.Subscript o i pos')) pos.line X.env=pure false):
  PS X (.Assign [.Subscript o i pos'] value pos) (MN td ty tv):=by
 intro c s b H D I h;refine wpAny_Assign_Subscript (thn (z c s b H _ I h) λr N ⟨v,d,k,K,B⟩=>thn (p c N b d _ k B) λu O ⟨x,f,l,L,G⟩=>thn (n c O b f _ l G) λU s3 q=> ?_) t;obtain⟨y,Q,I3,M,a,j,ex,g,J⟩:=q;subst ex;obtain rfl:u=Value.ref a:=L;exact DI w I3 g M K λs4 m=>#[b,j,m,J]
end
theorem xY(h:Heap)(hb:sysModules<h.objs.size):bx P w H (h.push {cls:= .type TH,data:= .dict #v[]}) h.objs.size (.dK []):=
 #[Pw _,P7.mpr (Pj (Oe hb)),[], .nil,Heap.DictOf.new h]
def KQ:TE:=λ_ H Q=>∀p,H p=none->Q (.ref p) (upd H p (.dK []))
section
variable{X:Cx}{pos:Pos}
theorem xa:PE X (.Dict [] [] pos) KQ:=λb s c H Q I h=>
 wpAny_Dict_empty #[.ref s.heap.objs.size,_,I.laid (a:=s.heap.objs.size) (o:= .dK []) (t':=s.toks) (λ_ _ q=>NY _ q) (N3 _) (xY s.heap I.big),2,h _ (I.hok.fresh (N3 _))]
end
def IsD(H:Hp)(a:Addr):Prop:=(∃kvs,Rd H a (.dK kvs))\/∃kvs,Rd H a (.dT kvs)
theorem LW{i:St}{s:tr}(I:Inv X pins i H s)(d:IsD H a):
  s.TypeIs (.ref a) TH/\(∀b,Value.ref a= .ref b->∃c,s.heap.get? b=some c/\c.dict=none)/\(a==sysModules)=false:=by
 rcases d with ⟨kvs,e⟩|⟨kvs,e⟩
 .obtain⟨_,h,vs,_,dd⟩:=uf I.hok e;show#[dd.typeIs,λb q=> ?_,h];cases q;obtain⟨c,_,_,f,g,_⟩:=dd;show#[c,f,g.2.1]
 .obtain⟨_,h,xs,_,dd⟩:=ud I.hok e;show#[dd.typeIs,λb q=> ?_,h];cases q;obtain⟨c,_,_,f,g,_⟩:=dd;show#[c,f,g.2.1]
end L2
namespace PySem
open Sem (wp)
theorem vD:typeLookup (.type Ts) "keys"=pure none:=by rw[S7,RS];kernel_rfl
theorem gg:entryFor table Ua=some Builtin.«dict.update.loop»:=entryFor_of_tree (by kernel_rfl)
theorem cy:plainId Ua=true:=#[9]
theorem ro{A:vr}{s:tr}{o:Obj}(hx:s.heap.get? a=some o)(f:o.cls= .type Ts)(j:o.data= .seq xs k)(i:o.dict=none)(q:A.handled=none)(h:∀h' n,(∀b m,s.heap.get? b=some m->h'.get? b=some m)->Q none {s with heap:=h',toks:=n}):wpAny (model prog w) A (getAttr? (.ref a) "keys") Q E s:=by
 obtain⟨c,v,u,t⟩:=o;simp only at f j i;subst f j i;obtain⟨r,g,d,n,os⟩:=s;have hT:∀p,(#[r,g,d,p,os]:tr).TypeIs (.ref a) Ts:=λ_=>#[_,hx,2];have f1:=sub_AttributeError;have x:=Ry.lookup;have y:=Ry.bind (.ref a);have z:=am_list_getattr_none;unfold getAttr? getAttrBy? getAttrBy
 repeat (any_goals (first|assumption|exact hT _|((with_reducible show wpAny _ _ (call (Value.builtin "list.__getattribute__") _ _) _ _ _);refine RZ Ry (hT _) am_entry_list_getattribute (F.args_list_getattribute_2 _ _) (meets_getattribute_miss_list a xs k t "keys" _ vD #[9] (by size_fits)) ⟨hx,q,λh' p e l=> ?_⟩)|wp_step))
 obtain⟨t',G,B⟩:=l.there;show wpAny _ _ (getattributeRaised _ _ _ _ _ _ _) _ _ _;unfold getattributeRaised
 repeat (any_goals (first|assumption|wp_step))
 exact h _ _ l.keeps
end PySem
namespace L2
open PySem PySem.Spec PyProof.Rows
def kX(m:List (Key×V))(ps:List (Key×V)):List (Key×V):=ps.foldl (λm p=>gV m p.1 p.2) m
theorem KD(e:H a=some u):upd H a u=H:=by
 funext b;by_cases hb:b=a
 .subst hb;rw[ag,e]
 .rw[aj hb]
section
variable{X:Cx}{pins:js}{σ:St}
theorem wx{A:vr}(M:A.in1.handled=none){c:List V}:
  ∀(ps:List (Key×V)) (i:Nat) (z:Int) (s:tr) (H:Hp) (kvs:List (Key×V)),Inv X pins σ H s->H d=some (.dK kvs)->kvs.length+ps.length<=sizeLine->sM X pins H it->s.heap.IsListIter it l i->H l=some (.lst c)->i+ps.length=c.length->
   (∀j p,ps[j]?=some p->∃t,c[i+j]?=some (.ref t)/\H t=some (.tup [kV p.1,p.2]))->(∀s',Inv X pins σ (upd H d (.dK (kX kvs ps))) s'->R (.ok (.ret .none)) s')->
   codeAny (model X.prog X.w) A (.builtin Ua #[[.ref d, .ref it,rawInt z, .none],[]]) R s
 | [],i,z,s,H,kvs,I,a,hsz,y,B,hl,N,G,v=>by obtain⟨b4,K,p1,hz⟩:=I.list (.inl (show Rd H l (.lst c)from .inl hl));obtain⟨f0,f1,f2,g,h,k⟩:=y;have cN:=K.length;refine Px gg ?_;rw[P4 cy _];show wpAny _ A.in1 (pyNext (.ref it)>>=_) _ _ s;refine NU (wpAny_pyNext_list_end M B p1.isList (by simp at N⊢;lia) λh' eb=> ?_);have f:Inv X pins σ H {s with heap:=h'}:=I.turned (t':=s.toks) (λb o hb e=>eb b o hb e) f0 f1 g h k;show wpAny _ _ (Builtin.Dict.addKeywords d []>>=_) _ _ _;refine NU (N0 (N0 (v _ ?_)));rw[show kX kvs []=kvs from rfl,KD a];exact f
 |p::ps,i,z,s,H,kvs,I,a,hsz,y,B,hl,N,G,v=>by
  obtain⟨b4,K,p1,hz⟩:=I.list (.inl (show Rd H l (.lst c)from .inl hl));obtain⟨f0,f1,f2,g,h,k⟩:=id y;obtain⟨t,hy,ht⟩:=G 0 p rfl;obtain⟨u,hu,ru⟩:=K.get hy;refine Px gg ?_;rw[P4 cy _];show wpAny _ A.in1 (pyNext (.ref it)>>=_) _ _ s;refine NU (wpAny_pyNext_list_item B p1.isList (x:=u) #[5,hu] λU bN sb=> ?_);have m:Inv X pins σ H {s with heap:=U}:=I.turned (t':=s.toks) (λb o hb e=>(sb.2 b hb).trans e) f0 f1 g h k;cases ru;obtain⟨c2,rt,pt,_⟩:=m.tuple (SqT.of ht);obtain⟨u1,u2,rfl,r1,r2⟩:=Vals.two rt;obtain⟨o,O,hc,n,a3⟩:=pt;have hT:({s with heap:=U}:tr).TypeIs (.ref t) TN:=#[o,O,hc];show wpAny _ _ (holding [Value.ref t] _>>=_) _ _ _;refine NU (O4 (NU (wpAny_tryCatch ?_)));unfold Builtin.Dict.pairItems;refine NU (R4 hT ?_);rw[NZ ∅];refine NU (wpAny_seqItems O a3 (N0 ?_));show wpAny _ _ (holding [u1,u2] (dictSet d u1 u2)) _ _ _;obtain⟨zz,bk,vs,ab,dd⟩:=BE m.hok a;have b3:vs.length<=sizeLine:=by rw[<-ab.length];exact zz
  have c1:(gV kvs p.1 p.2).length<=kvs.length+1:=gz kvs p.1 p.2;have cT:(p::ps).length=ps.length+1:=rfl;refine O4 (wpAny_dictSet_pairs (hsz:=b3) (tZ r1) dd λh' L Q=> ?_);have he:∃q,h'.get? d=some q:=let⟨q,_,_,J,_⟩:=L;#[q,J];have I2:=vN (t':=s.toks+1) m (by rw[a];exact Og) Q he (Gv () bk (ab.put p.1 r2) L);have nd:it≠d:=λe=>by rw[e,a]at f0;cases f0
  have nl:l≠d:=λe=>by rw[e,a]at hl;cases hl
  refine N0 #[Rm cy _,wx M ps (i+1) (z+1) _ _ (gV kvs p.1 p.2) I2 ag () #[by rw[aj nd];exact f0,f1,f2,g,h,k] ?_ (by rw[aj nl];exact hl) () (λj q J=> ?_) λs' f=>v s' ?_]
  .obtain⟨o',e',c',d'⟩:=bN;show#[o',(Q.2 it nd).trans e',c',d']
  .obtain⟨t',h1,r⟩:=G (j+1) q J;show#[t',by rw[show i+1+j=i+(j+1) by lia];exact h1,6];rw[aj (λe=>by rw[e,a]at r;cases r)];exact r
  .rwa[eC]at f
def IE:List V->Hp->VK->Prop:=λxs H Q=>∃(l:Addr)(a:List V) (ps:List (Key×V)),xs=[.ref l]/\H l=some (.lst a)/\ps.length=a.length/\ps.length<=1000/\
 (∀(j:Nat)(p:Key×V),ps[j]?=some p->∃t:Addr,a[j]?=some (.ref t)/\H t=some (.tup [kV p.1,p.2]))/\∀d,H d=none->Q (.ref d) (upd H d (.dK (kX [] ps)))
theorem ym(O:X.calm=true):bz X (.type TH) IE:=by
 intro pins s σ H xs us Q I G h;obtain⟨l,g,ps,rfl,hl,a3,a0,hp,q⟩:=h;obtain⟨u,rfl,ru⟩:=fJ G;cases ru;have r:=I.ok.hd O;refine callType_codes (Q₁:=λB J=>B= .ref s.heap.objs.size/\J={s with heap:=s.heap.push {cls:= .type TH,data:= .dict #v[]}}) F.kt_called_dict (F.kt_typeCall_dict_1 _) F.entry_dict_init (kt_code_dict_new _ #[22]) ?_;rintro B J ⟨rfl,rfl⟩;have i:Inv X pins σ (upd H s.heap.objs.size (.dK [])) {s with heap:=s.heap.push {cls:= .type TH,data:= .dict #v[]}}:=I.laid (a:=s.heap.objs.size) (o:= .dK []) (t':=s.toks) (λ_ _ q=>NY _ q) (N3 _) (xY s.heap I.big);have d:H s.heap.objs.size=none:=I.fresh;have nl:l≠s.heap.objs.size:=ah hl d;have f:upd H s.heap.objs.size (.dK []) l=some (.lst g):=by rw[aj nl];exact hl
 have v:(s.heap.push {cls:= .type TH,data:= .dict #v[]}).DictOf (bD X.prog X.w) s.heap.objs.size []:=Heap.DictOf.new s.heap;obtain⟨bp,G,p1,hz⟩:=i.list (.inl (show Rd _ l (.lst g)from .inl f));obtain⟨o,n,x,m,U,ab⟩:=id p1;have N:({s with heap:=s.heap.push {cls:= .type TH,data:= .dict #v[]}}:tr).TypeIs (.ref l) Ts:=#[o,x,m];show#[v.typeIs,F.args_dict_init_2 _ _,6];unfold Builtin.«dict.__init__»;refine NU ?_;unfold Builtin.Dict.selfAndRest;refine NU (wpAny_notOrdered_dict v.typeIs ?_);show wpAny _ _ (pure (s.heap.objs.size,[Value.ref l])) _ _ _;refine N0 ?_;show wpAny _ _ (Builtin.Dict.updateFrom "dict.__init__" s.heap.objs.size (.ref l) [] .none) _ _ _;unfold Builtin.Dict.updateFrom;refine NU (R4 N ?_);rw[NZ ∅];refine NU (ro x m ab U r λh' K kp=> ?_);have c:=i.own (h₂:=h') (t':=K) [] (λ_ z=>nomatch z) λb y _ e=>kp b y e;rw[NZ (show(none:Option Value).isNone=true from rfl)];refine NU (wpAny_rule ?_);obtain⟨bN,b0,p2,bk⟩:=c.list (.inl (show Rd _ l (.lst g)from .inl f));refine NU (Q4 p2.isList ?_);have I3:=c.own (h₂:=h'.push {cls:= .type "list_iterator",data:= .fields #v[.ref l, .int 0 0]}) (t':=K) [] (λ_ z=>nomatch z) λb y _ e=>NY _ e;refine N0 #[Rm cy _,wx (A:=X.A.in1) r ps 0 0 _ _ [] I3 ag (NV (by show 0+ps.length<=1000;lia) ∅) (c.fpOk (N3 _) c.fresh) #[_,Oi _ rfl,22] f () (λj p ar=> ?_) λs' L=>#[2, .ref s.heap.objs.size,_,L,26]]
 .obtain⟨t,M,k⟩:=hp j p ar;show#[t,by rw[R0];exact M,6];rw[aj (ah k d)];exact k
 .rw[eC];exact q _ d
end
end L2
namespace L2
open PySem PySem.Spec PyProof.Rows PySem.W
theorem i4:plainId Uh=true:=#[9]
section
variable{prog:tj}{w:vu}{A:vr}{E:f6}{s:tr}{T:tT}{r d:Addr}{n:Nat}{P:Nat->Value->Prop}{OK:Heap->Prop}
theorem vP(f:KdlSrc prog w T r d n P OK)(m:A.handled=none)(j:OK s.heap)(q:n<=sizeLine)(h:∀h' g a c,(∀b o,s.heap.get? b=some o->h'.get? b=some o)->h'.get? s.heap.objs.size=some {cls:= .type Ts,dict:=none,data:= .seq a c,slots:= #v[]}->ItemsOf P a n->R (.ok (.ret (.ref s.heap.objs.size))) {s with heap:=h',toks:=g}):
  codeAny (model prog w) A (.builtin "proto.collect" #[[.ref r],[]]) R s:=by
 have i:=f.there _ j;refine Px entry_proto_collect' ?_;show wpAny _ _ (do again (.builtin Uh #[[<-newList [], .ref r],[]])) _ _ s;refine NU (Ss (N0 #[Qw _ #[9],Px entry_list_iadd' ?_]));rw[P4 i4 _];show wpAny _ _ (Builtin.List.listExtendWith (.ref s.heap.objs.size) (.ref r) (.ref s.heap.objs.size)) _ _ {s with heap:=s.heap.push (seqObj Ts #v[] 0)};exact kdl_extend (s:={s with heap:=s.heap.push (seqObj Ts #v[] 0)}) f m (f.keep s.heap (s.heap.push (seqObj Ts #v[] 0)) j λb _ o e=>NY _ e) s.heap.objs.size (Qb i.1) (Qb i.2) (.ref s.heap.objs.size) 0 (Oi _ rfl)
  (λh' g a c p k l=>h h' g a c (λb o e=>p b o (Oe (N6 e)) (NY _ e)) k l) q
theorem yf(i:KdlSrc prog w T r d n P OK)(l:A.handled=none)(q:OK s.heap)(p:n<=sizeLine)(h:∀h' a (vs:qR),(∀b o,s.heap.get? b=some o->h'.get? b=some o)->s.heap.objs.size<h'.objs.size->vs.length=n->(∀j v,vs[j]?=some v->P j v)->Q vs {s with heap:=h',toks:=a}):
  wpAny (model prog w) A (collect (.ref r)) Q E s:=by
 unfold collect;refine NU (Sd (vP i l q p λh' a k c m f g=> ?_));show wpAny (model prog w) A (do
   let o<-load s.heap.objs.size
   match o.data with
   | .seq xs _=>pure xs.toList
   |_=>unsupported "internal:collect") Q E {s with heap:=h',toks:=a}
 refine NU (wpAny_load f ?_);exact N0 (h h' a k.toList m (N6 f) (by rw[Ou];exact g.1) λj v e=>g.2 j v (by rw[<-Pu];exact e))
theorem zd(l:KdlSrc prog w T r d n P OK)(z:A.handled=none)(H:OK s.heap)(x:∀vs:List Value,vs.length=n->(∀j v,vs[j]?=some v->P j v)->IntsAre vs ns)(u:n<64)(h:∀(a:Addr) h' g (out:qs) (c:sv) e,(∀b o,s.heap.get? b=some o->h'.get? b=some o)->s.heap.objs.size<=a->h'.get? a=some (seqObj Ts out e)->IntsAre out.toList c->c.Perm ns->c.Pairwise (· <= ·)->Q (.ref a) {s with heap:=h',toks:=g}):
  wpAny (model prog w) A (call (.builtin Ue) [.ref r]) Q E s:=by
 refine Calls.call_function_entry kind_sorted plain_sorted entry_sorted (args_sorted1 _) ?_;unfold Builtin.«sorted»;refine NU (m:=checkCount Ue 1 1 _) (N0 ?_);refine NU (yf l z H (NV (Qa u) ∅) λk g vs G hsz hl J=> ?_);have B:=x vs hl J;refine NU (Ss ?_);have f:(k.push (seqObj Ts vs.toArray 0)).get? k.objs.size=some (seqObj Ts vs.toArray 0):=Oi _ rfl;refine NU (O4 (Qg slot_list_sort #[_,f,2] entry_list_sort (list_sort_tree f B () λout c p q t=>#[76]) (args_list_sort _)));obtain⟨e,y⟩:=sortedHeap_at (out:=out) f;refine N0 #[7,h _ _ g out c e (λb o i=> ?_) (Qa hsz) y p q t];have hb:=N6 i;rw[sortedHeap_old (Oe (PJ hb hsz)) (by rw[size_push'];exact Qr (PJ hb hsz))];exact NY _ (G b o i)
end
def nR(v d:Addr):HO:= .ext λh=>h.IsValuesView v d
def KP(c:TE):TE:=λd H Q=>c d H λx b=>∃(a:Addr) (kvs:List (Key×V)),x= .ref a/\b a=some (.dK kvs)/\∀v,b v=none->Q (.ref v) (upd b v (nR v a))
def Ld:List V->Hp->VK->Prop:=λxs H Q=>∃(v a:Addr) (kvs:List (Key×V)) (ns:sv),xs=[.ref v]/\H v=some (nR v a)/\H a=some (.dK kvs)/\kvs.map (·.2)=ns.map V.int/\ns.length<64/\
 ∀l (ms:sv),H l=none->ms.Perm ns->ms.Pairwise (· <= ·)->Q (.ref l) (upd H l (.lst (ms.map V.int)))
theorem Jy:∀ {kvs:List (Key×V)} {vs:List (Key×Value)},KV kvs vs->Vals (kvs.map (·.2)) (vs.map (·.2)):=by
 intro kvs vs r
 induction r with
 |nil=>exact .nil
 |cons h _ a=>exact .cons h.2 a
section
variable{X:Cx}{o:Expr}{apos cpos:Pos}{td:TE}
theorem As(n:X.calm=true):bz X (.builtin Ue) Ld:=by
 intro L s M H xs us Q I B h;obtain⟨v,a,kvs,ns,rfl,r,k,f,j,q⟩:=h;obtain⟨u,rfl,A⟩:=fJ B;cases A;obtain⟨t,_,_⟩:=I.hok v _ r;obtain⟨z,J,vs,g,dd⟩:=BE I.hok k;obtain⟨ep,m⟩:=dd.dictAt;have K:vs.length=ns.length:=by have d:=g.length;have b:=OL List.length f;rw[My,My]at b;lia
 refine zd (ns:=ns) (kdl_values (knd:=bD X.prog X.w) (kvs:=vs) (ep:=ep)) (I.ok.hd n) #[t,m] (λws hl y=> ?_) () λl h' G out ms e c hsz p d b i=> ?_
 .rw[kdl_vals_eq ws hl y];have c:=Jy g;rw[f]at c;exact iR c
 .have x:=lA d;show#[.ref l,_,I.laid (t':=G) c hsz (show bx X.prog X.w _ _ _ (.lst (ms.map V.int))from#[6,out.toList,e,x,6]),2,q _ ms (I.hok.fresh hsz) b i]
  .rw[My,b.length_eq];exact NV (Qa j) ∅
  .rw[p]
theorem E9(d:PE X o td)(f:attributeBase o "values" X.env (eval o X.env)=eval o X.env:=by rfl)(i:(apos.endLine==cpos.line)=true:=by rfl):PE X (.Call (.Attribute o "values" apos) [] [] cpos) (KP td):=by
 intro m s y H Q I h;refine wpAny_Call_method0_late f i (thn (d m s y H _ I h) λu c j=> ?_);obtain⟨x,z,b,p,a,kvs,ex,e,n⟩:=j;subst ex;obtain rfl:u=Value.ref a:=p;obtain⟨t,v,l⟩:=LW b (.inl #[kvs, .inl e]);obtain⟨_,_,vs,_,dd⟩:=BE b.hok e;show#[TH,"dict.values",PySem.F.plainAttrs_dict,S0,PySem.F.type_dict_values,t,v,RG rfl (PySem.evalArgs_none ?_)];refine call_meetsIn S0 dd.typeIs PySem.F.entry_dict_values (PySem.F.args_dict_values_1 _) (meets_dict_values (bD X.prog X.w) a l) #[#[vs,dd],6];show#[.ref c.heap.objs.size,_,b.laid (a:=c.heap.objs.size) (o:=nR c.heap.objs.size a) (t':=c.toks) (λ_ _ q=>NY _ q) (N3 _)
  #[#[_,Oi _ rfl,22],#[_,Oi _ rfl],λA B k g=>let⟨o,d,r⟩:=k;#[o,g o d,r]],2,n _ (b.hok.fresh (N3 _))]
end
end L2
namespace L2
open PySem PySem.Spec PySem.W PyProof.Rows PySem.SeqAt
theorem BJ{z:Int}(h:z.natAbs<2^k):Builtin.Int.intBits z<=k:=by
 unfold Builtin.Int.intBits;by_cases h0:z=0
 .subst h0;exact Pw _
 .have e:(z==0)=false:=#[5,h0]
  rw[e];show z.natAbs.log2+1<=k;have:z.natAbs.log2<k:=(RI ()).mpr h;lia
theorem jR.of{i j:Int}(a:i.natAbs<2^k)(b:j.natAbs<2^m)(h:k+m<=2^26):jR i j:=by unfold jR;have:=BJ a;have:=BJ b;lia
theorem BN{i j:Int}(a:i.natAbs<2^k)(b:j.natAbs<2^m):(i*j).natAbs<2^(k+m):=by rw[Int.natAbs_mul,Nat.pow_add];exact Nat.mul_lt_mul'' a b
end L2
namespace L2
open PySem PySem.Spec PySem.W PyProof.Rows
end L2
namespace Bh
end Bh
namespace L2
open PySem PySem.Spec PyProof.Rows PySem.W
end L2
namespace L2
open PySem PySem.Spec PySem.W PyProof.Rows
end L2
namespace L2
open PySem PySem.Spec PySem.W PyProof.Rows PySem.SeqAt
end L2
namespace Bh
end Bh
namespace L2
open PySem PySem.Spec PySem.W PyProof.Rows PySem.SeqAt
def CFd(_ j:Int):Prop:=j≠0/\j.natAbs.log2<9000
theorem Fg:OpR X (binaryOp .FloorDiv) (rI CFd λi j=> .int (i.fdiv j)):=opI λ_ _ _ _ _ _ _ a q=>floordiv_int a.1 q (.inl (PyProof.noPylong_of_log2 a.2))
end L2
namespace L2
open PySem PySem.Spec PyProof.Rows
abbrev df:=PySem.SetTable
def Ups(xs:Array Nat):Prop:=∀i k,i<k->k<xs.size->xs.getD i 0<xs.getD k 0
theorem rY{xs:Array Nat}(h:i<xs.size):xs.getD i d=xs[i]:=by simp[Array.getD,h]
theorem GZ(xs:Array Nat)(i d:Nat):(xs[i]?).getD d=xs.getD i d:=by
 by_cases h:i<xs.size
 .rw[rY h,OY h];rfl
 .simp[Array.getD,h]
theorem rW{xs:Array Nat}(g:Ups xs):∀(fuel a b:Nat),b<=a+fuel->a<=b->b<=xs.size->(∀i,i<a->xs.getD i 0<j)->(∀i,b<=i->i<xs.size->j<=xs.getD i 0)->
  ∃p,SetTable.below.go xs j fuel a b=p/\a<=p/\p<=b/\(∀i,i<p->xs.getD i 0<j)/\(∀i,p<=i->i<xs.size->j<=xs.getD i 0)
 |0,a,b,t,hl,o,c,d=>#[a,2,N3 _,hl,c,λi k=>d i ()]
 |fuel+1,a,b,t,hl,o,c,d=>by
  unfold SetTable.below.go;by_cases h:a<b
  .rw[NZ h];have l:(a+b) /2<xs.size:=()
   have s:xs.getD ((a+b) /2) j=xs.getD ((a+b) /2) 0:=by rw[rY l,rY l]
   dsimp only;rw[s];by_cases f:xs.getD ((a+b) /2) 0<j
   .rw[NZ f];obtain⟨p,e,q,r,m,n⟩:=rW g fuel ((a+b) /2+1) b () () o (λi k=>by
     by_cases e:i=(a+b) /2
     .rw[e];exact f
     .exact PJ (g i ((a+b) /2) () l) f) d
    show#[p,e,9,r,m,n]
   .rw[NW f];obtain⟨p,e,q,r,m,n⟩:=rW g fuel a ((a+b) /2) () () () c (λi k u=>by
     by_cases e:i=(a+b) /2
     .rw[e];lia
     .have:=g ((a+b) /2) i () u;lia)
    show#[p,e,q,9,m,n]
  .rw[NW h];show#[a,2,N3 _,hl,c,λi k=>d i ()]
theorem lx{xs:Array Nat}(a:Ups xs)(j:Nat):SetTable.below xs j<=xs.size/\(∀i,i<SetTable.below xs j->xs.getD i 0<j)/\(∀i,SetTable.below xs j<=i->i<xs.size->j<=xs.getD i 0):=by obtain⟨p,e,k,b,c,d⟩:=rW (j:=j) a xs.size 0 xs.size () () (N3 _) (λi h=>absurd h (S8 _)) (λi f g=>());have:SetTable.below xs j=p:=e;rw[this];show#[b,c,d]
theorem GN{xs:Array Nat}(a:Ups xs)(d:i<xs.size):SetTable.below xs (xs.getD i 0+1)=i+1:=by
 obtain⟨g,b,c⟩:=lx a (xs.getD i 0+1);have e:¬SetTable.below xs (xs.getD i 0+1)<=i:=λh=>by have:=c i h d;lia
 have f:¬i+1<SetTable.below xs (xs.getD i 0+1):=λh=>by have:=b (i+1) h;have:=a i (i+1) () ();lia
 lia
theorem AB(b:Ups xs):SetTable.below xs 0=0:=by
 obtain⟨c,a,d⟩:=lx b 0;cases e:SetTable.below xs 0 with
 |zero=>rfl
 |succ k=>have:=a k ();lia
theorem xP{xs:Array Nat}(d:p<=xs.size):(SetTable.insertAt xs p j).getD i 0=if i<p then xs.getD i 0 else if i=p then j else xs.getD (i-1) 0:=by
 unfold SetTable.insertAt;rw[<-GZ,Array.getElem?_append,Array.size_push,Q1,show min p xs.size-0=p by lia];by_cases a:i<p
 .rw[NZ (),NZ a,Array.getElem?_push,Q1,NW (),Array.getElem?_extract,NZ (),R0,GZ]
 .rw[NW a];by_cases b:i=p
  .rw[NZ (),NZ b,Array.getElem?_push,Q1,NZ ()];rfl
  .rw[NW (),NW b,Array.getElem?_extract];by_cases c:i- (p+1)<min xs.size xs.size-p
   .rw[NZ c,show p+(i- (p+1))=i-1 by lia,GZ]
   .rw[NW c];have:¬i-1<xs.size:=()
    simp[Array.getD,this]
theorem F5{xs:Array Nat}(a:p<=xs.size):(SetTable.insertAt xs p j).size=xs.size+1:=by unfold SetTable.insertAt;rw[Array.size_append,Array.size_push,Q1,Q1];lia
theorem JC(f:Ups xs)(r:xs[SetTable.below xs j]?≠some j):Ups (SetTable.insertAt xs (SetTable.below xs j) j):=by
 obtain⟨g,h,l⟩:=lx f j;have m:∀i,SetTable.below xs j<=i->i<xs.size->j<xs.getD i 0:=λi a b=>by
  have e:=l i a b;have ne:xs.getD i 0≠j:=λz=>by
   by_cases n:SetTable.below xs j=i
   .apply r;rw[n,OY b,<-rY (d:=0) b,z]
   .have:=l (SetTable.below xs j) (N3 _) ();have:=f (SetTable.below xs j) i () b;lia
  lia
 generalize SetTable.below xs j=p at*;intro i k o q;rw[F5 g]at q;rw[xP g,xP g];by_cases a:k<p
 .rw[NZ (),NZ a];exact f i k o ()
 .rw[NW a];by_cases b:k=p
  .rw[NZ b,NZ ()];exact h i ()
  .rw[NW b];by_cases c:i<p
   .rw[NZ c];exact PJ (h i c) (m (k-1) () ())
   .rw[NW c];by_cases d:i=p
    .rw[NZ d];exact m (k-1) () ()
    .rw[NW d];exact f (i-1) (k-1) () ()
def j8(L:Bool)(t:df):Prop:=t.led=L/\(t.plain=true->t.dummies= #v[]/\Ups t.place)
theorem zi{t:df}(h:t.dummies= #v[])(j:Nat):t.slot j≠ .dummy:=by
 unfold SetTable.slot;dsimp only;split
 .intro z;cases z
 .rw[h];intro z;have:SetTable.has #v[] j=false:=by unfold SetTable.has;simp
  rw[this]at z;simp at z
theorem zh{t:df}(h:t.slot j= .empty):t.place[SetTable.below t.place j]?≠some j:=λz=>by unfold SetTable.slot at h;dsimp only at h;rw[NZ (by rw[z];simp)]at h;cases h
theorem w8{t:df}(b:t.dummies= #v[]):∀(fuel:Nat)(p:SetTable.Probe),p.dummy=none->SetTable.probe.go t hashAt h fuel p=some (.empty j d)->t.slot j= .empty/\d=none
 |0,p,_,e=>by unfold SetTable.probe.go at e;cases e
 |fuel+1,p,c,e=>by
  unfold SetTable.probe.go at e;have g:∀q:SetTable.Probe,q.dummy=none->(t.advance q).dummy=none:=λq f=>by
   unfold SetTable.advance;split
   .exact f
   .exact f
  cases a:t.slot p.j with
  |empty=>
   rw[a]at e;have k:=OA e;injection k with l m
   rw[<-l,<-m];show#[a,c]
  |dummy=>exact absurd a (zi b _)
  |live i=>
   rw[a]at e;dsimp only at e;split at e
   .cases e
   .exact w8 b fuel _ (g p c) e
theorem Ai{t:df}(f:t.dummies= #v[])(e:t.freeSlot h=some (j,wd)):t.slot j= .empty:=by
 unfold SetTable.freeSlot at e;split at e
 .rename_i i d g;obtain⟨b,c⟩:=w8 f _ _ rfl g;rw[c]at e;have:=OA e;injection this with a _
  rw[<-a];exact b
 .cases e
theorem EV{t:df}(h:j8 L t)(d:t.plain=true->t.slot j= .empty):j8 L (t.put j).1:=by
 show#[h.1,λe=> ?_];have a:t.plain=true:=e;obtain⟨b,c⟩:=h.2 a;show#[6,JC c (zh (d a))];show(if SetTable.has t.dummies j=true then _ else t.dummies)= #v[];rw[b];have:SetTable.has #v[] j=false:=by unfold SetTable.has;simp
 rw[this];rfl
theorem ip{t:df}(h:j8 L t):j8 L (t.standIn n):=#[h.1,λa=>by cases a]
theorem FW(g:j8 L t):j8 L (layNew t es h x).2.1:=by
 unfold layNew;split
 .rename_i slot wd e;dsimp only;have g2:j8 L (t.put slot).1:=EV g λa=>Ai (g.2 a).1 e;unfold SetTable.orStandIn;split
  .exact g2
  .exact ip g2
 .exact ip g
theorem B8(p:Nat->Option Nat)(m:Nat):Ups ((((List.range m).filterMap λj=>(p j).map λk=>(j,k)).map (·.1)).toArray):=by
 have f:(((List.range m).filterMap λj=>(p j).map λk=>(j,k)).map (·.1)).Pairwise (· < ·):=by
  have sub:List.Sublist (((List.range m).filterMap λj=>(p j).map λk=>(j,k)).map (·.1)) (List.range m):=by
   induction List.range m with
   |nil=>exact List.Sublist.slnil
   |cons a l c=>
    rw[P8];cases p a with
    |none=>exact c.cons a
    |some k=>exact c.cons_cons a
  exact List.Pairwise.sublist sub List.pairwise_lt_range
 intro i k e b;rw[Oq]at b;have d:=List.pairwise_iff_getElem.mp f i k () b e;rw[rY (by rw[Oq];lia),rY (by rw[Oq];exact b)];simpa using d
theorem zD(g:j8 L t):j8 L (relayAll t es wanted).2.1:=by
 unfold relayAll;split
 .rename_i t' order e;dsimp only;split
  .unfold SetTable.relaid SetTable.laid at e;cases hl:SetTable.layClean (SetTable.sizeAbove wanted-1) (es.map (·.1))with
   |none=>rw[hl]at e;cases e
   |some owner=>
    rw[hl]at e;have a:=OA e;injection a with b c
    rw[<-b];show#[g.1,λ_=>#[2,B8 (λj=>owner.getD j none) _]]
  .exact ip g
 .exact ip g
section
variable{prog:tj}{w:vu}{A:vr}{E:f6}{s:tr}
def j9(prog:tj)(w:vu)(L:Bool)(h:Heap)(a:Addr)(S:Int->Bool)(n:Nat):Prop:=
 ∃o es ep t,h.get? a=some o/\o.ExactSet/\o.data= .set es ep t/\ElemsOf (intKind prog w) es.toList/\(∀k,S k=true↔∃e∈es.toList,(intKind prog w).is k e.2=true)/\es.size<scanBound/\t.fits es.size=true/\es.size=n/\j8 L t
theorem j9.at{h h':Heap}(x:j9 prog w L h a S n)(k:∀o,h.get? a=some o->h'.get? a=some o):j9 prog w L h' a S n:=by obtain⟨o,es,ep,t,e,r⟩:=x;show#[o,es,ep,t,k o e,r]
theorem j9.congr(x:j9 prog w L h a S n)(e:∀k,S k=b k)(c:n=n'):j9 prog w L h a b n':=by have:S=b:=funext e;subst this;subst c;exact x
theorem MZ{L:Bool}{h:Heap}{o:Obj}{t:df}(d:h.get? a=some o)(c:o.data= .set es ep t)(b:jb)(t':df):(h.update a (Obj.putSet b t')).get? a=some {o with data:= .set b (ep+1) t'}:=by
 have q:=OC (Obj.putSet b t') d (by rw[putSet_of b t' c];rfl)
 rwa [putSet_of b t' c]at q
theorem J4{g:Bool->Sem Unit}(K:∀(b:Bool)(G:tr)(r:hX),r Unit.unit G->wpAny (model prog w) A (g b) r E G){o:Obj}{t:df}(B:s.heap.get? a=some o)(y:o.ExactSet)(v:o.data= .set es ep t){c:jb}{d:df}(x:ElemsOf (intKind prog w) c.toList)(z:∀i,S' i=true↔∃e∈c.toList,(intKind prog w).is i e.2=true)(hb:c.size<scanBound)(J:d.fits c.size=true)(hT:j8 L d){R:Option Bool->Shared->Prop}(h:∀h',Heap.SameBut a s.heap h'->j9 prog w L h' a S' c.size->R (some true) {s with heap:=h'}):
  wpAny (model prog w) A (do
    storeSet a c d
    if(!wd&&d.tooFull)=true then do
      g (relayAll d c (SetTable.grown c.size)).2.2
      storeSet a (relayAll d c (SetTable.grown c.size)).1 (relayAll d c (SetTable.grown c.size)).2.1
      pure (some true)
     else pure (some true)) R E s:=by
 refine NU (wpAny_storeSet_of B v ?_ (fits_of_scanBound hb));have j:=MZ (L:=L) B v c d;have u:=PN s.heap a (Obj.putSet c d);split
 .have f:=relayAll_perm d c (SetTable.grown c.size);have m:=relayAll_fits d c (SetTable.grown c.size);have n:=zD (es:=c) (wanted:=SetTable.grown c.size) hT;generalize relayAll d c (SetTable.grown c.size)=Z at f m n⊢;obtain⟨k,H,M⟩:=Z;dsimp only at f m n⊢;have p:k.size=c.size:=by rw[<-Ou,f.length_eq,Ou]
  refine NU (K _ _ _ ?_);refine NU (wpAny_storeSet_of j rfl ?_ (fits_of_scanBound (by rw[p];exact hb)));refine N0 (h _ (u.trans (PN _ a _)) #[_,k,_,H,MZ (L:=L) j rfl k H,y,2,x.perm f,λi=> ?_,by rw[p];exact hb,m,p,n]);rw[z i];show#[λ⟨e,l,q⟩=>#[e,f.mem_iff.mpr l,q],λ⟨e,l,q⟩=>#[e,f.mem_iff.mp l,q]]
 .exact N0 (h _ u #[_,c,_,d,j,y,2,x,z,hb,J,2,hT])
theorem NR(hS:j9 prog w L s.heap a S n)(bN:n+1<scanBound)(h:∀h',Heap.SameBut a s.heap h'->j9 prog w L h' a (λd=>S d||decide (d=k)) (if S k then n else n+1)->Q (!S k) {s with heap:=h'}):
  wpAny (model prog w) A (setAddHashed a (.int k i) ((intKind prog w).hash k)) Q E s:=by
 have u:(intKind prog w).is k (.int k i)=true:=intKind_is _ _ _ _;have K:(Value.int k i).scannable=true:=rfl;obtain⟨o,es,ep,t,y,N,p,r,v,hb,O,hn,hT⟩:=hS;unfold setAddHashed setAddHashedIn;refine O4 (NU (wpAny_setState_of y p O ?_));dsimp only;rw[byScan_of K hb r];simp only[↓reduceIte];unfold setAddByScan;refine NU (NU (wpAny_rule ?_));refine NU (wpAny_setScan_of u y p O r ?_);cases hr:List.findIdx? (λe=>(intKind prog w).is k e.2) es.toList with
 |some j=>
  dsimp only;obtain⟨hj,bp,_⟩:=List.findIdx?_eq_some_iff_getElem.mp hr;have m:S k=true:=(v k).mpr #[_,PD hj,bp];refine N0 (N0 ?_);have q:=h s.heap (Heap.SameBut.refl a s.heap) #[o,es,ep,t,y,N,p,r,λd=> ?_,hb,O,by rw[m];exact hn,hT]
  .rwa[m]at q
  .rw[Rr,OB,<-v d];show#[λz=>z.elim id λe=>e▸m, .inl]
 |none=>
  dsimp only;have m:S k=false:=by
   cases hk:S k with
   |false=>rfl
   |true=>
    obtain⟨e,he,hp⟩:=(v k).mp hk;have z:=List.findIdx?_eq_none_iff.mp hr e he;rw[hp]at z;cases z
  have c:=layNew_perm t es ((intKind prog w).hash k) (.int k i);have B:=layNew_fits t es ((intKind prog w).hash k) (.int k i);have G:=FW (es:=es) (h:=(intKind prog w).hash k) (x:= .int k i) hT;generalize layNew t es ((intKind prog w).hash k) (.int k i)=Z at c B G⊢;obtain⟨M,t1,wd,gv⟩:=Z;dsimp only at c B G⊢;rw[Array.toList_push]at c;have z1:M.size=n+1:=by rw[<-Ou,c.length_eq,Od,Ou,hn];rfl
  have ab:M.size<scanBound:=by rw[z1];exact bN
  have U:∀h',Heap.SameBut a s.heap h'->j9 prog w L h' a (λd=>S d||decide (d=k)) M.size->Q true {s with heap:=h'}:=λh' H g=>by have q:=h h' H;rw[m]at q;rw[z1]at g;exact q g
  have quiet:∀(b:Bool) {J:tr} {l:hX},l Unit.unit J->wpAny (model prog w) A (match b with|true=>rule "set.scan.the-table-gave-way"|false=>pure Unit.unit) l E J:=λb J l f=>by cases b<;>first|exact N0 f|exact wpAny_rule f
  refine NU (quiet _ ?_);split
  .refine NU ?_;rw[hashByValue_scannable 8 K];refine N0 ?_;refine J4 (L:=L) (λb J l f=>quiet b f) y N p ((r.push u K).perm c) (mem_push_iff u v c) ab ?_ ?_ λh' H g=>N0 (U h' H g)
   .split
    .exact B
    .exact SetTable.fits_plain_off B
   .split
    .exact G
    .show#[G.1,λz=>by cases z]
  .refine NU (N0 ?_);simp only[↓reduceIte];exact J4 (L:=L) (λb J l f=>quiet b f) y N p ((r.push u K).perm c) (mem_push_iff u v c) ab B G λh' H g=>N0 (U h' H g)
end
section
variable{prog:tj}{w:vu}{A:vr}{R:Result->Shared->Prop}{I:Addr}{fp wr:List Addr}{G:Array GenState->Array GenState->Prop}{n:Nat}{P:Nat->Value->Prop}{St:Nat->Shared->Prop}
theorem Nf(W:WalksS prog w A.in1 I fp wr G n P St)(D:Addr)(f:D∉fp)(val:Nat->Int)(y:∀i v,P i v->∃t,v= .int (val i) t)(hb:n+1<scanBound):
  ∀(k i:Nat)(s:tr),n-i=k->i<=n->St i s->j9 prog w L s.heap D (λa=>(firstMet val i).any (· ==a)) (firstMet val i).length->
   (∀s',Moved (D::wr) G s s'->j9 prog w L s'.heap D (λa=>(firstMet val n).any (· ==a)) (firstMet val n).length->R (.ok (.ret .none)) s')->
   codeAny (model prog w) A (.builtin "set.update.loop" #[[.ref D, .ref I],[]]) R s:=by
 have j:D∉wr:=λh=>f (W.sub _ h);have p:∀b∈wr,b∈D::wr:=λb hb=>N4 _ hb;intro k
 induction k with
 |zero=>
  intro i s u r st g d;obtain rfl:i=n:=()
  refine Px F.entry_set_update_loop ?_;rw[P4 RB _];show wpAny _ A.in1 (pyNext (.ref I)>>=_) _ _ s;refine NU (W.done s _ _ st λs' c=> ?_);show wpAny _ A.in1 (ret Value.none) _ _ s';exact N0 (d s' (c.mono p) (g.at λo e=>c.heap D o j e))
 |succ k B=>
  intro i s u r st g d;have l:i<n:=()
  refine Px F.entry_set_update_loop ?_;rw[P4 RB _];show wpAny _ A.in1 (pyNext (.ref I)>>=_) _ _ s;refine NU (W.item i s _ _ l st λv s' q J c=> ?_);obtain⟨t,rfl⟩:=y i v q;have g':=g.at (h':=s'.heap) λo e=>c.heap D o j e;show wpAny _ A.in1 (holding [Value.int (val i) t] (setAdd D (.int (val i) t))>>=_) _ _ s';refine NU (O4 ?_);unfold setAdd;refine O4 (NU ((intKind prog w).pyHash (k:=val i) (intKind_is _ _ _ _) ?_));refine NR (s:={s' with toks:=s'.toks+1}) g' (by have:=firstMet_length_le val i;lia) λh' m g2=> ?_;have g3:j9 prog w L h' D (λa=>(firstMet val (i+1)).any (· ==a)) (firstMet val (i+1)).length:=g2.congr (λa=>by rw[firstMet_succ,step_any]) (by rw[firstMet_succ,step_length]);refine N0 #[Rm RB _,B (i+1) _ () l (W.frame _ s' _ _ J (QM _) λb hb o e=> ?_) g3 λH x g4=> ?_]
  .rw[m.2 b (λz:b=D=>f (by rw[<-z];exact hb))];exact e
  .refine d H (Moved.trans W.gtrans ((c.mono p).then_heap (QM _) λb o hb e=> ?_) x) g4;rw[m.2 b (λz:b=D=>hb (by rw[z];exact N8))];exact e
end
def pB(w:vu):Bool:= !w.params.followText TB
def qd(w:vu):Obj:={cls:= .type T8,dict:=none,data:= .set #v[] 0 (.fresh 0 0 (pB w))}
section
variable{prog:tj}{w:vu}{A:vr}{E:f6}{s:tr}
theorem DK(a:Value)(h:Q₁ (.ref s.heap.objs.size) {s with heap:=s.heap.push (qd w)}):
  codeAny (model prog w) A (.call (.builtin "set.__new__") #[[.type T8,a],[]]) (wants Q₁ E) s:=by
 refine R5 ?_;show wpAny _ A.in1 (do checkBuiltinCall "set.__new__" #[[.type T8,a],[]];again (.builtin "set.__new__" #[[.type T8,a],[]])) _ _ s;refine NU (wpAny_of_eq (PySem.F.newCall_set_1 a) (N0 #[Rm PySem.F.plain_set_new _,Px PySem.F.entry_set_new ?_]));rw[P4 PySem.F.plain_set_new _];unfold Builtin.«set.__new__» Builtin.Frozenset.newClass;have c:=sub_set_self;obtain⟨b,g,d,e,os⟩:=s;dsimp only
 wp_walk
 refine QS (N0 ?_);dsimp only;simp only[newObj];refine NU (wpAny_alloc (N0 ?_));exact N0 h
set_option maxHeartbeats 8000000 in
theorem vU{items:qs}{ns:sv}(hh:A.handled=none)(hl:s.heap.IsList l items)(hi:IntsAre items.toList ns)(hb:items.size+1<scanBound)(h:∀(h':Heap)(g:Nat),j9 prog w (pB w) h' s.heap.objs.size (λm=>(firstMet (λi=>ns.getD i 0) items.size).any (· ==m)) (firstMet (λi=>ns.getD i 0) items.size).length->
   (∀b o,b<s.heap.objs.size->s.heap.get? b=some o->h'.get? b=some o)->Q (.ref s.heap.objs.size) {s with heap:=h',toks:=g}):
  wpAny (model prog w) A (call (.type T8) [.ref l]) Q E s:=by
 obtain⟨c,tl,cT⟩:=P1.mro;have cN:=P1.made;have c4:=P1.sub;refine QZ (R5 ?_);show wpAny _ _ (callAny (.type T8) _) _ _ _;refine N0 #[Qw _ #[9],Px PySem.F.entry_type_call ?_];rw[Around.under_plain (weight_type_call_type T8 [.ref l] []) rfl];have h1:=P1.notType;have h2:=P1.canCreate;have cv:=PySem.F.typeCall_set_1 (.ref l)
 repeat (any_goals (first|assumption|wp_step))
 refine Qv (DK (.ref l) (E:=E) (Q₁:=λG H=>G= .ref s.heap.objs.size/\H={s with heap:=s.heap.push (qd w)}) #[22]) λr H a=> ?_;cases r with
 |error e=>exact a
 |ok O=>
  cases O with
  |ret G=>
   obtain⟨rfl,rfl⟩:=a;clear h1 h2 cT cv;have n:(s.heap.push (qd w)).get? s.heap.objs.size=some (qd w):=Oi _ rfl;have hT:Shared.TypeIs {s with heap:=s.heap.push (qd w)} (.ref s.heap.objs.size) T8:=#[_,n,2];have cE:=P1.init.lookup;have ct:=P1.init.bind (.ref s.heap.objs.size)
   repeat (any_goals (first|assumption|wp_step))
   refine Qv (QK (R:=wants (λr J=>r= .none/\∃h' g,J={s with heap:=h',toks:=g}/\
     j9 prog w (pB w) h' s.heap.objs.size (λm=>(firstMet (λi=>ns.getD i 0) items.size).any (· ==m)) (firstMet (λi=>ns.getD i 0) items.size).length/\
     (∀b o,b<s.heap.objs.size->s.heap.get? b=some o->h'.get? b=some o)) E) P1.init.plain PySem.F.entry_set_init (check_set_init_1 hT ?_)) λb6 J d=> ?_
   .obtain⟨ol,z,q,B,u⟩:=hl;obtain⟨c8,b2,dc,b5⟩:=ol;simp only at q u;subst q;subst u;have bN:(s.heap.push (qd w)).get? l=some {cls:= .type Ts,dict:=b2,data:= .seq items B,slots:=b5}:=NY _ z;have c3:=PySem.F.sub_list_set;have c2:=PySem.F.sub_list_frozenset;have c1:(Value.type Ts==Value.type TH)=false:=∅
    have x:(s.heap.push (qd w)).IsList l items:=#[_,bN,2,B,2];unfold Builtin.«set.__init__» noKeywords Builtin.Frozenset.updateFrom;generalize ab:pyIter=PI;clear cN cE ct hT
    repeat (first|with_reducible refine N0 ?_|with_reducible refine NU ?_|((with_reducible apply wpAny_ite_false);focus (rfl;done))|((with_reducible apply wpAny_ite_true);focus (rfl;done))|wp_delta|wp_step)
    subst ab;refine Q4 x ?_;refine NU (Sd ?_);have y:l<s.heap.objs.size:=N6 z;have az:A.in1.in1.in1.handled=none:=by simp[hh]
    have bp:l≠(s.heap.push (qd w)).objs.size:=by rw[Pd];exact Oe (Qr y)
    have af:s.heap.objs.size∉ [(s.heap.push (qd w)).objs.size,l]:=by rw[Pd];simp only[N1,Oj,PF,Rg,not_or];show#[Oe (PB _),Qb y]
    have b1:∀(i:Nat)(v:Value),items[i]?=some v->∃t,v= .int ((λi=>ns.getD i 0) i) t:=λi v hv=>IntsAre.int_at hi i v (by rw[Pu];exact hv);refine Nf (L:=pB w) ((Walks.list az _ l bp items).toS) s.heap.objs.size af (λi=>ns.getD i 0) b1 hb (items.size-0) 0 _ () (Pw _) #[#[_,Oi _ rfl,22],(x.push _)] ?hS0 ?hR
    case hS0=>
     show#[qd w, #v[],0, .fresh 0 0 (pB w),NY _ n,#[222],2,(λe he=>by simp at he),(λk=> ?_),4222,λ_=>#[2,λi k _ hk=>by simp[SetTable.fresh]at hk]];simp[firstMet_zero]
    case hR=>
     intro s' f j;obtain⟨h',g',d',b7,b4⟩:=s';have M:g'=s.gens:=f.gens;have K:d'=s.drawn:=f.drawn;have N:b4=s.os:=f.os;subst M;subst K;subst N;show wpAny _ _ _ _ _ _;refine N0 ?_;show wpAny _ _ (ret Value.none) _ _ _;refine N0 #[2,h',b7,2,j,λb o p e=> ?_];have ar:b≠(s.heap.push (qd w)).objs.size:=by rw[Pd];exact Oe (Qr p)
     exact f.heap b o (by simp only[N1,Oj,PF,Rg,not_or];show#[Oe p,ar]) (NY _ (NY _ e))
   .cases b6 with
    |error e=>exact d
    |ok U=>
     cases U with
     |ret r=>
      obtain⟨rfl,h',g,rfl,j,bk⟩:=d
      repeat (any_goals (first|assumption|wp_step))
      exact h _ _ j bk
     |next=>exact d.elim
     |brk=>exact d.elim
     |cont=>exact d.elim
  |next=>exact a.elim
  |brk=>exact a.elim
  |cont=>exact a.elim
end
theorem aT:Slot Tw Uc TR:=
 .of (owner:= Tw) (n:= Uc) (by rw[S7,RS];kernel_rfl) #[9] #[9] #[9]
  (by first|exact .inl #[9]|exact .inr #[9]) (by rw[isSubtype_type];kernel_rfl)
theorem gr:Slot Tw "__iter__" TU:=
 .of (owner:= Tw) (n:= "__iter__") (by rw[S7,RS];kernel_rfl) #[9] #[9] #[9]
  (by first|exact .inl #[9]|exact .inr #[9]) (by rw[isSubtype_type];kernel_rfl)
theorem cB:entryFor table TR=some Builtin.«set_iterator.__next__»:=entryFor_of_fast (by kernel_rfl)
theorem lj:entryFor table TU=some Builtin.«dict_keyiterator.__iter__»:=entryFor_alias (id':= "dict_keyiterator.__iter__") (by kernel_rfl) rfl #[9] (by kernel_rfl)
theorem rJ:entryFor table "set.__iter__"=some Builtin.«frozenset.__iter__»:=entryFor_alias (id':= "frozenset.__iter__") (by kernel_rfl) rfl #[9] (by kernel_rfl)
theorem cI(a:Value):argsOk TR #[[a],[]]:=by unfold argsOk;kernel_rfl
theorem mF(a:Value):argsOk TU #[[a],[]]:=by unfold argsOk;kernel_rfl
def SIt(h:Heap)(I:Addr)(first:Value)(i:Nat)(a:Addr)(n ep:Nat):Prop:=∃o,h.get? I=some o/\o.cls= .type Tw/\o.data= .fields #v[first, .int i 0, .ref a, .int n 0, .int ep 0]
theorem SIt.ty{s:tr}(x:SIt s.heap I first i a n ep):s.TypeIs (.ref I) Tw:=by obtain⟨o,e,c,_⟩:=x;show#[o,e,c]
theorem SIt.at{h h':Heap}(x:SIt h I first i a n ep)(k:∀o,h.get? I=some o->h'.get? I=some o):SIt h' I first i a n ep:=by obtain⟨o,e,r⟩:=x;show#[o,k o e,r]
section
variable{prog:tj}{w:vu}{A:vr}{E:f6}{s:tr}
theorem ir(b:SIt s.heap I first i a n ep)(h:Q (.ref I) s):wpAny (model prog w) A (pyIter (.ref I)) Q E s:=by refine wpAny_pyIter_slot b.ty gr (Qg gr b.ty lj ?_ (mF _));show wpAny _ _ (ret (.ref I)) _ _ s;exact N0 #[7,Tw,_,b.ty,aT.lookup,h]
structure SOb(h:Heap)(a:Addr)(es:jb)(ep:Nat)(t:df):Prop where
 at_:∃o:Obj,h.get? a=some o/\o.ExactSet/\o.data= .set es ep t
 fits:t.fits es.size=true
theorem SOb.keep{h h':Heap}(x:SOb h a es ep t)(k:∀o,h.get? a=some o->h'.get? a=some o):SOb h' a es ep t:=by obtain⟨⟨o,e,r⟩,f⟩:=x;show#[#[o,k o e,r],f]
theorem cD{Q:(Array (Int×Value)×Nat×df)->Shared->Prop}(x:SOb s.heap a es ep t)(h:Q (es,ep,t) s):wpAny (model prog w) A (setState a) Q E s:=by obtain⟨⟨o,e,_,d⟩,f⟩:=x;exact wpAny_setState_of e d f h
theorem tS{es:jb}{slot slot' i:Nat}(d:SIt s.heap I (.int slot 0) i a es.size ep)(n:SOb s.heap a es ep t)(k:∀(j:vr)(E':f6) (g:Option (Value×Nat)->Shared->Prop),g (some (x,slot')) s->wpAny (model prog w) j (setNext a slot i ep) g E' s)(l:∀h',SIt h' I (.int slot' 0) (i+1) a es.size ep->Heap.SameBut I s.heap h'->Q (some x) {s with heap:=h'}):wpAny (model prog w) A (pyNext (.ref I)) Q E s:=by
 obtain⟨o,e,m,b⟩:=id d;unfold pyNext;refine NU (Rj (QW (name:=Str.ofString Uc) d.ty aT (Qg aT d.ty cB ?_ (cI _))));unfold Builtin.«set_iterator.__next__» slotArgs;simp only[Rh,RP,PZ,↓reduceIte,bind_assoc,Qp,Q6];refine NU (N0 ?_);refine NU (Se e b ?_);dsimp only;unfold setEntries;refine NU (NU (cD n (N0 ?_)));dsimp only;rw[NW #[5]];simp only[N9];refine NU (k _ _ _ ?_);dsimp only;refine NU (P2 e b #[5] ?_);have h:(s.heap.update I (Obj.mapFields (·.setIfInBounds 0 (rawInt (slot':Int))))).get? I=some _:=OC _ e (Qk (O7 b _));have c:=O7 b (λf=>f.setIfInBounds 0 (rawInt (slot':Int)));refine NU (P2 h c #[5] ?_);refine N0 #[7,N0 (l _ #[_,OC _ h (Qk (O7 c _)),66] ((PN ..).trans (PN ..)))]
 .exact(SH ..).trans ((SH ..).trans m)
 .rw[O7 c];simp[rawInt]
theorem pX{I:Addr}(f:A.handled=none)(h0:Heap)(d:∀h',(∀b o,h0.get? b=some o->h'.get? b=some o)->Q none {s with heap:=h'}):
  wpAny (model prog w) A.in1 (do raiseNew (<-newExc (.type Uj) [])) (λ(c:Fin) s'=>∃v,c= .done (.ret v)/\wpAny (model prog w) A (pure (some v)) Q E s') (λe s'=>wpAny (model prog w) A (do if<-isInstance e (.type Uj)then pure none else throw e) Q E s') {s with heap:=h0}:=by
 refine NU ?_;simp only[newExc,newTuple];refine NU (Qs ?_ (by size_fits));refine NU (m:=firstArgMember _ _) (wpAny_of_eq (a:=Value.none) (by first|rfl|(simp only[firstArgMember];rfl)) ?_);refine Qs ?_ (by size_fits);simp only[raiseNew];refine NU (wpAny_handled ?_);rw[show A.in1.handled=none from f];refine NU (N0 (wpAny_throw ?_));refine NU (wpAny_isInstance (T:= Uj) (b:=true) #[_,Oi _ rfl,2] isSubtype_stop ?_);exact N0 (d _ λb o e=>NY _ (NY _ e))
theorem xy{es:jb}{slot i:Nat}(m:A.handled=none)(c:SIt s.heap I (.int slot 0) i a es.size ep)(n:SOb s.heap a es ep t)(j:∀(h:vr)(E':f6) (d:Option (Value×Nat)->Shared->Prop),d none s->wpAny (model prog w) h (setNext a slot i ep) d E' s)(l:∀h',Heap.ExtBut I s.heap h'->Q none {s with heap:=h'}):wpAny (model prog w) A (pyNext (.ref I)) Q E s:=by
 obtain⟨o,g,p,f⟩:=id c;unfold pyNext;refine NU (Rj (QW (name:=Str.ofString Uc) c.ty aT (Qg aT c.ty cB ?_ (cI _))));unfold Builtin.«set_iterator.__next__» slotArgs;simp only[Rh,RP,PZ,↓reduceIte,bind_assoc,Qp,Q6];refine NU (N0 ?_);refine NU (Se g f ?_);dsimp only;unfold setEntries;refine NU (NU (cD n (N0 ?_)));dsimp only;rw[NW #[5]];simp only[N9];refine NU (j _ _ _ ?_);dsimp only;refine NU (P2 g f #[5] ?_);exact pX (I:=I) m _ λh' k=>l h' λb o hb e=>k b o (Heap.SameBut.extBut (PN ..) b o hb e)
theorem Am{es:jb}{i j:Nat}(c:SIt s.heap I (.ref T) i a es.size ep)(e:SOb s.heap a es ep t)(hT:IsTup s.heap T pl)(l:pl[i]?=some (.int j 0))(h:es[j]?=some (hx,x))(f:∀h',SIt h' I (.ref T) (i+1) a es.size ep->Heap.SameBut I s.heap h'->Q (some x) {s with heap:=h'}):wpAny (model prog w) A (pyNext (.ref I)) Q E s:=by
 obtain⟨o,d,g,b⟩:=id c;unfold pyNext;refine NU (Rj (QW (name:=Str.ofString Uc) c.ty aT (Qg aT c.ty cB ?_ (cI _))));unfold Builtin.«set_iterator.__next__» slotArgs;simp only[Rh,RP,PZ,↓reduceIte,bind_assoc,Qp,Q6];refine NU (N0 ?_);refine NU (Se d b ?_);dsimp only;unfold setEntries;refine NU (NU (cD e (N0 ?_)));dsimp only;rw[NW #[5]];obtain⟨p,k,m,dT⟩:=hT;obtain⟨n,dT⟩:=dT;refine NU (wpAny_seqItems k dT ?_);simp only[N9,l];unfold setNextDrawn;refine NU (NU (cD e ?_));dsimp only;rw[NW #[5]];rw[h];refine N0 ?_;refine NU (P2 d b #[5] ?_);refine N0 #[7,N0 (f _ #[_,OC _ d (Qk (O7 b _)),66] (PN ..))]
 .exact(SH ..).trans g
 .rw[O7 b];simp[rawInt]
theorem DH{es:jb}(m:A.handled=none)(d:SIt s.heap I (.ref T) i a es.size ep)(q:SOb s.heap a es ep t)(hT:IsTup s.heap T pl)(p:pl[i]?=none)(l:∀h',Heap.ExtBut I s.heap h'->Q none {s with heap:=h'}):wpAny (model prog w) A (pyNext (.ref I)) Q E s:=by
 obtain⟨o,g,v,c⟩:=id d;unfold pyNext;refine NU (Rj (QW (name:=Str.ofString Uc) d.ty aT (Qg aT d.ty cB ?_ (cI _))));unfold Builtin.«set_iterator.__next__» slotArgs;simp only[Rh,RP,PZ,↓reduceIte,bind_assoc,Qp,Q6];refine NU (N0 ?_);refine NU (Se g c ?_);dsimp only;unfold setEntries;refine NU (NU (cD q (N0 ?_)));dsimp only;rw[NW #[5]];obtain⟨x,n,r,dT⟩:=hT;obtain⟨u,dT⟩:=dT;refine NU (wpAny_seqItems n dT ?_);simp only[N9,p];refine NU (P2 g c #[5] ?_);have j:(s.heap.update I (Obj.mapFields (·.setIfInBounds 0 (rawInt 0)))).get? I=some _:=OC _ g (Qk (O7 c _));have h:=O7 c (λf=>f.setIfInBounds 0 (rawInt 0));refine NU (P2 j h #[5] ?_);exact pX (I:=I) m _ λh' k=>l h' λb o hb e=>k b o (Heap.SameBut.extBut ((PN ..).trans (PN ..)) b o hb e)
end
theorem nI{b:Type}:∀(l:List b)(i:Nat)(h:i<l.length),(l[i]::l.eraseIdx i).Perm l
 |a::l,0,_=>Sf _
 |a::l,i+1,h=>((List.Perm.swap a (l[i]'#[5,h]) (l.eraseIdx i)).trans ((nI l i #[5,h]).cons a))
theorem Bi(next:Nat->Nat):∀(fuel k:Nat)(left:List b)(out:Array b),left.length=fuel->(pickOrder.go next fuel k left out).toList.Perm (out.toList++left)
 |0,k,left,out,h=>by have:left=[]:=Pn.mp h;subst this;rw[OP];exact Sf _
 |fuel+1,k,left,out,h=>by unfold pickOrder.go;have hl:next k % left.length<left.length:=Th _ ();rw[Ob hl];dsimp only;have a:=Bi next fuel (k+1) (left.eraseIdx (next k % left.length)) (out.push left[next k % left.length]) (by rw[Su hl];lia);refine a.trans ?_;rw[Array.toList_push,List.append_assoc];refine List.Perm.append_left _ ?_;exact nI left _ hl
theorem nc(next:Nat->Nat)(xs:Array a):(pickOrder next xs).toList.Perm xs.toList:=by unfold pickOrder;have:=Bi next xs.size 0 xs.toList #v[] (by rw[Ou]);simpa using this
section
variable{prog:tj}{w:vu}{A:vr}{E:f6}{s:tr}
theorem tR(d:w.params.followText TB=true)(c:SOb s.heap a es ep t)(h:Q (((pickOrder (w.params.setOrder a ep) es)[i]?).map λe=>(e.2,slot)) s):wpAny (model prog w) A (setNext a slot i ep) Q E s:=by
 unfold setNext;refine NU (cD c ?_);dsimp only;unfold setsByText;refine NU (NU (QS (N0 ?_)));refine QA (λ_=> ?_) λb=>absurd d b;rw[NW #[5]];unfold setWalk setsByText;refine NU (NU (cD c ?_));dsimp only;refine NU (NU (QS (N0 ?_)));refine QA (λ_=> ?_) λb=>absurd d b;refine NU (QS (N0 (N0 ?_)));exact h
theorem xw{es:jb}{t:df}(e:w.params.followText TB=false)(d:SOb s.heap a es ep t)(c:(!t.plain&&decide (es.size>1))=false)(hl:t.led=true)(h:Q (match es[SetTable.below t.place slot]?,t.place[SetTable.below t.place slot]? with
   |some (_,x),some j=>some (x,j+1)
   |_,_=>none) s):wpAny (model prog w) A (setNext a slot i ep) Q E s:=by
 unfold setNext;refine NU (cD d ?_);dsimp only;unfold setsByText;refine NU (NU (QS (N0 ?_)));refine QA (λb=>absurd b (by show¬w.params.followText TB=true;rw[e];exact Oo)) λ_=> ?_;show wpAny _ _ (if(!t.plain&&decide (es.size>1))=true then _ else _) _ _ _;rw[NW (by rw[c];exact Oo)];refine NU ?_;show wpAny _ _ (if(!t.led&& !es.isEmpty)=true then unsupported "set:maker-not-led" else pure Unit.unit) _ _ _;rw[NW (by rw[hl];simp)];exact N0 (N0 h)
end
section
variable{prog:tj}{w:vu}{A:vr}{E:f6}{s:tr}
theorem DO(a:n≠0)(h:∀i d',i<n->Q i {s with drawn:=d'}):wpAny (model prog w) A (choose src n) Q E s:=λc p b=>by unfold choose;rw[Sem.wp_choose];show#[a,h _ _ (Th _ (Nat.pos_of_ne_zero a))]
theorem BD:∀(n:Nat)(xs:List e)(s:tr)(Q:List e->Shared->Prop),xs.length=n->(∀b d',b.Perm xs->Q b {s with drawn:=d'})->wpAny (model prog w) A (drawOrder n xs) Q E s
 |0,xs,s,Q,hl,h=>by have:xs=[]:=Pn.mp hl;subst this;exact N0 (h [] s.drawn (Sf _))
 |n+1,[],s,Q,hl,h=>by simp at hl
 |n+1,x::xs,s,Q,hl,h=>by unfold drawOrder;refine NU (DO #[5] λi d' a=> ?_);rw[Ob a];dsimp only;refine NU (BD n ((x::xs).eraseIdx i) _ _ (by rw[Su a];lia) λb c d=> ?_);exact N0 (h _ c ((d.cons _).trans (nI (x::xs) i a)))
theorem yT{I a:Addr}{es:jb}{ep:Nat}{t:df}(ne:a≠I)(j:w.params.followText TB=true){A:vr}(m:A.handled=none):
  Walks prog w A I [I,a] [I] es.size (λi v=>((pickOrder (w.params.setOrder a ep) es).toList.map (·.2))[i]?=some v) (λi h=>SIt h I (.int 0 0) i a es.size ep/\SOb h a es ep t) where
 sub:=λb hb=>by simp at hb;simp[hb]
 frame:=λ_ _ _ st f=>#[st.1.at λo e=>f I #[5] o e,st.2.keep λo e=>f a #[5] o e]
 item:=λi s Q E n st c=>by
  have hz:(pickOrder (w.params.setOrder a ep) es).toList.length=es.size:=by rw[(nc _ es).length_eq,Ou]
  obtain⟨e,d⟩:∃e,(pickOrder (w.params.setOrder a ep) es)[i]?=some e:=#[_,OY (by rw[<-Ou,hz];exact n)];refine tS (slot':=0) (x:=e.2) st.1 st.2 (λk E' l h=>tR j st.2 (by rw[d];exact h)) λh' p g=> ?_;exact c e.2 h' s.toks (by rw[Ot,Pu,d];rfl) #[p,st.2.keep λo e=>g.extBut a o ne e] λb o hb e=>g.extBut b o (λz=>hb (by simp[z])) e
 done:=λs Q E st c=>by
  have hz:(pickOrder (w.params.setOrder a ep) es).toList.length=es.size:=by rw[(nc _ es).length_eq,Ou]
  have d:(pickOrder (w.params.setOrder a ep) es)[es.size]?=none:=Array.getElem?_eq_none (by rw[<-Ou,hz];exact N3 _);exact xy m st.1 st.2 (λk E' l h=>tR j st.2 (by rw[d];exact h)) λh' hx=>c h' s.toks λb o hb e=>hx b o (λz=>hb (by simp[z])) e
 self:=λ_ _ _ _ st c=>ir st.1 c
def zj(t:df):Nat->Nat
 |0=>0
 |i+1=>t.place.getD i 0+1
theorem rV{t:df}(a:Ups t.place):∀i,i<=t.place.size->SetTable.below t.place (zj t i)=i
 |0,_=>AB a
 |i+1,h=>GN a ()
theorem B7{I a:Addr}{es:jb}{ep:Nat}{t:df}(ne:a≠I)(k:w.params.followText TB=false)(g:(!t.plain&&decide (es.size>1))=false)(hl:t.led=true)(l:Ups t.place)(hz:t.place.size=es.size){A:vr}(q:A.handled=none):
  Walks prog w A I [I,a] [I] es.size (λi v=>(es.toList.map (·.2))[i]?=some v) (λi h=>SIt h I (.int (zj t i) 0) i a es.size ep/\SOb h a es ep t) where
 sub:=λb hb=>by simp at hb;simp[hb]
 frame:=λ_ _ _ st f=>#[st.1.at λo e=>f I #[5] o e,st.2.keep λo e=>f a #[5] o e]
 item:=λi s Q E r st c=>by
  have hb:=rV l i ();have d:es[i]?=some es[i]:=OY r;have p:t.place[i]?=some (t.place.getD i 0):=by rw[rY (),OY ()]
  refine tS (slot':=zj t (i+1)) (x:=es[i].2) st.1 st.2 (λm E' n h=>xw k st.2 g hl (by rw[hb,d,p];exact h)) λh' u j=> ?_;exact c es[i].2 h' s.toks (by rw[Ot,Pu,d];rfl) #[u,st.2.keep λo e=>j.extBut a o ne e] λb o hb e=>j.extBut b o (λz=>hb (by simp[z])) e
 done:=λs Q E st c=>by have hb:=rV l es.size ();have d:es[es.size]?=none:=Array.getElem?_eq_none (N3 _);exact xy q st.1 st.2 (λm E' n h=>xw k st.2 g hl (by rw[hb,d];exact h)) λh' hx=>c h' s.toks λb o hb e=>hx b o (λz=>hb (by simp[z])) e
 self:=λ_ _ _ _ st c=>ir st.1 c
theorem wj{I a T:Addr}{es:jb}{ep:Nat}{t:df}{c:sk}(ne:a≠I)(nT:T≠I)(hz:c.length=es.size)(q:∀j∈c,j<es.size){A:vr}(n:A.handled=none):
  Walks prog w A I [I,a,T] [I] es.size (λi v=>(c.map λj=>(es.getD j (0, .none)).2)[i]?=some v) (λi h=>SIt h I (.ref T) i a es.size ep/\SOb h a es ep t/\IsTup h T (c.map λj:Nat=>Value.int j 0).toArray) where
 sub:=λb hb=>by simp at hb;simp[hb]
 frame:=λ_ _ _ st g=>#[st.1.at λo e=>g I #[5] o e,st.2.1.keep λo e=>g a #[5] o e,by obtain⟨o,e,r⟩:=st.2.2;show#[o,g T #[5] o e,r]]
 item:=λi s Q E u st d=>by
  have f:i<c.length:=()
  have l:=q _ (PD f);have m:es[c[i]]?=some es[c[i]]:=OY l;refine Am (j:=c[i]) (x:=es[c[i]].2) (hx:=es[c[i]].1) st.1 st.2.1 st.2.2 (by simp[f]) m λh' p k=> ?_;refine d es[c[i]].2 h' s.toks ?_ #[p,st.2.1.keep λo e=>k.extBut a o ne e,6] λb o hb e=>k.extBut b o (λz=>hb (by simp[z])) e
  .rw[Ot,Ob f];simp[Array.getD,l]
  .obtain⟨o,e,r⟩:=st.2.2;show#[o,k.extBut T o nT e,r]
 done:=λs Q E st d=>DH n st.1 st.2.1 st.2.2 (by simp[hz]) λh' hx=>d h' s.toks λb o hb e=>hx b o (λz=>hb (by simp[z])) e
 self:=λ_ _ _ _ st d=>ir st.1 d
theorem F3{es:jb}(c:SOb s.heap a es ep t)(hT:j8 (pB w) t)(hb:es.size<scanBound)(p:∀(I:Addr)(h':Heap)(d':Drawn)(vs:qR)(x:List Addr)(St:Nat->Heap->Prop),(∀b o,s.heap.get? b=some o->h'.get? b=some o)->s.heap.objs.size<=I->(∀b∈x,b=a\/s.heap.objs.size<=b)->
   (∀f:Around,f.handled=none->Walks prog w f I x [I] es.size (λi v=>vs[i]?=some v) St)->St 0 h'->vs.Perm (es.toList.map (·.2))->Q (.ref I) {s with heap:=h',drawn:=d'}):wpAny (model prog w) A (pyIter (.ref a)) Q E s:=by
 obtain⟨⟨o,z,L,hd⟩,M⟩:=id c;have H:s.TypeIs (.ref a) T8:=#[o,z,L.1];have m:a<s.heap.objs.size:=N6 z;refine wpAny_pyIter_slot H PySem.F.slot_set_iter (Qg PySem.F.slot_set_iter H rJ ?_ (PySem.F.args_set_iter_1 _));unfold Builtin.«frozenset.__iter__» Builtin.Frozenset.slot0 slotArgs;simp only[Rh,RP,PZ,↓reduceIte,bind_assoc,Qp,Q6];unfold Builtin.Frozenset.addrOf Builtin.Frozenset.sizeOf setEntries setDrawn setEpoch setsByText;refine NU (N0 ?_);refine NU (N0 ?_);refine NU (NU (NU (cD c (N0 (N0 ?_)))));refine NU (NU (cD c ?_));dsimp only;refine NU (NU (QS (N0 (N0 ?_))));show wpAny _ _ (if(!w.params.followText TB&&(!t.plain&&decide (es.size>1)))=true then _ else _) _ _ _;have hz:t.place.size=es.size:=by have:=M;simp only[SetTable.fits,Oz,Qd]at this;exact this.1
 have nT:∀ {h:Heap} {I:Addr},s.heap.objs.size<=I->a≠I:=λ{h I} y e=>by rw[<-e]at y;exact absurd m (SJ.mpr y)
 refine QA (λn=> ?_) λn=> ?_
 .have K:es.size<=sizeLine:=NV (Qa hb) ∅;refine NU (BD es.size (List.range es.size) s _ #[5] λu d' d=> ?_);have J:u.length=es.size:=by rw[d.length_eq,O2]
  have U:∀j∈u,j<es.size:=λj N=>OQ.mp (d.mem_iff.mp N);refine NU ?_;simp only[newTuple];refine Qs ?_ ?_
  rotate_left
  .show sizeOk (.seq _ _);unfold sizeOk;simp only[Oq,My,J];exact K
  refine NU (NU (cD (s:={s with heap:=s.heap.push _,drawn:=d'}) (c.keep λo e=>NY _ e) (N0 ?_)));refine NU ?_;simp only[newFields];refine Qs (N0 #[7,Tw,_,#[_,Oi _ rfl,2],aT.lookup,6]);refine p _ _ d' (u.map λj=>(es.getD j (0, .none)).2) [_,a,s.heap.objs.size] _ (λb o e=>NY _ (NY _ e)) ?_ ?_ (λf h'=>wj (t:=t) (ep:=ep) ?_ ?_ J U h') #[#[_,Oi _ rfl,22],c.keep λo e=>NY _ (NY _ e),_,NY _ (Oi _ rfl),2,0,6] ?_
  .show s.heap.objs.size<=(s.heap.push _).objs.size;rw[Pd];exact QM _
  .intro b l;rcases N1.mp l with e|l
   .refine .inr ?_;rw[e];show s.heap.objs.size<=(s.heap.push _).objs.size;rw[Pd];exact QM _
   .rcases N1.mp l with e|l
    .exact .inl e
    .rw[Oj.mp l];exact .inr (N3 _)
  .intro e;have g:a=(s.heap.push _).objs.size:=e;rw[Pd]at g;rw[g]at m;exact absurd m (SJ.mpr (QM _))
  .intro e;have g:s.heap.objs.size=(s.heap.push _).objs.size:=e;rw[Pd]at g;exact absurd g (Oe (PB _))
  .rfl
  .refine(d.map _).trans (List.Perm.of_eq ?_);refine List.ext_getElem? λi=> ?_;rw[Ot,Ot];by_cases q:i<es.size
   .rw[List.getElem?_range q,Pu,OY q];simp[Array.getD,q]
   .rw[QB (show(List.range es.size).length<=i by rw[O2];lia),QB (by rw[Ou];lia)];rfl
 .refine NU (N0 ?_);refine NU (NU (cD c (N0 ?_)));refine NU ?_;simp only[newFields];refine Qs (N0 #[7,Tw,_,#[_,Oi _ rfl,2],aT.lookup,6]);have fpOk:∀b∈[s.heap.objs.size,a],b=a\/s.heap.objs.size<=b:=λb hb=>by
   rcases N1.mp hb with e|hb
   .exact .inr (by rw[e];exact N3 _)
   .exact .inl (Oj.mp hb)
  have ne:a≠s.heap.objs.size:=Oe m;by_cases G:w.params.followText TB=true
  .exact p s.heap.objs.size _ s.drawn _ [s.heap.objs.size,a] _ (λb o e=>NY _ e) (N3 _) fpOk (λf h'=>yT (t:=t) (ep:=ep) ne G h') #[#[_,Oi _ rfl,22],c.keep λo e=>NY _ e] ((nc _ es).map _)
  .have r:w.params.followText TB=false:=by cases h:w.params.followText TB with
    |false=>rfl
    |true=>exact absurd h G
   have d:(!t.plain&&decide (es.size>1))=false:=by
    rw[r]at n;cases h:(!t.plain&&decide (es.size>1))with
    |false=>rfl
    |true=>rw[h]at n;exact absurd rfl n
   have hl:t.led=true:=by rw[hT.1];unfold pB;rw[r];rfl
   have O:Ups t.place:=by
    cases B:t.plain with
    |true=>exact(hT.2 B).2
    |false=>
     rw[B]at d;intro i k h1 h2;have:¬es.size>1:=λh=>by simp[h]at d
     lia
   exact p s.heap.objs.size _ s.drawn _ [s.heap.objs.size,a] _ (λb o e=>NY _ e) (N3 _) fpOk (λf h'=>B7 (t:=t) (ep:=ep) ne r d hl O hz h') #[#[_,Oi _ rfl,22],c.keep λo e=>NY _ e] (Sf _)
end
end L2
namespace L2
open PySem PySem.Spec PyProof.Rows PySem.W
theorem F8{s:tr}(hT:s.TypeIs (.ref r) T8)(h:Q false s):wpAny (model prog w) A (Builtin.List.listLengthHint (.ref r)) Q E s:=by
 unfold Builtin.List.listLengthHint;refine NU (wpAny_specialOf hT PySem.F.slot_set_len.lookup ?_);generalize c:("set.__len__":tT)=d
 wp_delta
 rw[show splitId d=some (T8,"__len__")from by subst c;decide+kernel];subst c;refine NU (wpAny_isInstance (T:= T8) (b:=true) hT (by rw[isSubtype_type];kernel_rfl) ?_);refine QA (λa=>absurd a ∅) (λ_=> ?_);refine QA (λ_=> ?_) (λa=>absurd #[9] a);refine NU (R4 hT ?_);exact N0 h
section
variable{prog:tj}{w:vu}{A:vr}{E:f6}{s:tr}
theorem Aj{es:jb}(M:A.handled=none)(Q:SOb s.heap a es ep t)(hT:j8 (pB w) t)(hb:es.size<scanBound)(B:D≠a)(m:Value)(x:Nat)(y:s.heap.get? D=some {cls:= .type Ts,data:= .seq #v[] x})(hR:∀h' n d' c d (vs:qR),(∀b o,b≠D->s.heap.get? b=some o->h'.get? b=some o)->h'.get? D=some {cls:= .type Ts,dict:=none,data:= .seq c d,slots:= #v[]}->c.toList=vs->vs.Perm (es.toList.map (·.2))->R (.ok (.ret m)) {s with heap:=h',drawn:=d',toks:=n}):
  wpAny (model prog w) A.in1 (Builtin.List.listExtendWith (.ref D) (.ref a) m)
   (λab s'=>match ab with| .done f=>R (.ok f) s'| .again d=>d.quiet=true/\codeAny (model prog w) A d R s') (λe s'=>R (.error e) s') s:=by
 obtain⟨⟨o,N,L,hd⟩,hf⟩:=id Q;have bN:s.TypeIs (.ref a) T8:=#[o,N,L.1];have r:D<s.heap.objs.size:=N6 y;unfold Builtin.List.listExtendWith;refine NU (R4 (T:= T8) bN ?_);have h1:Builtin.List.listSameRef (.ref D) (.ref a)=false:=by simp[Builtin.List.listSameRef,B]
 simp only[h1,show(Value.type T8==Value.type Ts)=false by decide,show(Value.type T8==Value.type TN)=false by decide,Ti,PZ,Tg];refine NU (F3 Q hT hb λI h' d' vs fp St k H a3 W st O=> ?_);have G:D∉fp:=λl=>by
  rcases a3 D l with e|e
  .exact B e
  .exact absurd r (SJ.mpr e)
 have b2:D≠I:=λe=>by rw[e]at r;exact absurd r (SJ.mpr H)
 have hn:es.size<=sizeLine:=NV (Qa hb) ∅;have key:∀(g:Heap)(p n:Nat),St 0 g->(∀b o,b≠D->s.heap.get? b=some o->g.get? b=some o)->
   g.get? D=some {cls:= .type Ts,data:= .seq #v[] p}->codeAny (model prog w) A (.builtin "list.extend.loop" #[[.ref D, .ref I,m],[]]) R {s with heap:=g,drawn:=d',toks:=n}:=λg p n b1 k2 j=>by
  refine codeAny_extend_loopS (W A.in1 M).toS hn D G m es.size 0 _ #v[] p rfl (Pw _) b1 j (ItemsOf.nil _) λs' c d l az u=> ?_;rw[Moved.eq_with l];refine hR s'.heap s'.toks d' c d vs (λb o h e=>l.heap b o (λv=> ?_) (k2 b o h e)) az ?_ O
  .rcases N1.mp v with U|v
   .exact h U
   .have:=N6 e;rw[Oj.mp v]at this;exact absurd this (SJ.mpr H)
  .have vl:vs.length=es.size:=by rw[O.length_eq,My,Ou]
   refine List.ext_getElem? λi=> ?_;by_cases hi:i<es.size
   .have J:i<c.size:=by rw[u.1];exact hi
    rw[u.2 i c[i] (OY J),Pu,OY J]
   .rw[QB (by rw[Ou,u.1];lia),QB ()]
 have q:=k D _ y;have b0:Shared.TypeIs {s with heap:=h',drawn:=d'} (.ref a) T8:=#[o,k a o N,L.1];refine NU (O4 (F8 b0 ?_));refine QA (λ_=> ?_) (λ_=>N0 #[Rm SK _,key _ x _ st (λb o _ e=>k b o e) q]);refine NU (wpAny_rule (NU ?_));show wpAny _ _ (updateSeq D (·.push .none)>>=λ_=>updateSeq D (·.pop)) _ _ _;refine NU (wpAny_updateSeq q rfl ?_);have j:=OC (Obj.mapSeq (·.push Value.none)) q rfl;refine wpAny_updateSeq (hz:=by seq_fits) j rfl ?_;have ax:=OC (Obj.mapSeq (·.pop)) j rfl;refine N0 #[Rm SK _,key _ _ _ ?_ (λb o h e=> ?_) ax]
 .refine(W A.in1 M).frame 0 _ _ st λb a0 o e=> ?_;have K:b≠D:=λz=>G (z▸a0);exact(Oy _ _ (Pj K)).trans ((Oy _ _ (Pj K)).trans e)
 .exact(Oy _ _ (Pj h)).trans ((Oy _ _ (Pj h)).trans (k b o e))
theorem sH{es:jb}(l:A.handled=none)(g:SOb s.heap a es ep t)(hT:j8 (pB w) t)(hb:es.size<scanBound)(h:∀h' f d' d c,(∀b o,s.heap.get? b=some o->h'.get? b=some o)->h'.get? s.heap.objs.size=some {cls:= .type Ts,dict:=none,data:= .seq d c,slots:= #v[]}->d.toList.Perm (es.toList.map (·.2))->R (.ok (.ret (.ref s.heap.objs.size))) {s with heap:=h',drawn:=d',toks:=f}):
  codeAny (model prog w) A (.builtin "proto.collect" #[[.ref a],[]]) R s:=by
 obtain⟨⟨o,n,r,q⟩,u⟩:=id g;have i:a<s.heap.objs.size:=N6 n;refine Px entry_proto_collect' ?_;show wpAny _ _ (do again (.builtin Uh #[[<-newList [], .ref a],[]])) _ _ s;refine NU (Ss (N0 #[Qw _ #[9],Px entry_list_iadd' ?_]));rw[P4 i4 _];show wpAny _ _ (Builtin.List.listExtendWith (.ref s.heap.objs.size) (.ref a) (.ref s.heap.objs.size)) _ _ {s with heap:=s.heap.push (seqObj Ts #v[] 0)};exact Aj (s:={s with heap:=s.heap.push (seqObj Ts #v[] 0)}) l (g.keep λo e=>NY _ e) hT hb (Qb i) (.ref s.heap.objs.size) 0 (Oi _ rfl) λh' f d' d c vs m j k p=>
  h h' f d' d c (λb o e=>m b o (Oe (N6 e)) (NY _ e)) j (by rw[k];exact p)
theorem yg{es:jb}(g:A.handled=none)(k:SOb s.heap a es ep t)(hT:j8 (pB w) t)(hb:es.size<scanBound)(h:∀h' d d' (vs:qR),(∀b o,s.heap.get? b=some o->h'.get? b=some o)->s.heap.objs.size<h'.objs.size->vs.Perm (es.toList.map (·.2))->Q vs {s with heap:=h',drawn:=d',toks:=d}):
  wpAny (model prog w) A (collect (.ref a)) Q E s:=by
 unfold collect;refine NU (Sd (sH g k hT hb λh' d d' f c i e j=> ?_));show wpAny (model prog w) A (do
   let o<-load s.heap.objs.size
   match o.data with
   | .seq xs _=>pure xs.toList
   |_=>unsupported "internal:collect") Q E {s with heap:=h',drawn:=d',toks:=d}
 refine NU (wpAny_load e ?_);exact N0 (h h' d d' f.toList i (N6 e) j)
theorem zf{es:jb}(u:A.handled=none)(z:SOb s.heap a es ep t)(hT:j8 (pB w) t)(p:es.size<64)(q:∀vs:List Value,vs.Perm (es.toList.map (·.2))->∃ms:List Int,IntsAre vs ms/\ms.Perm ns)(h:∀(l:Addr) h' d d' (out:qs) (ms:sv) e,(∀b o,s.heap.get? b=some o->h'.get? b=some o)->s.heap.objs.size<=l->h'.get? l=some (seqObj Ts out e)->IntsAre out.toList ms->ms.Perm ns->ms.Pairwise (· <= ·)->Q (.ref l) {s with heap:=h',drawn:=d',toks:=d}):
  wpAny (model prog w) A (call (.builtin Ue) [.ref a]) Q E s:=by
 refine Calls.call_function_entry kind_sorted plain_sorted entry_sorted (args_sorted1 _) ?_;unfold Builtin.«sorted»;refine NU (m:=checkCount Ue 1 1 _) (N0 ?_);refine NU (yg u z hT (PJ p ∅) λg d d' vs x hsz i=> ?_);obtain⟨G,v,y⟩:=q vs i;have H:vs.length=es.size:=by rw[i.length_eq,My,Ou]
 refine NU (Ss ?_);have c:(g.push (seqObj Ts vs.toArray 0)).get? g.objs.size=some (seqObj Ts vs.toArray 0):=Oi _ rfl;refine NU (O4 (Qg slot_list_sort #[_,c,2] entry_list_sort (list_sort_tree c v () λout B j k n=>#[76]) (args_list_sort _)));obtain⟨e,r⟩:=sortedHeap_at (out:=out) c;refine N0 #[7,h _ _ d d' out B e (λb o f=> ?_) (Qa hsz) r j (k.trans y) n];have hb:=N6 f;rw[sortedHeap_old (Oe (PJ hb hsz)) (by rw[size_push'];exact Qr (PJ hb hsz))];exact NY _ (x b o f)
end
def yt(P:tj)(w:vu)(a:Addr)(ns:sv):HO:= .ext λh=>j9 P w (pB w) h a (λk=>ns.any (· ==k)) ns.length
def Kg(P:tj)(w:vu)(K:Frag):List V->Hp->VK->Prop:=λxs H Q=>∃(p:Addr)(ns:sv),xs=[.ref p]/\SqL K H p (ns.map V.int)/\ns.length+1<4096/\
 ∀l,H l=none->Q (.ref l) (upd H l (yt P w l (firstMet (λi=>ns.getD i 0) ns.length)))
theorem Inv.drawn{a:St}(I:Inv X pins a H s)(d':Drawn):Inv X pins a H {s with drawn:=d'}:=#[I.ok,I.os,I.bare,I.base,I.loc,I.cell,I.free,I.freeC,I.pin,I.hok,I.len]
theorem DQ{X:Cx}(j:X.calm=true):bz X (.type T8) (Kg X.prog X.w X.K):=by
 intro A s B H vs us Q I t h;obtain⟨p,ns,rfl,i,z,q⟩:=h;obtain⟨u,rfl,r⟩:=fJ t;cases r;obtain⟨d,f,p1,hz⟩:=I.list i;have k:=iR f;have c:=f.length;rw[My]at c;refine vU (ns:=ns) (I.ok.hd j) p1.isList #[5,k] (by rw[Oq];show d.length+1<4096;lia) λh' v a l=> ?_;have g:d.toArray.size=ns.length:=by rw[Oq,c]
 rw[g]at a;show#[.ref s.heap.objs.size,_,I.laid (t':=v) (λb o e=>l b o (N6 e) e) (N3 _) (show bx X.prog X.w _ _ _ (yt X.prog X.w s.heap.objs.size _)from#[a,6,λx y n m=>n.at m]),2,q _ (I.hok.fresh (N3 _))];obtain⟨o,_,_,_,e,_⟩:=a;show#[o,e]
theorem tV(val:Nat->Int):∀i,(firstMet val i).Nodup
 |0=>by rw[firstMet_zero];exact List.nodup_nil
 |i+1=>by
  rw[firstMet_succ];unfold step_dedup;have a:=tV val i;split
  .exact a
  .rename_i b;refine List.nodup_append.mpr #[a,#[5],λx hx y c e=> ?_];rw[Oj.mp c]at e;exact b (QQ.mpr #[x,hx,by rw[e];simp])
theorem qI{f:Type}[DecidableEq f]:∀(a l2:List f),a.Nodup->(∀x∈a,x∈l2)->l2.length=a.length->l2.Perm a
 | [],l2,_,_,h=>by rw[Pn.mp h]
 |x::a,l2,nd,b,hl=>by
  have hx:=b x N8;have p:=List.perm_cons_erase hx;have d:=Qy.mp nd;refine p.trans ((qI a (l2.erase x) d.2 (λy c=> ?_) ?_).cons x)
  .exact(List.mem_erase_of_ne (λe=>d.1 (by rw[<-e];exact c))).mpr (b y (N4 _ c))
  .rw[List.length_erase_of_mem hx,hl];rfl
theorem kx{P:tj}{w:vu}:∀(vs:qR),(∀v∈vs,∃k t,v=Value.int k t)->∃ms:List Int,IntsAre vs ms/\ms.length=vs.length/\∀k,k∈ms↔∃t,Value.int k t∈vs
 | [],_=>#[[], .nil,2,λk=>#[5]]
 |v::vs,h=>by
  obtain⟨ms,c,d,f⟩:=kx (P:=P) (w:=w) vs λu a=>h u (N4 _ a);obtain⟨k,t,rfl⟩:=h v N8;show#[k::ms, .cons k t c,by simp[d],λj=> ?_];rw[N1,f];constructor
  .rintro(rfl|⟨u,a⟩)
   .show#[t,N8]
   .show#[u,N4 _ a]
  .rintro⟨u,a⟩;rcases N1.mp a with e|a
   .injection e with b _
    exact .inl b
   .exact .inr #[u,a]
theorem zu{es:jb}{ns:sv}(i:ElemsOf (intKind P w) es.toList)(l:∀k,ns.any (· ==k)=true↔∃e∈es.toList,(intKind P w).is k e.2=true)(m:es.size=ns.length)(nd:ns.Nodup)(vs:qR)(c:vs.Perm (es.toList.map (·.2))):∃ms:List Int,IntsAre vs ms/\ms.Perm ns:=by
 obtain⟨ms,f,g,h⟩:=kx (P:=P) (w:=w) vs λv n=>by obtain⟨e,a,rfl⟩:=Of.mp (c.mem_iff.mp n);obtain⟨⟨k,b,_⟩,_⟩:=i e a;obtain⟨t,d⟩:=Sy (k:=k) (v:=e.2) b;show#[k,t,d]
 show#[ms,f,qI ns ms nd (λk b=> ?_) ?_]
 .obtain⟨e,a,j⟩:=(l k).mp (QQ.mpr #[k,b,#[5]]);obtain⟨t,d⟩:=Sy (k:=k) (v:=e.2) j;exact(h k).mpr #[t,c.mem_iff.mpr (Of.mpr #[e,a,d])]
 .rw[g,c.length_eq,My,Ou,m]
def EU(P:tj)(w:vu):List V->Hp->VK->Prop:=λxs H Q=>∃(a:Addr)(ns:sv),xs=[.ref a]/\H a=some (yt P w a ns)/\ns.Nodup/\ns.length<64/\
 ∀l (ms:sv),H l=none->ms.Perm ns->ms.Pairwise (· <= ·)->Q (.ref l) (upd H l (.lst (ms.map V.int)))
theorem Au{X:Cx}(j:X.calm=true):bz X (.builtin Ue) (EU X.prog X.w):=by
 intro K s L H xs us Q I G h;obtain⟨a,ns,rfl,i,nd,c,q⟩:=h;obtain⟨u,rfl,B⟩:=fJ G;cases B;obtain⟨⟨o,es,ep,t,y,p,k,n,x,hb,r,d,hT⟩,_,_⟩:=I.hok a _ i;refine zf (ns:=ns) (I.ok.hd j) (#[#[o,y,p,k],r]:SOb s.heap a es ep t) hT (by rw[d];exact c) (λvs z=>zu n x d nd vs z) λl h' J d' out ms e v hsz m f b g=> ?_;have A:=lA f;show#[.ref l,_,(I.drawn d').laid (t':=J) v hsz (show bx X.prog X.w _ _ _ (.lst (ms.map V.int))from#[6,out.toList,e,A,6]),2,q _ ms (I.hok.fresh hsz) b g]
 .rw[My,b.length_eq];exact NV (Qa c) ∅
 .rw[m]
theorem Av{X:Cx}{K:Frag}(a:X.prog=P)(c:X.w=w)(h:X.K=K)(b:X.calm=true):bz X (.type T8) (Kg P w K):=by subst a c h;exact DQ b
theorem yj{X:Cx}(a:X.prog=P)(c:X.w=w)(b:X.calm=true):bz X (.builtin Ue) (EU P w):=by subst a c;exact Au b
end L2
namespace L2
open PySem PySem.Spec PyProof.Rows
structure WB(a₀:Array Keyed)(st:SortSt):Prop where
 perm:(arrOf st).Perm a₀
 kind:kindOf st=oneType'
 failed:failedOf st=none
theorem WB.size{a:Array Keyed}{st:SortSt}(h:WB a st):(arrOf st).size=a.size:=h.perm.size_eq
set_option maxHeartbeats 4000000
end L2
namespace L2
open PySem PySem.Spec PyProof.Rows
end L2
namespace L2
open PySem PySem.Spec PyProof.Rows PySem.W
end L2
namespace Bh
end Bh
namespace L2
open PySem PySem.Spec PyProof.Rows
theorem qe{N P:r9}{h:Scope}(a:h.kind= .function:=by rfl)(b:h.isCoroutine=false:=by rfl)(c:h.isGenerator=false:=by rfl)(d:N.Nodup:=by decide+kernel)(e:N.take P.length=P:=by rfl)(f:∀x∈P,h.names.lookup x=some .local\/h.names.lookup x=some .cell:=by decide+kernel)(g:∀y∈h.names,y.2≠ .free:=by decide+kernel):bZ N P h:=#[a,b,c,d,e,f,g]
section
variable{X:Cx}{x:Str}{ps:r9}{j k:Nat}{sp:Sp}{e a b tg:Expr}{es:q7}{t:TA}{p pos:Pos}{ta tb te:TE}
theorem wcal(C:Cal X.prog X.w X.K X.mg X.base j x ps sp)(l:Room k X.A)(c:PA X (e::es) t)(h:j<=k:=by first|decide|lia)(g:Gl X x:=by rfl)(d:(x==(Tq:Str))=false:=by decide)(f:starEach (e::es) X.env=(false,eval e X.env)::starEach es X.env:=by rfl)(i:(backTo pos (starEach es X.env)).any (·.1)=false:=by rfl):PE X (.Call (.Name x p) (e::es) [] pos) (wC sp [] E0 t):=Ly C l h g c d f i
theorem wset(i:Nat){pos':Pos}(c:X.N.Nodup)(d:PE X e te)(g:X.N[i]?=some x:=by rfl)(hx:Loc X.env.scope x:=by first|exact PR rfl|exact Or.inr rfl)(h:swapsWith e (some (.Name x pos')) pos.line X.env=pure false:=by rfl)(f:X.fn x=true\/X.env.scope.names.lookup x=some .local:=by first|exact .inl rfl|exact .inr rfl|assumption):PS X (.Assign [.Name x pos'] e pos) (Er te (bK i)):=Lj c g hx d h f
theorem wname(i:Nat)(c:X.N.Nodup)(f:X.N[i]?=some x:=by rfl)(hx:Loc X.env.scope x:=by first|exact PR rfl|exact Or.inr rfl)(d:X.fn x=true\/X.env.scope.names.lookup x=some .local:=by first|exact .inl rfl|exact .inr rfl|assumption):PG X (.Name x pos) (bK i):=gu c f hx d
theorem aD(K:Frag)(c:PE X a ta)(hb:PE X b tb)(h:X.K=K:=by rfl)(d:wb b:=by intro _ _;rfl):PE X (.Subscript a b pos) (tOp (Lh K) ta tb):=jB (F0 h) c hb d
theorem mK(K:Frag)(c:PE X a ta)(hb:PE X b tb)(h:X.K=K:=by rfl)(d:wb b:=by intro _ _;rfl):PE X (.Subscript a b pos) (tOp (Lg K) ta tb):=jB (Jz h) c hb d
theorem wlen(K:Frag)(g:X.mg "len"=none)(d:PE X e te)(h:X.K=K:=by rfl)(f:Gl X "len":=by rfl)(c:starEach [e] X.env=(false,eval e X.env)::starEach [] X.env:=by rfl)(i:(backTo pos (starEach [] X.env)).any (·.1)=false:=by rfl):PE X (.Call (.Name "len" p) [e] [] pos) (tCB (Ki K) (sS te wB)):=
 aV (sL h) f g P5 (ai d aN c) ∅ ∅ c i
theorem wrng(g:X.mg Tx=none)(c:PE X a ta)(f:Gl X Tx:=by rfl)(h:starEach [a] X.env=[(false,eval a X.env)]:=by rfl)(d:starEach [a] X.env=(false,eval a X.env)::starEach [] X.env:=by rfl):PI X tg (.Call (.Name Tx p) [a] [] pos) (Kq (sS ta wB)):=CJ f g (ai c aN d) h
theorem wil(K:Frag)(hl:PE X e te)(h:X.K=K:=by rfl):PI X tg e (F6 K te):=E1 h hl
theorem wit(K:Frag)(hl:PE X e te)(h:X.K=K:=by rfl):PI X tg e (LX K te):=IM h hl
theorem wfor{c:List Stmt}{d:TI}{g:TG}{tb:TS}(i:PI X tg e d)(h:PG X tg g)(hb:PSs X c tb)(l:PassesOwn (model X.prog X.w) X.A X.env X.xe:=by exact PassesOwn.never)(f:X.calm=true:=by rfl)(m:∀x,foldedSetIterable e X.env x=pure x:=by intro _;rfl):PS X (.For tg e c [] pos) (Mu d g tb):=Lk l f i h hb m
theorem wpt{c:CmpOp}{r:R2}(g:OpR X (compareOp c) r)(d:PE X a ta)(hb:PE X b tb)(f:behindInMarks c b=false:=by exact nomark _):PT X (.Compare a [c] [b] pos) (J5 (tOp r ta tb)):=dk g d hb f
theorem wpe{c:CmpOp}{r:R2}(g:OpR X (compareOp c) r)(d:PE X a ta)(hb:PE X b tb)(f:behindInMarks c b=false:=by exact nomark _):PE X (.Compare a [c] [b] pos) (tOp r ta tb):=jV g d hb f
theorem wfld(K:Frag){f:Str}(c:PE X e ta)(h:X.K=K:=by rfl)(hb:attributeBase e f X.env (eval e X.env)=eval e X.env:=by rfl):PE X (.Attribute e f pos) (KO K ta f):=IW h c hb
theorem wsf(K:Frag){f:Str}{pos':Pos}(c:PE X a ta)(g:PE X b tb)(h:X.K=K:=by rfl)(d:swapsWith b (some (.Attribute a f pos')) pos.line X.env=pure false:=by rfl):PS X (.Assign [.Attribute a f pos'] b pos) (La K ta tb f):=II h c g d
end
end L2
namespace L2
open PySem PyProof PyProof.Rows
end L2
namespace L2
open PySem PySem.Spec PyProof.Rows
def sF(o:Obj):Option Value:=match o.data with| .fields vs=>vs[2]?|_=>none
def DiS(h h':Heap):Prop:=∀b o,h.get? b=some o->∃u,h'.get? b=some u/\u.dict=o.dict/\sF u=sF o
theorem DiS.same(h:Heap):DiS h h:=λ_ o e=>#[o,e,22]
theorem DiS.on(x:DiS h h1)(y:DiS h1 h2):DiS h h2:=λb o e=>by obtain⟨u,a,d,g⟩:=x b o e;obtain⟨v,c,f,i⟩:=y b u a;show#[v,c,f.trans d,i.trans g]
def Dk{b:Type}:Sem b->Prop
 | .pure _=>True
 | .raise _=>True
 | .unsupported _=>True
 | .finish _=>True
 | .rule _ k=>Dk (k Unit.unit)
 | .at _ k=>Dk (k Unit.unit)
 | .load _ _ k=>∀o,Dk (k o)
 | .update _ _ f k=>(∀o:Obj,o.isFreed=false->(f o).isFreed=false/\(f o).dict=o.dict/\sF (f o)=sF o)/\Dk (k Unit.unit)
 | .loadIfAlive _ k=>∀o,Dk (k o)
 | .point _ k=>Dk (k Unit.unit)
 | .register _ _=>True
 | .alloc _ k=>∀a,Dk (k a)
 | .fresh k=>∀t,Dk (k t)
 | .ask k=>∀q,Dk (k q)
 | .choose _ _ _=>False
 | .os _ _ _=>False
 | .call _ _ _ _ _=>False
 | .handled _ k=>∀v,Dk (k v)
 | .genState _ _=>False
 | .newGen _ _=>False
 | .resume _ _ _ _=>False
 | .yield _ _ _ _=>False
 | .stack k=>∀l,Dk (k l)
 | .fork _ _=>False
 | .thread k=>∀n,Dk (k n)
 | .await _ _ _ _ _=>False
theorem Dk.then{f:α->Sem β}(h:Dk m)(q:∀a,Dk (f a)):Dk (m>>=f):=by
 show Dk (m.bind f)
 induction m with
 |pure a=>exact q a
 |raise e=>exact Og
 |unsupported|finish|register=>exact Og
 |rule _ k b|«at» _ k b|point _ k b=>exact b Unit.unit h
 |load _ _ k b|loadIfAlive _ k b|alloc _ k b|fresh k b|ask k b|handled _ k b|stack k b|thread k b=>exact λx=>b x (h x)
 |update _ _ f k b=>show#[h.1,b Unit.unit h.2]
 |choose|os|call|genState|newGen|resume|yield|fork|await=>exact h.elim
theorem JO{h:Heap}(q:∀o:Obj,o.isFreed=false->(f o).isFreed=false/\(f o).dict=o.dict/\sF (f o)=sF o):DiS h (h.update a f):=λb o e=>by
 by_cases z:a=b
 .subst z;have n:=(Heap.get?_some_iff.mp e).2;show#[f o,OC f e (q o n).1,(q o n).2]
 .show#[o,(Oy h f z).trans e,22]
theorem Dk.wp:∀(t:Sem m),Dk t->∀(p:Pos)(s:tr),Sem.wp M i t Q E p s->Sem.wp M i t (λa g s'=>Q a g s'/\DiS s.heap s'.heap) E p s:=by
 intro t;have l:∀(t:Sem m)(p:Pos)(s j:tr),DiS j.heap s.heap->Sem.wp M i t (λa g s'=>Q a g s'/\DiS s.heap s'.heap) E p s->Sem.wp M i t (λa g s'=>Q a g s'/\DiS j.heap s'.heap) E p s:=λt p s j d h=>
  Sem.wp_mono M i t (λ_ _ _ z=>#[z.1,d.on z.2]) (λ_ _ _ z=>z) p s h
 induction t with
 |pure a=>exact λ_ p s h=>#[h,DiS.same _]
 |raise e=>exact λ_ p s h=>h
 |unsupported|finish|register=>exact λ_ _ _ h=>h.elim
 |rule _ k c|«at» _ k c|point _ k c=>exact λd p s h=>c Unit.unit d _ s h
 |load _ _ k c=>exact λd p s ⟨o,e,h⟩=>#[o,e,c o (d o) p s h]
 |loadIfAlive _ k c|ask k c|handled _ k c|stack k c|thread k c=>exact λd p s h=>c _ (d _) p s h
 |fresh k c=>exact λd p s h=>c _ (d _) p _ h
 |alloc _ k c=>exact λd p s h=>l _ p {s with heap:=s.heap.push _} s (λb o e=>#[o,NY _ e,22]) (c _ (d _) p _ h)
 |update a _ f k c=>exact λd p s ⟨n,h⟩=>#[n,l _ p _ s (JO d.1) (c Unit.unit d.2 p _ h)]
 |choose|os|call|genState|newGen|resume|yield|fork|await=>exact λd=>d.elim
theorem Dk.any{s:tr}(d:Dk t)(h:wpAny M A t Q E s):wpAny M A t (λa s'=>Q a s'/\DiS s.heap s'.heap) E s:=
 λc p b=>Dk.wp t d p s (h c p b)
theorem Dk.ite[Decidable c](x:Dk a)(y:Dk b):Dk (if c then a else b):=by split<;>assumption
theorem xX(v:Value):Dk (fieldsOf v):=by unfold fieldsOf;cases v<;>first|exact Og|skip;refine Dk.then (m:=load _) (λo=>Og) λo=> ?_;split<;>exact Og
theorem mB(v:Value)(i:Nat):Dk (field v i):=by unfold field;refine(xX v).then λa=> ?_;split<;>exact Og
theorem jM(v:Value)(i:Nat)(x:Value)(e:i≠2):Dk (setField v i x):=by
 unfold setField;cases v<;>first|exact Og|skip;rename_i a;refine Dk.then (m:=load _) (λo=>Og) λo=> ?_;split
 .refine Dk.ite #[λo n=> ?_,Og] Og;obtain⟨c,d,b,f⟩:=o;cases b<;>first|exact⟨n,rfl,rfl⟩|exact⟨rfl,rfl,rfl⟩|exact⟨rfl,rfl,Array.getElem?_setIfInBounds_ne e⟩
 .exact Og
theorem iT(e:Value)(f:px):Dk (setFlight e f):=by
 unfold setFlight;refine(mB e 1).then λa=> ?_;split
 .exact jM _ _ _ ∅
 .exact Og
theorem xW:∀l:List Env,Dk (readyFrames l)
 | []=>Og
 |env::a=>by
  unfold readyFrames;split
  .refine Dk.then (m:=load _) (λo=>Og) λo=>Dk.ite Og ?_;refine Dk.then (m:=behindIsImport env a) ?_ λf=> ?_
   .unfold behindIsImport;refine Dk.ite Og (Dk.ite Og ((mB _ _).then λ_=>Og))
   .refine Dk.then (m:=keptBack env f a) ?_ λbk=> ?_
    .unfold keptBack;split
     .refine Dk.ite Og ?_;refine Dk.then (m:=underTheClaimsCaller) ?_ λb=>Og
      first|exact λ_=>Og|(unfold underTheClaimsCaller;exact λ_=>Og)
     .exact Og
    .refine Dk.then (m:=update _ _) #[λo n=>#[622],Og] λ_=>xW a;obtain⟨c,d,e,g⟩:=o;cases e<;>first|rfl|exact n
  .exact Og
theorem An(env:Env):Dk (PySem.frameOf env):=by
 unfold PySem.frameOf frameEnvs;refine Dk.then (m:=(do return ((<-stack).filter (·.1.isFrame)).filterMap (·.1.env?))) (λ_=>Og) λl=> ?_;refine Dk.then (m:=frameObject _) ?_ λr=> ?_
 .unfold frameObject;split
  .exact Og
  .exact(xW _).then λ_=>Og
 .split<;>exact Og
theorem my(e:Value)(env:Env):Dk (noteFrame e env):=by
 unfold noteFrame;split
 .refine(mB e 1).then λa=> ?_;have rest:Dk (do setField e 1 (<-EntryCells.newEntry a (<-PySem.frameOf env) .none (rawInt ‹Addr›) .none (<-entryPlaceOf ‹Addr› (a != .none)))):=by
   refine(An env).then λfr=> ?_;refine Dk.then (m:=entryPlaceOf _ _) ?_ λpl=> ?_
   .unfold entryPlaceOf;refine Dk.then (m:=stack) (λ_=>Og) λc=> ?_;split<;>exact Og
   .refine Dk.then (m:=EntryCells.newEntry _ _ _ _ _ _) ?_ λb=>jM _ _ _ ∅;unfold EntryCells.newEntry newFields newObj;dsimp only;have nw:∀vs:Array Value,Dk (newObjAsIs (.type "traceback") (.fields vs)):=λvs=>λ_=>Og;split<;>exact Dk.ite (Dk.then (m:=unsupported _) Og λ_=>nw _) (nw _)
  refine Dk.ite ?_ rest;refine(mB a 3).then λx=>Dk.ite Og ?_;exact(jM _ _ _ ∅).then λ_=>rest
 .exact Og
theorem lq(env:Env)(e:Value):Dk (leaving env e):=(my e env).then λ_=>iT e none
def Ak(K:Frag)(C d:Addr)(c:qR)(newId:tT):Bool:=
 match K.lookup C with
 |some ⟨.type "type",_, .cls a,e⟩=>
  match a.mro,e.toList with
  | .ref b::bm,[_,_,_,_,some (.builtin n),_]=>((((b==C&&n==newId)&& !a.hasDel)&&PySem.W.tailIn K c bm)&&PySem.W.nsOkIn K a.ns)&&nsIn K a.ns TF==some (some (.ref d))
  |_,_=>false
 |_=>false
structure wc(x:Str)(C fI:Addr)(bmB:qR)(newId:tT)(mg:i2)(h:Heap):Prop where
 g:mg x=some (.ref C)
 ex:∃bm N nm q bs hdct sn sub ab col dd k0 k1 k2 k3 k5 mN,h.get? C=some (excClassObj nm q C N bs bm hdct sn sub ab col dd k0 k1 k2 k3 k5 newId)/\h.Ns N mN/\mN TF=some (.ref fI)/\OwnTail h bmB bm
theorem LZ{K:Frag}{h₀:Heap}(X:K.In h₀)(G:h₀.Ns mainGlobals mg)(e:nsIn K mainGlobals x=some (some (.ref C)))(q:Ak K C fI bmB newId=true):wc x C fI bmB newId mg h₀:=by
 show#[RO X G e,6];unfold Ak at q;split at q
 .rename_i dd i h u;split at q
  .rename_i B bm k0 k1 k2 k3 n k5 f w;simp only[Oz,Qd,Pb]at q;obtain⟨⟨⟨⟨⟨j,k⟩,b⟩,y⟩,g⟩,a⟩:=q;subst j k;obtain⟨nm,bs,M,ns,A,s,sn,sub,ab,col,H⟩:=i;dsimp only at f b g a;subst f b;obtain⟨l⟩:=h;cases (show l=_ from w);have N:=Heap.Ns.of_isNs (PySem.W.isNs_of_in X g);show#[bm,ns,nm,A,bs,s,sn,sub,ab,col,dd,k0,k1,k2,k3,k5,_,X _ _ u,N,6,PySem.W.tail_of_in X y];obtain⟨o,es,ep,r,m,_,p⟩:=N;unfold nsIn at a;split at a
   .rename_i c d L O h q;have z:=X _ _ q;rw[r]at z;cases z;cases m;split at a
    .rename_i J t;have v:=OA (OA a);rw[<-p];unfold nsFind findBy;rw[<-Array.find?_toList,t];exact OL some v
    .split at a<;>cases a
   .cases a
  .cases q
 .cases q
abbrev xU(rest:qR):Obj:={cls:= .type TN,data:= .seq rest.toArray}
abbrev DF(C a:Addr):Obj:={cls:= .ref C,data:= .fields #v[.ref a, .none, .none, .none, .bool false, .none]}
section
variable{prog:tj}{w:vu}{A:vr}{E:f6}{h:Heap}{g:Array GenState}{d:Drawn}{t:Nat}{os:OsState}
variable{nm q:Str}{C N fI:Addr}{bs bm bmB:qR}{hdct:Bool}{sn:r9}{sub:qR}{ab:Bool}{col:Option Bool}{dd:px}{k0 k1 k2 k3 k5:Option Value}{B newId initId:tT}
theorem DB(F:ExcBaseFacts B newId initId bmB)(T:OwnTail h bmB bm){rest:qR}{i:Obj}(hC:h.get? C=some (excClassObj nm q C N bs bm hdct sn sub ab col dd k0 k1 k2 k3 k5 newId))(s:h.Ns N mN)(n:mN TF=some (.ref fI))(l:h.get? fI=some i)(m:i.cls= .type Ul)(hl:rest.length<=sizeLine)(v:∀h' e,Heap.MadeExcOf h h' e (.ref C) rest->wpAny (model prog w) A (call (.ref fI) (.ref e::rest)) (λr s'=>r= .none/\Q (.done (.ret (.ref e))) s') E #[h',g,d,t,os]):
  wpAny (model prog w) A (Builtin.«type.__call__» #[.ref C::rest,[]]) Q E #[h,g,d,t,os]:=by
 repeat (first|with_reducible refine wpAny_madeBy_exc hC ?_|with_reducible refine PM hC ?_|wp_step)
 refine codeAny_call_builtin_code (Qw _ F.quiet) (wpAny_check_new_subT F T hC (codeAny_exc_new_subT F T hC ?_ hl));show wpAny _ _ _ _ _ _;have a:∀ {b:Addr} {o:Obj},h.get? b=some o->((h.push (xU rest)).push (DF C h.objs.size)).get? b=some o:=λe=>NY _ (NY _ e);have c:=a hC;have u:((h.push (xU rest)).push (DF C h.objs.size)).Ns N mN:=s.keeps λ_ _=>a;have j:=T.keeps (h':=(h.push (xU rest)).push (DF C h.objs.size)) λ_ _=>a;have f:((h.push (xU rest)).push (DF C h.objs.size)).get? (h.objs.size+1)=some (DF C h.objs.size):=by
  have z:=Oi (h.push (xU rest)) (o:=DF C h.objs.size) rfl
  rwa [Pd]at z
 have p:(Value.ref C::bm).contains (.ref C)=true:=#[5]
 unfold isInstance
 repeat (first|with_reducible refine PM f ?_|(with_reducible refine Ro c ?_;rw[p])|wp_step)
 show wpAny _ _ (typeLookup (.ref C) _) _ _ _;refine wpAny_typeLookup_tail c u j F.mroIs F.init.lookup ?_;rw[n];refine O4 (NU ?_);unfold bindSpecial;refine NU (R4 (T:= Ul) #[_,a l,m] ?_);rw[NZ ∅];refine N0 (NU (ON (v _ (h.objs.size+1) #[λ_ _=>a,RW (QM _),h.objs.size,f,RW (N3 _),6]) (λr s' y=> ?_) λ_ _ x=>x))
 .exact NY _ (Heap.get?_push_at rfl rfl)
 .obtain⟨rfl,k⟩:=y
  wp_walk
  exact k
theorem Gk(F:ExcBaseFacts B newId initId bmB)(T:OwnTail h bmB bm){rest:qR}{a:Obj}(hC:h.get? C=some (excClassObj nm q C N bs bm hdct sn sub ab col dd k0 k1 k2 k3 k5 newId))(j:h.Ns N mN)(f:mN TF=some (.ref fI))(b:h.get? fI=some a)(c:a.cls= .type Ul)(hl:rest.length<=sizeLine)(k:∀h' e,Heap.MadeExcOf h h' e (.ref C) rest->wpAny (model prog w) (A.under (.builtin TJ #[.ref C::rest,[]])) (call (.ref fI) (.ref e::rest)) (λr s'=>r= .none/\Q (.ref e) s') E #[h',g,d,t,os]):
  wpAny (model prog w) A (call (.ref C) rest) Q E #[h,g,d,t,os]:=by
 have f1:=tc_lookup;have f2:=tc_bind (.ref C);have l:(#[h,g,d,t,os]:tr).TypeIs (.ref C) "type":=#[_,hC,2];refine QZ (R5 ?_);show wpAny _ _ (callAny (.ref C) _) _ _ _
 repeat (any_goals (first|assumption|with_reducible refine PM hC ?_|wp_step))
 show#[2,codeAny_call_builtin_at (Qw _ #[9]) entry_typeCall (wpAny_check_type_call_sub hC (DB F T hC j f b c hl λh' e i=> ?_))];exact k h' e i
theorem ET(hb:bm.contains (.type Tv)=true)(k:A.handled=none)(hx:wpAny M A x (λv a=>∃e od b c,v= .ref e/\a.heap.get? C=some (excClassObj nm q C N bs bm hdct sn sub ab col dd k0 k1 k2 k3 k5 newId)/\
   a.heap.get? e=some {cls:= .ref C,dict:=od,data:= .fields #v[.ref c, .none, .none, .none, .bool false, .none],slots:=b}/\E (.ref e) a) E s):
  wpAny M A (raiseStmt env (some x) none) Q E s:=by
 have i:(Value.ref C::bm).contains (.type Tv)=true:=by rw[List.contains_cons,hb,Bool.or_true]
 unfold raiseStmt;refine NU (ON hx (λv a z=> ?_) λ_ _ z=>z);obtain⟨e,od,b,c,rfl,hC,j,f⟩:=z;obtain⟨l,g,d,m,os⟩:=a
 repeat (first|with_reducible refine PM hC ?_|with_reducible refine PM j ?_|(with_reducible refine Ro hC ?_;rw[i])|wp_step)
 exact wpAny_raiseNew_none k f
end
def iX(C:Addr)(d:px)(a:Addr):HO:= .ext λh=>∃t b,h.get? a=some {cls:= .ref C,dict:=d,data:= .fields #v[.ref t, .none, .none, .none, .bool false, .none],slots:=b}
def D9(b:Addr)(fs:List (Str×V)):HO:= .ext λh=>∃a,h.Ns1 b a/\(∀f,ie (fs.lookup f) (a f))/\PySem.Within a (fs.map (·.1))
def wo(H:Hp)(a:Addr):Hp:=λb=>if b=a then none else H b
theorem lz(h:b≠a):wo H a b=H b:=NW h
theorem AK:wo H a a=none:=NZ rfl
def CXd(P:tj)(w:vu):CXT:=λc H s E e s'=>∃a cls b H',e= .ref a/\Fly P w c H s a cls H' s'/\(∃o,s'.heap.get? a=some o/\o.dict=some b)/\E cls (some b) H'
section
variable{P:tj}{w:vu}{K:Frag}{mg:i2}{base:Heap}{N:r9}{qual:Str}{scope:Scope}{f:Addr}{cd:Value}{A:vr}{outer:ti}{s:tr}{H:Hp}{E:XK}
theorem Gh{σ:St}(I:Inv (cJ (CXd P w) P w K mg base N qual scope f cd A outer s H E) pins σ i g)(j:i a=some (iX C (some dx) a))(M:s.heap.get? a=none)(q:E (.ref C) (some dx) (wo i a)):(cJ (CXd P w) P w K mg base N qual scope f cd A outer s H E).xe (.ref a) g:=by
 have ax:g.heap.FunFrames base (envOfC qual scope s.heap.objs.size f cd::outer):=I.stack;have U:∀b o,s.heap.get? b=some o->b∉frs outer->b∉a::frs (envOfC qual scope s.heap.objs.size f cd::outer):=λb o e hb l=>by
  rcases N1.mp l with z|z
  .rw[z,M]at e;cases e
  .rcases N1.mp (I.stkSub b z)with z|z
   .exact absurd z (Oe (N6 e))
   .exact hb z
 have h:∀c u,i c=some u->(∀φ,u≠ .ext φ)->c≠a:=λc u e n z=>by rw[z,j]at e;exact n _ (OA e).symm
 obtain⟨⟨t,sl,J⟩,_,_⟩:=I.hok a _ j;show wpAny (model P w) (A.deeper (envOfC qual scope s.heap.objs.size f cd)) (leaving (envOfC qual scope s.heap.objs.size f cd) (.ref a)) (λ_ B=>CXd P w outer H s E (.ref a) B) (λe' B=>CXd P w outer H s E e' B) g;refine ON ((lq _ _).any (wpAny_leaving_firstW (base:=hideAll g.heap (a::frs (envOfC qual scope s.heap.objs.size f cd::outer))) (a0:= .ref t)
  (Q:=λ_ s'=>∃h',s'={g with heap:=h'}/\Heap.LeftW (hideAll g.heap (a::frs (envOfC qual scope s.heap.objs.size f cd::outer))) (envOfC qual scope s.heap.objs.size f cd::outer) a (.ref C) (.ref t) g.heap h')
  I.ok.frames (Q2 ax λe j b hb=>N4 _ (Qi.mpr #[e,j,hb])) rfl J (λb o z=>Qh _ z) (Ra _ N8) rfl rfl rfl λh' L=>#[h',2,L])) (λ_ s' z=> ?_) λ_ _ z=>z
 obtain⟨⟨h',rfl,k1,⟨_,_,k2⟩,k3,k4⟩,D⟩:=z;obtain⟨u,hu,hd⟩:=D a _ J;show#[a, .ref C,dx,wo i a,2,#[I.os,I.bare,#[11,#[k1,Ra _ N8,k2,k3],λb o e n hb=> ?_,λb o e hb=> ?_,λb v e=> ?_],λb o e hb=> ?_,λb o e n=> ?_,λb xs e=> ?_,λb o v e=> ?_,λb ps e=> ?_,M],#[u,hu,hd.1],q]
 .exact OT _ (I.base.keep b o e n hb (λz=>nomatch z)) (U b o e hb)
 .obtain⟨p,d⟩:=I.base.there b o e (λz=>nomatch z);show#[p,OT _ d (U b o e hb)]
 .by_cases hb:b=a
  .rw[hb,AK]at e;cases e
  .rw[lz hb]at e;refine(I.hok b v e).stay (λc x G r=>OT _ r λl=> ?_) (λc r=>by rw[lz (h c _ r λ_ z=>nomatch z)];exact r) λc xs r=>by rw[lz (h c _ r λ_ z=>nomatch z)];exact r
   rcases N1.mp l with z|z
   .rcases G with y|y
    .exact hb (y.symm.trans z)
    .exact h c _ y (λ_ x=>nomatch x) z
   .have k:=I.stkFree c z;rcases G with y|y
    .rw[y,e]at k;cases k
    .rw[y]at k;cases k
 .obtain⟨_,p,ay,nf⟩:=I.ok.funs.mem hb;have O:s.heap.get? b=some p:=ay;rw[e]at O;cases O;obtain⟨b2,d⟩:=I.base.slot b o e (I.ok.frf b hb) hb (λz=>nomatch z);obtain⟨bp,e2⟩:=k4 b _ d nf;show#[bp,e2]
 .by_cases hb:b=a
  .rw[hb,AK]
  .rw[lz hb];exact I.base.free b o e n (λz=>nomatch z)
 .have d:=I.base.tups b xs e;rw[lz (h b _ d λ_ z=>nomatch z)];exact d
 .have d:=I.base.frzs b o v e;rw[lz (h b _ d λ_ z=>nomatch z)];exact d
 .obtain⟨m,d⟩:=I.base.tbls b ps e;show#[m,by rw[lz (h b _ d λ_ z=>nomatch z)];exact d]
theorem JH{σ:St}(I:Inv (cJ (CXd P w) P w K mg base N qual scope f cd A outer s H E) pins σ H1 p)(h:CXd P w (envOfC qual scope s.heap.objs.size f cd::outer) H1 p E e s'):(cJ (CXd P w) P w K mg base N qual scope f cd A outer s H E).xe e s':=by
 obtain⟨c,cls,t,H',rfl,F,⟨oe,U,O⟩,q⟩:=h;obtain⟨B,a0,y,J,ht,ab⟩:=F.ex;have m:∀b o,s.heap.get? b=some o->b∉frs outer->b∉frs (envOfC qual scope s.heap.objs.size f cd::outer):=λb o e hb L=>by
  rcases N1.mp (I.stkSub b L)with z|z
  .exact absurd z (Oe (N6 e))
  .exact hb z
 show wpAny (model P w) (A.deeper (envOfC qual scope s.heap.objs.size f cd)) (leaving (envOfC qual scope s.heap.objs.size f cd) (.ref c)) (λ_ j=>CXd P w outer H s E (.ref c) j) (λv j=>CXd P w outer H s E v j) s';refine ON ((lq _ _).any (wpAny_leaves_onW (Q:=λ_ r=>∃g,r={s' with heap:=g}/\Heap.FlyingW B outer c cls a0 g/\s'.heap.UpToSlots g) I.ok.frames rfl y λg x1 x2=>#[g,2,x1,x2])) (λ_ r z=> ?_) λ_ _ z=>z;obtain⟨⟨g,rfl,x1,x2⟩,D⟩:=z;obtain⟨u,hu,G⟩:=D c _ U;show#[c,cls,t,H',2,#[F.os.trans I.os,F.bare,#[B,a0,x1,λb o e n hb=> ?_,λb o e hb=> ?_,ab],λb o e hb=> ?_,λb o e n=> ?_,λb xs e=>F.tups b xs (I.base.tups b xs e),λb o xs e=>F.frzs b o xs (I.base.frzs b o xs e),λb ps e=> ?_,6],#[u,hu,G.1.trans O],q]
 .exact J b o (I.base.keep b o e n hb (λz=>nomatch z)) (I.base.free b o e n (λz=>nomatch z)) (m b o e hb)
 .obtain⟨d,a⟩:=I.base.there b o e (λz=>nomatch z);exact ht b d a (m b o e hb)
 .obtain⟨_,d,M,nf⟩:=I.ok.funs.mem hb;have l:s.heap.get? b=some d:=M;rw[e]at l;cases l;obtain⟨sl,a⟩:=I.base.slot b o e (I.ok.frf b hb) hb (λz=>nomatch z);obtain⟨bp,i⟩:=F.slot b _ a (N4 _ hb);obtain⟨az,x⟩:=x2 b _ i nf;show#[az,x]
 .obtain⟨d,a⟩:=I.base.there b o e (λz=>nomatch z);exact F.free b d a (I.base.free b o e n (λz=>nomatch z))
 .obtain⟨m1,a⟩:=I.base.tbls b ps e;obtain⟨m2,i⟩:=F.tbls b _ a;show#[m1++m2,by rw[i,Ru]]
 .cases hq:s.heap.get? c with
  |none=>rfl
  |some o=>
   obtain⟨d,a⟩:=I.base.there c o hq (λz=>nomatch z);have k:p.heap.get? c=some d:=a;rw[F.new]at k;cases k
theorem qK:dF (CXd P w) (cJ (CXd P w) P w K mg base N qual scope f cd A outer s H E) E:=λ_ _ _ _ _ _ I h=>JH I h
end
structure AI(P:tj)(w:vu)(K:Frag)(mg:i2)(base:Heap)(k:Nat)(x:Str)(ps:r9)(sp:Sp):Prop where
 ex:∃(f:Addr)(fd:FuncData),c5 P w K mg base (CXd P w) k f fd ps sp/\mg x=some (.ref f)/\keepIn K (.ref f)=true/\cx K fd ps []
theorem mI.calD{P:tj}{w:vu}{K:Frag}{c:i2}{base:Heap}{x:Str}{st:Stmt}{N ps:r9}{k:Nat}{sp:Sp}(D:mI K c x st ps)(S:bZ N ps (av st))(hb:∀(f:Addr)(a:Value)(A:vr)(d:ti)(s:tr)(H:Hp)(vs:List V)(Q:VK)(E:XK),Room k (A.deeper (envOfC x (av st) s.heap.objs.size f a))->sp vs H Q E->
   ∃t,PSs (cJ (CXd P w) P w K c base N x (av st) f a A d s H E) (aH st) t/\t {nx:=λ_ H'=>Q .non H',rt:=Q} (start N vs) H)(len:∀vs H Q E,sp vs H Q E->vs.length=ps.length:=by intro _ _ _ _ h;cases h;subst_vars;rfl):AI P w K c base (k+1) x ps sp:=by
 obtain⟨f,n,F,b,m⟩:=D.ex;obtain⟨o,od,kV,l,q,an,a,j,p,rfl,lk,e⟩:=F.ex;show#[f,_,xT lk e S len λA d s H vs Q E g i=>hb f a A d s H vs Q E g i,m,F.kp,b]
section
variable{X:Cx}
theorem gW{x:Str}{ps:r9}{j k:Nat}{sp:Sp}{e:Expr}{es:q7}{t:TA}{p pos:Pos}{E:XK}(C:AI X.prog X.w X.K X.mg X.base j x ps sp)(n:Room k X.A)(h:j<=k)(g:Gl X x)(i:dF (CXd X.prog X.w) X E)(a:PA X (e::es) t)(c:(x==(Tq:Str))=false:=by decide)(d:starEach (e::es) X.env=(false,eval e X.env)::starEach es X.env:=by rfl)(l:(backTo pos (starEach es X.env)).any (·.1)=false:=by rfl):PE X (.Call (.Name x p) (e::es) [] pos) (wC sp [] E t):=by
 obtain⟨f,q,F,m,o,b⟩:=C.ex;exact vf F (n.mono h) g m o b .nil i a c d l
variable{e:Expr}{es:q7}{t:TA}{g y c n:Str}{i j jj k:Nat}{ps:r9}{sp:Sp}{py pg cpos apos cp hpos pos:Pos}{Cc:Addr}
theorem Inv.follow{G:St}{s:tr}{h0:Heap}(I:Inv X A G H s)(ay:X.ex=[])(J:∀b o,X.s₀.heap.get? b=some o->∃l,h0.get? b=some l)(K:∃o,h0.get? X.env.locals=some o)(hC:∀x c,X.env.cells.lookup x=some c->∃o,h0.get? c=some o)(L:∀p∈X.pn++A,∃o,h0.get? p.1=some o)(O:h0.get? d=none)(h:H d=none)(M:m s.heap)(Q:∃o,s.heap.get? d=some o)(N:∀a r:Heap,m a->(∀o,a.get? d=some o->r.get? d=some o)->m r):Inv X A G (upd H d (.ext m)) s:=by
 have ne:∀b o,h0.get? b=some o->b≠d:=λb o e z=>by rw[z,O]at e;cases e
 show#[I.ok,I.os,I.bare,#[I.base.keep,I.base.slot,λb o e n hx=> ?_,I.base.there,λb B e=> ?_,λb o u e=> ?_,λb ps e=> ?_],I.loc,I.cell,6,λy c e=> ?_,λp w=> ?_,6,I.len]
 .obtain⟨l,f⟩:=J b o e;rw[aj (ne b l f)];exact I.base.free b o e n hx
 .have a:=I.base.tups b B e;rw[aj (ah a h)];exact a
 .have a:=I.base.frzs b o u e;rw[aj (ah a h)];exact a
 .obtain⟨more,a⟩:=I.base.tbls b ps e;show#[more,by rw[aj (ah a h)];exact a]
 .obtain⟨o,e⟩:=K;rw[aj (ne _ o e)];exact I.free
 .obtain⟨o,f⟩:=hC y c e;rw[aj (ne _ o f)];exact I.freeC y c e
 .obtain⟨U,q2,q3,q4,q5⟩:=I.pin p w;obtain⟨o,f⟩:=L p w;show#[U,by rw[aj (ne _ o f)];exact q2,q3,q4,q5]
 .intro b v e;by_cases hb:b=d
  .subst hb;rw[ag]at e;cases e;show#[M,Q,N]
  .rw[aj hb]at e;refine(I.hok b v e).stay (λ_ _ _ q=>q) (λc q=> ?_) λc B q=> ?_
   .rw[aj (ah q h)];exact q
   .rw[aj (ah q h)];exact q
end
end L2
namespace L2
open PySem PySem.Spec PyProof.Rows
open Builtin Builtin.ObjectAttr
def uZ(a:qR):List Value->Bool
 | []=>a==[]
 |v::r=>(v::r==a)||match v with
  | .ref _=>uZ a r
  |_=>false
abbrev pF:List Value:=[.type Ub, .type "Exception", .type Tv, .type Ur]
structure D8(K:Frag)(C:Addr):Prop where
 k:we K C
 ov:((clsIn K C).any λcd=>uZ pF cd.mro)=true
 sa:findIn K (.ref C) T3=some (some (.builtin TM))
theorem oF(self:Value):∀ {l:qR},uZ pF l=true->refuseLoop self T3 l=pure Unit.unit
 | [],e=>by cases e
 |v::r,e=>by
  unfold uZ at e;rcases Bool.or_eq_true_iff.mp e with q|q
  .rw[Qd.mp q];exact PySem.F.store_ValueError.passes self
  .split at q
   .rw[refuseLoop_ref];exact oF self q
   .cases q
section
variable{prog:tj}{w:vu}{A:vr}{E:f6}{s:tr}{K:Frag}{x C:Addr}{ox:Obj}{od:Option Obj}{name:Str}{v:Value}
theorem wg(X:K.In s.heap)(F:D8 K C)(J:PySem.W.InstAt s.heap x ox C od)(d:findIn K (.ref C) name=some none)(h:wpAny (model prog w) A.in1 (storeInOwnDict (.ref x) (.ref C) (.str name s.toks) name v false) (λb s'=>match b with| .done (.ret _)=>Q Unit.unit s'|_=>False) (λe s'=>E e s') {s with toks:=s.toks+1}):
  wpAny (model prog w) A (setAttr (.ref x) name v) Q E s:=by
 have a:=PySem.F.store_object;refine PySem.W.set_plain X J F.sa ?_;have sub:Looks (model prog w) s.heap (isInstance (.ref x) (.type Ur)) true:=J.type.andThen (PySem.W.looks_mroIn X F.k.mo);refine QK a.slot.plain a.entry (@PySem.W.check_slot (model prog w) _ _ {s with toks:=s.toks+1} TM Ur T3 (.ref x) [.str name s.toks,v] [] _ a.kind a.split sub (a.args (.ref x) (.str name s.toks) v) ?_);obtain⟨c,f,i⟩:=QP F.ov;have g:Looks (model prog w) s.heap (mroOf (.ref C)) c.mro:=(Rn X f).andThen .now;rw[PySem.W.osa_eq,refuse_eq];refine NU (NU (J.type.here (s:={s with toks:=s.toks+1}) (NU (g.here (s:={s with toks:=s.toks+1}) ?_))));rw[oF _ i];refine N0 (NU (J.type.here (s:={s with toks:=s.toks+1}) (NU ((QI X d).here (s:={s with toks:=s.toks+1}) (NU (N0 ?_))))));refine ON h (λb s' z=> ?_) λ_ _ z=>z;rcases b with (_|_|_|_)|_<;>first|exact z|exact z.elim
theorem yR(X:K.In s.heap)(F:D8 K C)(hx:s.heap.get? x=some #[.ref C,none, .fields vs,a])(l:findIn K (.ref C) name=some none)(h:∀h',h'.get? x=some #[.ref C,some s.heap.objs.size, .fields vs,a]->h'.Ns1 s.heap.objs.size (λy=>if y=name then some v else none)->(∀b o,b≠x->s.heap.get? b=some o->h'.get? b=some o)->Q Unit.unit {s with heap:=h',toks:=s.toks+2}):
  wpAny (model prog w) A (setAttr (.ref x) name v) Q E s:=by
 refine wg X F (ox:=#[.ref C,none, .fields vs,a]) (od:=none) #[hx,22,Og] l ?_;obtain⟨u,m,p⟩:=QP F.k.hd;have ne:x≠s.heap.objs.size:=Oe (N6 hx);refine NU (N0 (NU (NU (Sa hx (NU (Sk (s:={s with toks:=s.toks+1}) (Rn X m) ?_))))));rw[p];have c:(s.heap.push emptyDict).get? x=some #[.ref C,none, .fields vs,a]:=NY _ hx;refine NU (wpAny_alloc (NU (wpAny_update c (N0 ?_))));have g:((s.heap.push emptyDict).update x λo=>{o with dict:=some s.heap.objs.size}).get? x=some #[.ref C,some s.heap.objs.size, .fields vs,a]:=OC _ c rfl;have i:((s.heap.push emptyDict).update x λo=>{o with dict:=some s.heap.objs.size}).get? s.heap.objs.size=some emptyDict:=(Oy _ _ ne).trans (Oi s.heap rfl);have j:((s.heap.push emptyDict).update x λo=>{o with dict:=some s.heap.objs.size}).Ns s.heap.objs.size (λ_=>none):=#[emptyDict, #v[],_,i,2,(λe r=>absurd r #[5]),λ_=>rfl];refine NU (N0 (NU (wpAny_nsSet1 (Heap.Ns1.of_empty j) λh' d f=> ?_)));obtain⟨H,G,B,t,q,n⟩:=d.count (SA name v PySem.Within.nil);refine NU (SN t (by rw[q];exact SO (NV n (by rw[Oa,Qp,Ta];lia))) ?_);refine N0 (h h' ((f.2 x ne).trans g) d λb o hb z=> ?_);exact(f.2 b (Oe (N6 z))).trans ((Oy _ _ (Pj hb)).trans (NY _ z))
theorem B6{ns:r9}(X:K.In s.heap)(F:D8 K C)(hx:s.heap.get? x=some #[.ref C,some b, .fields vs,q])(c:s.heap.Ns1 b mA)(e:findIn K (.ref C) name=some none)(n:PySem.Within mA ns)(hz:ns.length<=sizeLine)(h:∀h',h'.Ns1 b (λy=>if y=name then some v else mA y)->Heap.SameBut b s.heap h'->Q Unit.unit {s with heap:=h',toks:=s.toks+2}):
  wpAny (model prog w) A (setAttr (.ref x) name v) Q E s:=by
 obtain⟨o,l,_⟩:=tW c;refine wg X F (ox:=#[.ref C,some b, .fields vs,q]) (od:=some o) #[hx,22,l] e ?_;obtain⟨r,f,i⟩:=QP F.k.hd;refine NU (N0 (NU (NU (Sa hx (NU (Sk (s:={s with toks:=s.toks+1}) (Rn X f) ?_))))));rw[i];refine N0 (a:=some b) (NU (N0 (NU ?_)));refine wpAny_nsSet1 (s:={s with toks:=s.toks+1}) c λh' d p=> ?_;obtain⟨z,u,t,m,j,g⟩:=d.count (SA name v n);refine NU (SN m (by rw[j];exact SO (NV g (by rw[Oa];lia))) ?_);exact N0 (h _ d p)
end
end L2
namespace L2
open PySem PySem.Spec PyProof.Rows
theorem HP(h:H a=some o):upd H a o=H:=by
 funext b;unfold upd;split
 .rename_i e;rw[e,h]
 .rfl
theorem Gn{h:Heap}(e:h.get? ea=some {cls:= .ref C,dict:=d,data:= .fields #v[.ref t, .none, .none, .none, .bool false, .none],slots:=a}):bx P w H h ea (iX C d ea):=
 #[#[t,a,e],#[_,e],λ_ _ ⟨t,a,q⟩ k=>#[t,a,k _ q]]
theorem Gz{h:Heap}{fs:List (Str×V)}(n:h.Ns1 dx a)(r:∀f,ie (fs.lookup f) (a f))(q:PySem.Within a (fs.map (·.1))):bx P w H h dx (D9 dx fs):=by show#[#[a,n,r,q],6,λ_ _ ⟨m,n,z⟩ k=>#[m,n.at k,z]];obtain⟨o,_,_,e,_⟩:=n;show#[o,e]
theorem yS{fs:List (Str×V)}(b:PySem.Within mA (fs.map (·.1))):PySem.Within (λg=>if g=f then some u else mA g) ((aW f y fs).map (·.1)):=λg a=>by
 by_cases q:g=f
 .rw[q];exact(ia f y fs).1
 .refine(ia f y fs).2 g (b g λz=>a ?_);show(if g=f then some u else mA g)=none;rw[NW q];exact z
def BP(X:Cx)(E:XK):Prop:=∀(c:js) (d:St) (H:Hp) (s:tr) (a C b:Addr),Inv X c d H s->H a=some (iX C (some b) a)->X.s₀.heap.get? a=none->E (.ref C) (some b) (wo H a)->X.xe (.ref a) s
theorem zG{K:Frag}{f:Addr}{a:Value}{A:vr}{d:ti}{s:tr}{H:Hp}{E:XK}:
  BP (cJ (CXd P w) P w K mg base N qual scope f a A d s H E) E:=λ_ _ _ _ _ _ _ I b c q=>Gh I b c q
def HS(C:Addr)(sp:Sp)(E:XK)(t:TA):TS:=λ_ e H=>t e H λvs b=>vs.length<=sizeLine/\∀a,b a=none->
 sp (.ref a::vs) (upd b a (iX C none a)) (λv c=>v= .non/\∃d,c a=some (iX C (some d) a)/\E (.ref C) (some d) (wo c a)) E0
section
variable{X:Cx}{e:Expr}{es:q7}{t:TA}{x:Str}{C fI:Addr}{B newId initId:tT}{bm:qR}{np cpos pos:Pos}{E:XK}{j k:Nat}{ps:r9}{sp:Sp}
theorem CD(hc:X.calm=true)(ax:X.ex=[])(O:wc x C fI bm newId X.mg X.base)(FB:ExcBaseFacts B newId initId bm)(hi:isFn X.K (.ref fI)=true)(M:dg X.prog X.w X.K X.mg X.base j fI ps sp)(hr:Room k X.A)(c2:j+1<=k)(hg:Gl X x)(hR:BP X E)(ha:PA X (e::es) t)(hd:(x==(Tq:Str))=false:=by decide)(he:starEach (e::es) X.env=(false,eval e X.env)::starEach es X.env:=by rfl)(dn:(backTo cpos (starEach es X.env)).any (·.1)=false:=by rfl):
  PS X (.Raise (some (.Call (.Name x np) (e::es) [] cpos)) none pos) (HS C sp E t):=by
 intro U s σ H D I h;obtain⟨tl,N,nm,q,bs,hdct,sn,sub,ab,col,dd,k0,k1,k2,k3,k5,mN,hC,hN,c8,T⟩:=O.ex;obtain⟨⟨fd,F,b⟩,_⟩:=M;obtain⟨oI,dc,dh⟩:∃o,X.base.get? fI=some o/\o.cls= .type Ul:=by have z:=Qd.mp hi;unfold PySem.W.typeIn at z;obtain⟨o,z1,z2⟩:=Q3.mp z;show#[o,I.ok.mod.kin _ _ z1,z2]
 have dp:(backTo cpos (starEach (e::es) X.env)).any (·.1)=false:=by rw[he];show(false||(backTo cpos (starEach es X.env)).any (·.1))=false;rw[dn];rfl
 rw[arm_exec_Raise];refine NU (Qu (ET (C:=C) (nm:=nm) (q:=q) (N:=N) (bs:=bs) (bm:=tl) (hdct:=hdct) (sn:=sn) (sub:=sub) (ab:=ab) (col:=col) (dd:=dd) (k0:=k0) (k1:=k1) (k2:=k2) (k3:=k3) (k5:=k5) (newId:=newId)
  (T.hasType FB.hasBase) (I.ok.hd hc) (NU (ON (wpAny_Call_ofName (dW I hg O.g ?_ hd)) (λv s3 z=>NU (Qu (N0 z))) λ_ _ z=>z))))
 have hA:=ha cpos U s σ H _ I h;unfold callWith;simp only[dp];rw[he]at hA⊢;refine NU (O4 (ON (Rf (Q:=λa i=>a.kw=[]/\∃vs l,Inv X U σ l i/\Vals vs a.pos/\(vs.length<=sizeLine/\∀d,l d=none->sp (.ref d::vs) (upd l d (iX C none d)) (λv H2=>v= .non/\∃G,H2 d=some (iX C (some G) d)/\E (.ref C) (some G) (wo H2 d)) E0))
  (thn hA λus i ⟨vs,H2,n,r,q⟩=>#[2,vs,H2,n,r,q])) (λa i z=>NU (Qu ?_)) λ_ _ z=>z))
 obtain⟨us,kw⟩:=a;obtain⟨c3,vs,l,f,r,hl,q1⟩:=z;cases (show kw=[]from c3);have r':Vals vs us:=r;have a3:=f.bk _ _ hC;have K1:=f.kIn;refine NU (wpAny_keeperOf_exc a3 (NU ?_));show wpAny _ _ (call (.ref C) us) _ _ i;refine Gk FB (T.keeps f.bk) a3 (hN.keeps f.bk) c8 (f.bk _ _ dc) dh (by rw[<-r'.length];exact hl) λh' d J=> ?_;have b1:l d=none:=f.hok.none_of J.new;obtain⟨tt,b0,_,_⟩:=J.there;have b6:Inv X U σ l {i with heap:=h'}:=f.kept (t':=i.toks) J.keeps;have n:Inv X U σ (upd l d (iX C none d)) {i with heap:=h'}:=by
  refine b6.follow (h0:=i.heap) ax (λb o z=>f.base.there b o z (by rw[ax];exact λz=>nomatch z)) ?_ (λy c z=> ?_) (λp hp=>#[_,(f.pin p hp).1]) J.new b1 #[tt,_,b0] #[_,b0] λ_ _ ⟨t,sl,q⟩ k=>#[t,sl,k _ q]
  .obtain⟨m,⟨o,_,_,ho,_⟩,_⟩:=f.loc;show#[o,ho]
  .obtain⟨v,o,ho,_⟩:=f.cell y c z;show#[o,ho]
 have b4:=q1 d b1;have r2:Vals (V.ref d::vs) (Value.ref d::us):= .cons rfl r';have c4:(Value.ref d::us++[]).length=ps.length:=by rw[OP,<-r2.length];exact F.len _ _ _ _ b4
 have hb:=b {i with heap:=h'} (Value.ref d::us) n.kIn c4;rw[OP]at hb;refine QZ (Qv (F.run _ X.stack {i with heap:=h'} _ #[Value.ref d::us,[]] (Value.ref d::us) _ _ E0 ((hr.mono c2).make C us []) (n.env0.make C us []) hb r2 b4) λrr s' L=> ?_);cases rr with
 |error ev=>exact False.elim L
 |ok fl=>
  cases fl with
  |next=>exact False.elim L
  |brk=>exact False.elim L
  |cont=>exact False.elim L
  |ret u=>
   obtain⟨v,H3,I3,rv,ev,G,bN,qE⟩:=n.after L;subst ev;show#[rv,NU (O4 (wpAny_point (N0 ?_)))];obtain⟨⟨t3,eb,cN⟩,_,_⟩:=I3.hok d _ bN;show#[d,some G,eb,t3,2,I3.bk _ _ hC,cN,hR U σ H3 s' d C G I3 bN ?_ qE];cases hz:X.s₀.heap.get? d with
   |none=>rfl
   |some o=>
    obtain⟨o',z⟩:=f.base.there d o hz (by rw[ax];exact λz=>nomatch z);rw[J.new]at z;cases z
structure HG(K:Frag)(Dd:Addr):Prop where
 fc:findCls K (.ref Dd) (.type "type") TF=some (.val (.builtin "ValueError.__init__"))
 ga:specialIn K (.ref Dd) TV=some (some (.builtin "type.__getattribute__"))
 rd:readsIn K Dd (.type "type")=true
def KN(d C:Addr)(g:TE)(t:TA):TE:=λc H Q=>g c H λx f=>x= .ref d/\t c f λvs b=>∃a rest,vs= .ref a::rest/\rest.length<=sizeLine/\b a=some (iX C none a)/\Q .non b
theorem E7{pl:Sem Bool}{n:Addr}{o:Expr}{ta:TE}{v:Pos}{y:Str}(O:wc y C fI pF newId X.mg X.base)(FB:ExcBaseFacts B newId "ValueError.__init__" pF)(M:HG X.K n)(ho:PE X o ta)(ha:PA X (e::es) t)(b1:starEach (e::es) X.env=(false,eval e X.env)::starEach es X.env:=by rfl)(bN:(backTo pos (starEach es X.env)).any (·.1)=false:=by rfl)(ht:eval (.Call (.Attribute o TF v) (e::es) [] pos) X.env=(do
   let L<-eval o X.env
   standAt v.atName
   let(f,first)<-holding [L] (getMethod L TF pl)
   callWith pos f first (backTo pos (starEach (e::es) X.env)) (backToKw pos (keywordEach [] X.env))):=by rfl):
  PE X (.Call (.Attribute o TF v) (e::es) [] pos) (KN n C ta t):=by
 intro U s σ H Q I h;obtain⟨tl,N,nm,q,bs,hdct,sn,sub,ab,col,dd,k0,k1,k2,k3,k5,mN,hC,hN,cv,T⟩:=O.ex;refine Qj (pl:=pl) (thn (ho U s σ H _ I h) λu s1 ⟨x,H1,p,rx,ex,q⟩=> ?_) ht;subst ex;obtain rfl:u=Value.ref n:=rx;refine PySem.W.method_cls p.kIn M.ga (PySem.W.cls_value p.kIn M.rd M.fc #[9] ?_);have az:=p.tok (s1.toks+1);refine callWith_builtin1 (thn (ha pos U _ σ H1 _ az q) λus s2 b0=> ?_) b1 bN;obtain⟨vs,H2,m,r,c,rest,e1,hl,A,q2⟩:=b0;subst e1;obtain⟨i,rfl,r'⟩:∃i,us= .ref c::i/\Vals rest i:=by
  cases r with
  |cons a b=>cases (show _=Value.ref c from a);show#[7,b]
 obtain⟨⟨tt,sl,J⟩,_,_⟩:=m.hok c _ A;obtain⟨l,g,d,tk,os⟩:=s2;refine QZ (QK FB.init.plain FB.initEntry (wpAny_check_init_subT FB (T.keeps m.bk) (m.bk _ _ hC) J rfl ?_));unfold Builtin.«BaseException.__init__»;dsimp only;rw[NW #[5]];unfold newTuple Builtin.BaseException.bexcPut;have w:=NY (h:=l) (xU i) J;refine NU (Qs (NU (NU (QN w rfl rfl (NU (P2 w rfl #[5] ?_))))) (by show i.toArray.size<=sizeLine;rw[Oq,<-r'.length];exact hl));refine wpAny_letGo (N0 #[.non,H2,62,q2]);have G:((l.push (xU i)).update c (Obj.mapFields (·.setIfInBounds 0 (.ref l.objs.size)))).get? c=some {cls:= .ref C,dict:=none,data:= .fields #v[.ref l.objs.size, .none, .none, .none, .bool false, .none],slots:=sl}:=OC _ w rfl;have I3:=m.write (x:=c) (e:=c) (o:=iX C none c) (h':=(l.push (xU i)).update c (Obj.mapFields (·.setIfInBounds 0 (.ref l.objs.size)))) (t':=tk) (by rw[A];exact Og) (.inl rfl)
  (λb u hb z=>(Oy _ _ (Pj hb)).trans (NY _ z)) #[_,G] (Gn G)
 rwa[HP A]at I3
variable{o value:Expr}{ta tv:TE}{f:Str}{pos':Pos}
def sXf(K:Frag)(ta tv:TE)(f:Str):TS:=λD d H=>tv d H λy g=>ta d g λx c=>∃b C,x= .ref b/\D8 K C/\gO K C f/\
 ((c b=some (iX C none b)/\∀a,c a=none->D.nx d (upd (upd c b (iX C (some a) b)) a (D9 a [(f,y)])))\/
  ∃a fs,c b=some (iX C (some a) b)/\c a=some (D9 a fs)/\fs.length<1000/\D.nx d (upd c a (D9 a (aW f y fs))))
theorem Na(ha:PE X o ta)(hv:PE X value tv)(hs:swapsWith value (some (.Attribute o f pos')) pos.line X.env=pure false:=by rfl):PS X (.Assign [.Attribute o f pos'] value pos) (sXf X.K ta tv f):=by
 intro af s L H D I h;refine RV (thn (hv af s L H _ I h) λu s1 ⟨y,H1,I1,ry,q⟩=>thn (ha af s1 L H1 _ I1 q) λov a bp=> ?_) hs;obtain⟨x,N,i,rx,d,C,ex,c,n,A⟩:=bp;subst ex;obtain rfl:ov=Value.ref d:=rx;rcases A with ⟨w,A⟩|⟨M,fs,w,U,hl,A⟩
 .obtain⟨⟨tt,sl,G⟩,_,_⟩:=i.hok d _ w;refine yR i.kIn c G n λh' p O Q=>#[L,16,A a.heap.objs.size i.fresh];have ne:a.heap.objs.size≠d:=Qb (N6 G);have J:=i.write (x:=d) (e:=d) (o:=iX C (some a.heap.objs.size) d) (h':=h') (t':=a.toks+2) (by rw[w];exact Og) (.inl rfl) (λb u hb z=>Q b u hb z) #[_,p] (Gn p);have fr:upd N d (iX C (some a.heap.objs.size) d) a.heap.objs.size=none:=by rw[aj ne];exact i.fresh
  have lt:a.heap.objs.size<=a.heap.objs.size:=N3 _;obtain⟨oD,_,_,ab,_⟩:=id O;refine i.un (t':=a.toks+2) ?_ ?_
  .have u1:=Un.write (fs:=X.fs) (ex:=[]) (H:=N) (x:=d) (e:=d) (o:=iX C (some a.heap.objs.size) d) (h:=a.heap) (h':=h') (by rw[w];exact Og) (.inl rfl) (λb u hb z=>Q b u hb z) #[_,p];show#[u1.keep,u1.slot,λb o z nn hx=> ?_,u1.there,λb xs z=> ?_,λb o v z=> ?_,λb ps z=> ?_]
   .rw[aj (Oe (N6 z))];exact u1.free b o z nn hx
   .have l:=u1.tups b xs z;rw[aj (ah l fr)];exact l
   .have l:=u1.frzs b o v z;rw[aj (ah l fr)];exact l
   .obtain⟨m,l⟩:=u1.tbls b ps z;show#[m,by rw[aj (ah l fr)];exact l]
  .intro b v z;by_cases hb:b=a.heap.objs.size
   .subst hb;rw[ag]at z;cases z;refine Gz O (λg=> ?_) λg hg=> ?_
    .show ie (List.lookup g [(f,y)]) (if g=f then some u else none);by_cases q:g=f
     .rw[NZ q,show List.lookup g [(f,y)]=some y by simp[List.lookup,q]];exact ry
     .rw[NW q,show List.lookup g [(f,y)]=none by simp[List.lookup,P7.mpr q]];exact Og
    .by_cases q:g=f
     .simp[q]
     .exact absurd (NW q) hg
   .rw[aj hb]at z;refine(J.hok b v z).stay (λ_ _ _ q=>q) (λc q=> ?_) λc ys q=> ?_
    .rw[aj (ah q fr)];exact q
    .rw[aj (ah q fr)];exact q
 .obtain⟨⟨tt,sl,G⟩,_,_⟩:=i.hok d _ w;obtain⟨⟨mA,hn,r,wi⟩,_,_⟩:=i.hok M _ U;refine B6 i.kIn c G hn n wi (by rw[My,Ta];lia) λh' p sb=>#[L,16,A];obtain⟨oD,_,_,ab,_⟩:=id p;refine i.write (x:=M) (e:=M) (t':=a.toks+2) (by rw[U];exact Og) (.inl rfl) (λb q hb z=>(sb.2 b hb).trans z) #[_,ab] (Gz p (λg=> ?_) (yS wi));show ie ((aW f y fs).lookup g) (if g=f then some u else mA g);rw[eO];by_cases q:g=f
  .rw[NZ q,NZ q];exact ry
  .rw[NW q,NW q];exact r g
theorem zI{K:Frag}(h:X.K=K)(a:PE X o ta)(c:PE X value tv)(b:swapsWith value (some (.Attribute o f pos')) pos.line X.env=pure false:=by rfl):PS X (.Assign [.Attribute o f pos'] value pos) (sXf K ta tv f):=by subst h;exact Na a c b
end
structure nV(P:tj)(w:vu)(K:Frag)(d:Addr)(kvs:mm):Prop where
 dict:∀h:Heap,K.In h->h.DictOf (bD P w) d (kvs.map λkv=>((Sum.inr kv.1:Key),Value.ref kv.2))
 ne:(d==sysModules)=false
def JG(a:Params):List (Str×Addr)->List DictEntry->Prop
 | [],[]=>True
 |(x,f)::r,e::es=>(∃t,e=#[PyData.keyHash a x, .str x t, .ref f])/\JG a r es
 |_,_=>False
theorem t9{w:vu}:∀ {kvs:mm} {es:List DictEntry},JG w.params kvs es->(∀e∈es,∃k,(bD P w).is k e.key=true/\e.hash=(bD P w).hash k)/\Pairs (bD P w) es (kvs.map λa=>((Sum.inr a.1:Key),Value.ref a.2))
 | [],[],_=>#[λe he=>absurd he #[5], .nil]
 | [],_::_,h=>h.elim
 |_::_,[],h=>h.elim
 |(x,f)::r,e::es,h=>by
  obtain⟨⟨t,rfl⟩,b⟩:=h;obtain⟨c,d⟩:=t9 b;show#[λe he=> ?_, .cons (eN P w x t) rfl d];rcases N1.mp he with rfl|he
  .show#[.inr x,eN P w x t,2]
  .exact c e he
theorem Dy{w:vu}{K:Frag}{d n:Nat}{kvs:mm}(e:K.lookup d=some #[.type TH,none, .dict #[es] n, #v[]])(f:JG w.params kvs es)(a:(kvs.map (·.1)).Nodup)(ne:(d==sysModules)=false):nV P w K d kvs:=by
 show#[λh X=> ?_,ne];obtain⟨b,c⟩:=t9 (P:=P) f;show#[_,#[es],n,X _ _ e,62,λx hx=>b x #[5,hx],c,6]
 .show#[222]
 .unfold List.Nodup at a⊢;rw[OE,List.pairwise_map];rw[List.pairwise_map]at a;exact a.imp λh e=>h (Sum.inr.inj e)
section
variable{X:Cx}
theorem kC(z:Str):∀kvs:List (Str×Addr),valueAt (kvs.map λa=>((Sum.inr a.1:Key),Value.ref a.2)) (.inr z)=(kvs.lookup z).map Value.ref
 | []=>rfl
 |(x,f)::r=>by
  unfold valueAt;rw[OI,Qz,Pr];by_cases e:z=x
  .subst e;simp
  .have b:(z==x)=false:=#[5,e]
   have c:decide ((Sum.inr x:Key)= .inr z)=false:=NX λq=>e (Sum.inr.inj q).symm;rw[b];simp only[c];exact kC z r
def MX(P:tj)(w:vu)(K:Frag):R2:=λx y H Q=>∃(z:Str)(d:Addr) (kvs:mm),x= .str z/\y= .ref d/\nV P w K d kvs/\Q (.bl (kvs.lookup z).isSome) H
theorem LD:OpR X (compareOp .In) (MX X.prog X.w X.K):=by intro c s e H x y v u Q I a b h;obtain⟨z,d,kvs,rfl,rfl,D,q⟩:=h;obtain⟨t,rfl⟩:=a;cases (show u=Value.ref d from b);refine wpAny_in_of (eN X.prog X.w z t) D.ne (D.dict _ I.kIn).mapOf ?_;rw[kC,RD];show#[.bl (kvs.lookup z).isSome,H,I.tok _,2,q]
theorem Bm{K:Frag}(h:X.K=K)(a:X.prog=P)(b:X.w=w):OpR X (compareOp .In) (MX P w K):=by subst h a b;exact LD
def KS(kvs:mm)(Z:Str->Prop)(sp:Str->Sp)(E:XK)(ty:TE)(t:TA):TE:=λa H Q=>ty a H λy b=>∃z,y= .str z/\Z z/\(kvs.lookup z).isSome=true/\t a b λvs c=>sp z vs c Q E
theorem qJ{CX:CXT}{x:Str}{d:Addr}{kvs:mm}{Z:Str->Prop}{sp:Str->Sp}{E:XK}{i e:Expr}{es:q7}{ty:TE}{t:TA}{k:Nat}{ps:r9}{p p2 pos:Pos}(D:nV X.prog X.w X.K d kvs)(J:Gl X x)(N:X.mg x=some (.ref d))(L:PE X i ty)(hs:Mh i)(o:∀z f,Z z->kvs.lookup z=some f->∃a,c5 X.prog X.w X.K X.mg X.base CX k f a ps (sp z)/\cx X.K a ps []/\keepIn X.K (.ref f)=true)(hr:Room k X.A)(hx:dF CX X E)(v:PA X (e::es) t)(B:(x==(Tq:Str))=false:=by decide)(G:starEach (e::es) X.env=(false,eval e X.env)::starEach es X.env:=by rfl)(O:(backTo pos (starEach es X.env)).any (·.1)=false:=by rfl):
  PE X (.Call (.Subscript (.Name x p) i p2) (e::es) [] pos) (KS kvs Z sp E ty t):=by
 intro j s l H Q I h;show wpAny _ _ (do callWith pos (<-eval (.Subscript (.Name x p) i p2) X.env) [] (backTo pos (starEach (e::es) X.env)) (backToKw pos (keywordEach [] X.env))) _ _ _;refine NU (AQ SI.lookup hs (dW I J N ?_ B));refine thn (L j s l H _ I h) λiv s1 U=> ?_;obtain⟨y,m,b,ry,z,n,u,hl,q⟩:=U;subst n;obtain⟨tk,rfl⟩:=ry;obtain⟨f,g⟩:=Rv.mp hl;obtain⟨a,F,hb,M⟩:=o z f u g;have dd:=D.dict _ b.kIn;show#[dd.typeIs,wpAny_getItem_of (eN X.prog X.w z tk) dd.mapOf (by rw[kC,g];rfl) ?_];refine PY (h₀:=X.base) I.ok.mod.kin M (thn (v pos j _ l m _ (b.tok _) q) λus s2 ⟨vs,H2,c,r,q2⟩=>#[c.kIn,6]) G O;exact mY F hr hb .nil hx c r (by rw[OP];exact q2)
end
def nU:List V->List PyData->Prop
 | [],[]=>True
 | .str z::r, .str c::a=>z=c/\nU r a
 | .int n::r, .int b::a=>n=b/\nU r a
 |_,_=>False
def oZ(K:Frag)(H:Hp)(x:V):Prop:=(∃z:Str,x= .str z/\(reprText z).length<=2^23)\/∃(a:Addr)(c:List V)(b:List PyData),x= .ref a/\SqL K H a c/\nU c b/\(PyData.list b).showable=true/\(PyData.list b).shown.length<=2^23
theorem jK:∀ {g:List V} {d:List PyData} {us:qR},nU g d->Vals g us->ReadsAll h us d []/\PyData.hasDictAll d=false/\PyData.depthAll d=0
 | [],[],_,_, .nil=>#[.nil,by simp[PyData.hasDictAll],by simp[PyData.depthAll]]
 | .str z::r, .str i::d,_,h, .cons e f=>by obtain⟨rfl,h⟩:=h;obtain⟨t,rfl⟩:=e;obtain⟨a,b,c⟩:=jK (h:=_) h f;show#[.cons (.str z t) a,by simp[PyData.hasDictAll,PyData.hasDict,b],by simp[PyData.depthAll,PyData.depth,c]]
 | .int z::r, .int i::d,_,h, .cons e f=>by obtain⟨rfl,h⟩:=h;obtain⟨t,rfl⟩:=e;obtain⟨a,b,c⟩:=jK (h:=_) h f;show#[.cons (.int z t) a,by simp[PyData.hasDictAll,PyData.hasDict,b],by simp[PyData.depthAll,PyData.depth,c]]
def tFr(K:Frag)(tv:TE):TE:=λb H Q=>tv b H λx a=>oZ K a x/\∀y,Q (.str y) a
section
variable{X:Cx}
theorem Lw{a:Str}{v:Expr}{tv:TE}{j:Nat}{p1 p2 pos:Pos}(B:X.A.guards=some [])(hu:X.A.units+64<cLine)(M:PE X v tv)(hz:(Str.empty++a).length<=1000:=by decide):PE X (.JoinedStr [.Constant (.str a) j p1, .FormattedValue v 114 none p2] pos) (tFr X.K tv):=by
 intro N s σ H Q I h;have hs:(1000:Nat)+2^23<=sizeLine:=∅
 have h0:Str.empty.length=0:=rfl;rw[Po,h0,R0]at hz;refine JoinedStr_many (Sg (Sj ?_));have l:(Str.empty++a).length<=sizeLine:=by rw[Po];lia
 show#[l,Sg (wpAny_FormattedValue_repr (thn (M N {s with toks:=s.toks+1} σ H _ (I.tok _) h) λu k ⟨x,g,d,i,sh,q⟩=> ?_))];rcases sh with ⟨z,rfl,hl⟩|⟨b,ys,f,rfl,hb,m,L,hl⟩
 .obtain⟨t,rfl⟩:=i;have c:(Str.empty++a++reprText z).length<=sizeLine:=by rw[Po,Po];lia
  refine pyReprObj_str (formatField_str (λt' tk=> ?_) ()) ();show#[c,joinParts_nil #[.str (Str.empty++a++reprText z),g,d.tok _,#[7],q _] c]
 .cases (show u=Value.ref b from i);obtain⟨az,U,pl,hz⟩:=d.list hb;obtain⟨o,n,J,p,_,r⟩:=pl;obtain⟨O,y,w⟩:=jK (h:=k.heap) m U;have R:Reads k.heap (.ref b) (.list f) [b]:=Reads.list J p r #[5,O];have c:(Str.empty++a++(PyData.list f).shown).length<=sizeLine:=by rw[Po,Po];lia
  refine pyReprObj_of_reads R L (PyData.noDict_hsm (by simp[PyData.hasDict,y])) B (by simp only[PyData.depth,w];lia) (λ_ _ e=>e) (λh' u tk G=> ?_) ();refine formatField_str (λt' a0=> ?_) ();show#[c,joinParts_nil #[.str (Str.empty++a++(PyData.list f).shown),g,d.kept G,#[7],q _] c]
theorem ve{K:Frag}{a:Str}{v:Expr}{tv:TE}{j:Nat}{p1 p2 pos:Pos}(h:X.K=K)(b:X.A.guards=some [])(c:X.A.units+64<cLine)(d:PE X v tv)(hz:(Str.empty++a).length<=1000:=by decide):PE X (.JoinedStr [.Constant (.str a) j p1, .FormattedValue v 114 none p2] pos) (tFr K tv):=by subst h;exact Lw b c d hz
def tFp(tv:TE):TE:=λb H Q=>tv b H λx a=>∃z:Str,x= .str z/\z.length<=2^23/\∀y,Q (.str y) a
theorem Lv{a:Str}{v:Expr}{tv:TE}{j:Nat}{p1 p2 pos:Pos}(g:PE X v tv)(hz:(Str.empty++a).length<=1000:=by decide):PE X (.JoinedStr [.Constant (.str a) j p1, .FormattedValue v (-1) none p2] pos) (tFp tv):=by
 intro i s l H Q I h;have m:(1000:Nat)+2^23<=sizeLine:=∅
 have h0:Str.empty.length=0:=rfl;rw[Po,h0,R0]at hz;refine JoinedStr_many (Sg (Sj ?_));have e:(Str.empty++a).length<=sizeLine:=by rw[Po];lia
 show#[e,Sg (wpAny_FormattedValue_plain (thn (g i {s with toks:=s.toks+1} l H _ (I.tok _) h) λu n ⟨x,c,d,k,z,f,hl,q⟩=> ?_))];subst f;obtain⟨t,rfl⟩:=k;have b:(Str.empty++a++z).length<=sizeLine:=by rw[Po,Po];lia
 refine formatField_str (λt' o=> ?_) ();show#[b,joinParts_nil #[.str (Str.empty++a++z),c,d.tok _,#[7],q _] b]
end
section
variable{X:Cx}
def begins(x y:Str):Bool:=decide (0+y.length<=x.length)&&Builtin.Str.subAt x y 0
def IB:V->List V->Hp->VK->Prop:=λx vs H Q=>∃z y:Str,x= .str z/\vs=[.str y]/\Q (.bl (begins z y)) H
theorem tU:MtR X "str.startswith" IB:=by intro c s e H x vs v us Q I b a h;obtain⟨z,y,rfl,rfl,q⟩:=h;obtain⟨t,rfl⟩:=b;obtain⟨d,rfl,u,rfl⟩:=a.one;exact call_gives F.slot_str_startswith (RA s z t) F.entry_str_startswith (F.args_str_startswith_2 _ _) (gives_str_startswith z y t u) #[.bl (begins z y),H,I,2,q]
def MW:List V->Hp->VK->Prop:=λxs H Q=>∃(z:Str)(n:Int),xs=[.str z]/\PySem.intText? z=some n/\z.length<=640/\Q (.int n) H
theorem DV:bz X (.type "int") MW:=by intro b s c H xs us Q I r h;obtain⟨z,n,rfl,a,hl,q⟩:=h;obtain⟨u,rfl,t,rfl⟩:=fJ r;exact PySem.W.KIN.call_text a hl #[.int n,H,I.tok _,#[7],q]
end
theorem sG:entryFor table T6=some Builtin.«proto.unchain»:=entryFor_of_tree (by kernel_rfl)
section
variable{prog:tj}{w:vu}{A:vr}{E:f6}{s:tr}
theorem vc{oe d:Obj}{vs ws:qs}(j:A.handled=some (.ref a))(k:a≠e)(i:s.heap.get? a=some d)(f:d.data= .fields ws)(l:ws[2]?=some .none)(c:s.heap.get? e=some oe)(g:oe.data= .fields vs)(hz:2<vs.size)(h:E (.ref e) {s with heap:=s.heap.update e (Obj.mapFields (·.setIfInBounds 2 (.ref a)))}):wpAny (model prog w) A (raiseNew (.ref e):Sem α) Q E s:=by
 unfold raiseNew;refine NU (wpAny_handled ?_);rw[j];have ne:(Value.ref a !=Value.ref e)=true:=by simp[bne,k]
 dsimp only;rw[ne,NZ rfl];refine NU (O4 (Sd (Px sG ?_)));unfold Builtin.«proto.unchain»;dsimp only;refine NU (QN i f l ?_);rw[NZ ⋯];refine N0 ?_;show wpAny _ _ (do updateField e 2 (.ref a);throw (.ref e)) Q E s;refine NU ?_;unfold updateField;refine NU (wpAny_load c ?_);rw[g];dsimp only;rw[NZ hz];refine wpAny_update c ?_;exact wpAny_throw h
end
section
variable{prog:tj}{w:vu}{A:vr}{E:f6}{s:tr}{env:Env}
variable{nm q:Str}{C N:Addr}{bs bm:qR}{hdct:Bool}{sn:r9}{sub:qR}{ab:Bool}{col:Option Bool}{dd:px}{k0 k1 k2 k3 k5:Option Value}{newId:tT}
def Gm(C t:Addr):Obj:={cls:= .ref C,data:= .fields #v[.ref t, .none, .none, .none, .bool false, .none]}
def BC(C t:Addr):Obj:={cls:= .ref C,data:= .fields #v[.ref t, .none, .none, .none, .bool true, .none]}
theorem qC(n:bm.contains (.type Tv)=true)(h:wpAny (model prog w) A x (λv m=>wpAny (model prog w) A c (λi a=>i= .none/\∃e t,v= .ref e/\a.heap.get? C=some (excClassObj nm q C N bs bm hdct sn sub ab col dd k0 k1 k2 k3 k5 newId)/\a.heap.get? e=some (Gm C t)/\
   wpAny (model prog w) A (raiseNew (.ref e):Sem Flow) Q E {a with heap:=(a.heap.update e (Obj.mapFields (·.setIfInBounds 3 .none))).update e (Obj.mapFields (·.setIfInBounds 4 (.bool true)))}) E m) E s):
  wpAny (model prog w) A (raiseStmt env (some x) (some c)) Q E s:=by
 have l:(Value.ref C::bm).contains (.type Tv)=true:=by rw[List.contains_cons,n,Bool.or_true]
 unfold raiseStmt;refine NU (ON h (λv m r=> ?_) λ_ _ x=>x);refine NU (O4 (ON r (λi a h₂=> ?_) λ_ _ x=>x));obtain⟨rfl,e,t,rfl,hC,o,k⟩:=h₂;refine NU (N0 ?_);obtain⟨f,g,d,u,os⟩:=a;have b:f.get? e=some {cls:= .ref C,data:= .fields #v[.ref t, .none, .none, .none, .bool false, .none]}:=o;dsimp only at hC k
 repeat (first|with_reducible refine PM b ?_|with_reducible refine PM hC ?_|(with_reducible refine Ro hC ?_;rw[l])|wp_step)
 have ne:e≠C:=λz=>by rw[z,hC]at b;have:=OL (Option.map Obj.cls) b;simp[excClassObj]at this
 have j:=((Oy (f.update e (Obj.mapFields λx=>x.setIfInBounds 3 Value.none)) (Obj.mapFields λx=>x.setIfInBounds 4 (Value.bool true)) ne).trans ((Oy f (Obj.mapFields λx=>x.setIfInBounds 3 Value.none) ne).trans hC));have p:((f.update e (Obj.mapFields λx=>x.setIfInBounds 3 Value.none)).update e (Obj.mapFields λx=>x.setIfInBounds 4 (Value.bool true))).get? e=some {cls:= .ref C,data:= .fields #v[.ref t, .none, .none, .none, .bool true, .none]}:=OC _ (OC _ b rfl) rfl
 repeat (first|with_reducible refine PM j ?_|with_reducible refine PM p ?_|(with_reducible refine Ro j ?_;rw[l])|wp_step)
 exact k
end
end L2
namespace L2
open PySem PySem.Spec PyProof.Rows PySem.Calls
section
variable{prog:tj}{w:vu}{A:vr}{E:f6}{s:tr}{env:Env}
variable{nm q:Str}{C N:Addr}{bs bm bmB:qR}{hdct:Bool}{sn:r9}{sub:qR}{ab:Bool}{col:Option Bool}{dd:px}{k0 k1 k2 k3 k5:Option Value}{B newId initId:tT}
theorem AF(F:ExcBaseFacts B newId initId bmB)(m:bm.contains (.type Tv)=true)(u:(backTo cpos (starEach args env)).any (·.1)=false)(r:mN TF=none)(h:wpAny (model prog w) A (eval (.Name x np) env) (λf k=>f= .ref C/\wpAny (model prog w) A (evalArgs (.ref C) true (backTo cpos (starEach args env)) [])
   (λa b=>a.kw=[]/\a.pos.length<=sizeLine/\b.heap.get? C=some (excClassObj nm q C N bs bm hdct sn sub ab col dd k0 k1 k2 k3 k5 newId)/\b.heap.Ns N mN/\OwnTail b.heap bmB bm/\
    ∀h' e,Heap.MadeExcOf b.heap h' e (.ref C) a.pos->∀t,h'.get? e=some (Gm C t)->
     wpAny (model prog w) A (raiseNew (.ref e):Sem Flow) Q E {b with heap:=(h'.update e (Obj.mapFields (·.setIfInBounds 3 .none))).update e (Obj.mapFields (·.setIfInBounds 4 (.bool true)))}) E k) E s):
  wpAny (model prog w) A (exec (.Raise (some (.Call (.Name x np) args [] cpos)) (some (.Constant .none j5 p5)) pos) env) Q E s:=by
 rw[arm_exec_Raise];simp only[evalOpt,Option.map];refine NU (Qu (qC (C:=C) (nm:=nm) (q:=q) (N:=N) (bs:=bs) (bm:=bm) (hdct:=hdct) (sn:=sn) (sub:=sub) (ab:=ab) (col:=col) (dd:=dd) (k0:=k0) (k1:=k1) (k2:=k2) (k3:=k3) (k5:=k5) (newId:=newId) m
  (NU (PX (ON h (λf k i=> ?_) λ_ _ x=>x)))))
 obtain⟨rfl,i⟩:=i;unfold callWith;refine NU (O4 (ON i (λa b h₂=>NU (Qu ?_)) λ_ _ x=>x));obtain⟨v,l⟩:=a;obtain⟨n,o,hC,p,T,h₂⟩:=h₂;obtain rfl:l=[]:=n;obtain⟨y,g,d,z,os⟩:=b;simp only[u];refine NU (wpAny_keeperOf_exc hC ?_);refine NU (wpAny_call_exc_subT (hrest:=o) F T hC p r λh' e c=>NU (O4 (wpAny_point (N0 ?_))));obtain⟨t,j,_,_⟩:=c.there;refine NU (Qu (N0 ?_));refine NU ?_;show wpAny _ _ (pure Value.none) _ _ _;refine N0 (NU (Qu (N0 ?_)));show#[2,e,t,2,c.keeps _ _ hC,j,h₂ h' e c t j]
end
end L2
namespace L2
open PySem PySem.Spec PyProof.Rows
def CXg(P:tj)(w:vu):CXT:=λb H s E e s'=>∃a cls H',e= .ref a/\Fly P w b H s a cls H' s'/\(∃o,s'.heap.get? a=some o/\sF o=some .none)/\E cls (some a) H'
section
variable{P:tj}{w:vu}{K:Frag}{mg:i2}{base:Heap}{N:r9}{qual:Str}{scope:Scope}{f:Addr}{cd:Value}{A:vr}{outer:ti}{s:tr}{H:Hp}{E:XK}
theorem Dz{σ:St}{d:tr}(I:Inv (cJ (CXg P w) P w K mg base N qual scope f cd A outer s H E) pins σ H1 d)(hx:Heap.MadeExcOf d.heap h' a cls us)(q:E cls (some a) H1):(cJ (CXg P w) P w K mg base N qual scope f cd A outer s H E).xe (.ref a) {d with heap:=h'}:=by
 have U:d.heap.FunFrames base (envOfC qual scope s.heap.objs.size f cd::outer):=I.stack;have y:∀b o,s.heap.get? b=some o->b∉frs outer->b∉frs (envOfC qual scope s.heap.objs.size f cd::outer):=λb o e hb l=>by
  rcases N1.mp (I.stkSub b l)with z|z
  .exact absurd z (Oe (N6 e))
  .exact hb z
 show wpAny (model P w) (A.deeper (envOfC qual scope s.heap.objs.size f cd)) (leaving (envOfC qual scope s.heap.objs.size f cd) (.ref a)) (λ_ m=>CXg P w outer H s E (.ref a) m) (λJ m=>CXg P w outer H s E J m) {d with heap:=h'};refine ON ((lq _ _).any (wpAny_leaves_madeW (base:=hideAll d.heap (frs (envOfC qual scope s.heap.objs.size f cd::outer))) (h:=d.heap)
  (Q:=λ_ B=>∃g t,B={d with heap:=g}/\Heap.FlyingW (hideAll d.heap (frs (envOfC qual scope s.heap.objs.size f cd::outer))) outer a cls (.ref t) g/\h'.UpToSlots g) I.ok.frames rfl (λb o q=>Qh _ q)
  (Q2 U λe O b hb=>Qi.mpr #[e,O,hb]) hx λg t x1 x2 x3 x4=>#[g,t,2,x1,x4])) (λ_ B z=> ?_) λ_ _ z=>z
 obtain⟨⟨g,t,rfl,x1,x4⟩,G⟩:=z;obtain⟨t0,ar,_,_⟩:=hx.there;obtain⟨u,hu,_,ay⟩:=G a _ ar;show#[a,cls,H1,2,#[I.os,I.bare,#[11,x1,λb o e n hb=> ?_,λb o e hb=> ?_,λb u e=> ?_],λb o e hb=> ?_,λb o e n=>I.base.free b o e n (λz=>nomatch z),I.base.tups,I.base.frzs,I.base.tbls,6],#[u,hu,ay],q]
 .exact OT _ (I.base.keep b o e n hb (λz=>nomatch z)) (y b o e hb)
 .obtain⟨j,i⟩:=I.base.there b o e (λz=>nomatch z);show#[j,OT _ i (y b o e hb)]
 .refine(I.hok b u e).stay (λc v M r=>OT _ r λl=> ?_) (λ_ q=>q) λ_ _ q=>q;have k:=I.stkFree c l;rcases M with z|z
  .rw[z,e]at k;cases k
  .rw[z]at k;cases k
 .obtain⟨_,j,ab,nf⟩:=I.ok.funs.mem hb;have x:s.heap.get? b=some j:=ab;rw[e]at x;cases x;obtain⟨sl,i⟩:=I.base.slot b o e (I.ok.frf b hb) hb (λz=>nomatch z);obtain⟨a0,L⟩:=x4 b _ (hx.keeps b _ i) nf;show#[a0,L]
 .cases hq:s.heap.get? a with
  |none=>rfl
  |some o=>
   obtain⟨j,i⟩:=I.base.there a o hq (λz=>nomatch z);have p:d.heap.get? a=some j:=i;rw[hx.new]at p;cases p
theorem zE:AE (cJ (CXg P w) P w K mg base N qual scope f cd A outer s H E) E:=λ_ _ _ _ _ _ _ _ I hx q=>Dz I hx q
end
structure HJ(P:tj)(w:vu)(K:Frag)(mg:i2)(base:Heap)(k:Nat)(x:Str)(ps:r9)(sp:Sp):Prop where
 ex:∃(f:Addr)(fd:FuncData),c5 P w K mg base (CXg P w) k f fd ps sp/\mg x=some (.ref f)/\keepIn K (.ref f)=true/\cx K fd ps []
theorem mI.calG{P:tj}{w:vu}{K:Frag}{c:i2}{base:Heap}{x:Str}{st:Stmt}{N ps:r9}{k:Nat}{sp:Sp}(D:mI K c x st ps)(S:bZ N ps (av st))(e:∀(f:Addr)(a:Value)(A:vr)(d:ti)(s:tr)(H:Hp)(vs:List V)(Q:VK)(E:XK),Room k (A.deeper (envOfC x (av st) s.heap.objs.size f a))->sp vs H Q E->
   ∃t,PSs (cJ (CXg P w) P w K c base N x (av st) f a A d s H E) (aH st) t/\t {nx:=λ_ H'=>Q .non H',rt:=Q} (start N vs) H)(len:∀vs H Q E,sp vs H Q E->vs.length=ps.length:=by intro _ _ _ _ h;cases h;subst_vars;rfl):HJ P w K c base (k+1) x ps sp:=by
 obtain⟨f,o,F,b,m⟩:=D.ex;obtain⟨p,od,kV,n,r,an,a,l,q,rfl,lk,g⟩:=F.ex;show#[f,_,xT lk g S len λA d s H vs Q E i j=>e f a A d s H vs Q E i j,m,F.kp,b]
structure He(h h':Heap)(e:Addr)(cls:Value):Prop where
 keeps:∀b o,h.get? b=some o->h'.get? b=some o
 new:h.get? e=none
 there:∃oe vs a0,h'.get? e=some oe/\oe.cls=cls/\oe.data= .fields vs/\vs[0]?=some a0/\vs[1]?=some .none
section
variable{X:Cx}{e e2:Expr}{es es2:q7}{t t2:TA}{g y c x:Str}{i jj k:Nat}{ps:r9}{sp:Sp}{py pg cpos apos cp hpos pos np cp2 p5 rpos:Pos}{j5:Nat}{Cc Cn:Addr}{B newId initId:tT}{bm:qR}{E:XK}
theorem D3(C:HJ X.prog X.w X.K X.mg X.base jj g ps sp)(hr:Room k X.A)(a3:jj<=k)(hg:Gl X g)(hN:X.N.Nodup)(hi:X.N[i]?=some y)(hy:Loc X.env.scope y)(hf:X.fn y=true\/X.env.scope.names.lookup y=some .local)(ha:∀E,PA (X.wish E) (e::es) t)(hd:(g==(Tq:Str))=false)(bN:swapsWith (.Call (.Name g pg) (e::es) [] cpos) (some (.Name y py)) apos.line X.env=pure false)(he:starEach (e::es) X.env=(false,eval e X.env)::starEach es X.env)(bk:(backTo cpos (starEach es X.env)).any (·.1)=false){l:St}{D:Ends}(I:Inv X p l H s)(h:t l H λvs a=>sp vs a (λv M=>D.nx (l.set i (some v)) M) E)(U:∀a d j cls H' s',Inv X p l a d->Fly X.prog X.w X.stack a d j cls H' s'->(∃o,s'.heap.get? j=some o/\sF o=some .none)->E cls (some j) H'->E' (.ref j) s'):
  wpAny (model X.prog X.w) X.A (execs [.Assign [.Name y py] (.Call (.Name g pg) (e::es) [] cpos) apos] X.env) (SP X p D) E' s:=by
 obtain⟨f,fd,F,m,kp,b⟩:=C.ex;refine Rc (thn (Q:=SP X p D) (Sz (PX (dW I hg m ?_ hd)) bN) λG d q=> ?_)
 .refine PY (h₀:=X.base) I.ok.mod.kin kp (thn (ha E' cpos p s l H _ (I.wish E') h) λus d ⟨vs,a,J,r,q⟩=>#[J.unwish.kIn,6]) he bk;have z:Inv X p l a d:=J.unwish;have hl:(us++[]).length=ps.length:=by rw[OP,<-r.length];exact F.len _ _ _ _ q
  have hb:=b d us z.kIn hl;rw[OP]at hb;refine QZ (Qv (F.run X.A X.stack d a #[us,[]] us vs _ E (hr.mono a3) z.env0 hb r q) λrr s' n=> ?_);cases rr with
  |error ev=>
   obtain⟨j,cls,H',rfl,L,hx,q'⟩:=n;exact U a d j cls H' s' z L hx q'
  |ok G=>
   cases G with
   |ret u=>
    obtain⟨v,H',O,rv,q2⟩:=z.after n;exact jd O hN hi hy rv (λs2 I3=>#[_,H',I3,q2]) hf
   |next=>exact False.elim n
   |brk=>exact False.elim n
   |cont=>exact False.elim n
 .cases G with
  |next=>exact Qx q
  |ret v=>exact q
  |brk=>exact q
  |cont=>exact q
end
section
variable{M:Model}{A:vr}{E:f6}{s:tr}
theorem zV{base:Heap}{env:Env}{oe:Obj}(g:A.frames=some (env::outer))(hl:s.heap.FunFrames base (env::outer))(f:env.frame=some L)(c:s.heap.get? e=some oe)(i:base.StaysIn s.heap)(d:base.get? e=none)(b:oe.data= .fields vs)(a:vs[1]?=some .none)(h0:vs[0]?=some a0)(h:∀h',Heap.HeldW base (env::outer) e oe.cls a0 L h'->s.heap.UpToSlots h'->Q Unit.unit {s with heap:=h'}):wpAny M A (noteFrame (.ref e) env) Q E s:=by
 unfold noteFrame;simp only[f];refine NU (QN c b a ?_);rw[NW ∅];exact wpAny_entryW g hl f c i d b (Qe.mp a).1 h0 λh' ⟨k1,k2,k3,j⟩=>h h' #[k1,d,k2,k3] j
theorem DA(w:Heap.HeldW base l e cls a0 L s.heap)(h:∀h',Heap.HeldW base l e cls a0 L h'->s.heap.UpToSlots h'->Q Unit.unit {s with heap:=h'}):wpAny M A (setFlight (.ref e) (some L)) Q E s:=by
 obtain⟨x,v,hl,oe,vs,T,y,ts,m,u,k,i,n,j,hT,c,t⟩:=w;have p:3<ts.size:=(Qe.mp t).1;have d:∀b,b≠T->(s.heap.update T (Obj.mapFields (·.setIfInBounds 3 ((some L:px).elim Value.none λf=>rawInt f)))).get? b=s.heap.get? b:=
  λb hb=>Oy _ _ (Pj hb)
 have r:∀b o,s.heap.get? b=some o->(∀vs,o.data≠ .fields vs)->b≠T:=λb o hb a q=>by rw[q,hT]at hb;injection hb with hb;subst hb;exact a ts c
 unfold setFlight;refine NU (QN m k i ?_);rw[NZ (show(Value.ref T !=Value.none)=true from by simp)];refine P2 hT c p (h _ #[λb o g=>(d b λq=>by rw[q,n]at g;cases g).trans (x b o g),v,
  hl.of_keeps λb o hb a=>#[o,(d b (r b o hb a)).trans hb,2],6] λb o hb a=>#[o.slots,(d b (r b o hb a)).trans hb])
 show#[oe,vs,T,11,(d e (Pj j)).trans m,u,k,i,n,j,OC _ hT (Qk (O7 c _)),O7 c _,by simp[p]]
theorem DP{env:Env}(f:env.frame=some L)(a:Heap.HeldW base l e cls a0 L s.heap)(h:∀h',Heap.HeldW base l e cls a0 L h'->s.heap.UpToSlots h'->E (.ref e) {s with heap:=h'}):cameBackBy M A env E (.ref e) s:=by
 obtain⟨j,i,hl,oe,vs,T,k,ts,d,g,c,b,r⟩:=id a;unfold cameBackBy;refine NU (QN d c b ?_);rw[NW #[5]];rw[f];exact DA a h
end
def BO(X:Cx)(E:XK):Prop:=∀(c:js) (e:St) (H:Hp) (s:tr) (h':Heap) (a:Addr) (cls:Value) (b:vr) (E':f6),Inv X c e H s->He s.heap h' a cls->E cls (some a) H->b.frames=X.A.frames->
 wpAny (model X.prog X.w) b (noteFrame (.ref a) X.env) (λ_ d=>cameBackBy (model X.prog X.w) X.A X.env X.xe (.ref a) d) E' {s with heap:=h'}
section
variable{P:tj}{w:vu}{K:Frag}{mg:i2}{base:Heap}{N:r9}{qual:Str}{scope:Scope}{f:Addr}{cd:Value}{A:vr}{outer:ti}{s:tr}{H:Hp}{E:XK}
theorem zF:BO (cJ (CXe P w) P w K mg base N qual scope f cd A outer s H E) E:=by
 intro b4 σ M a h' d cls A' E' I hx q ax;have az:a.heap.FunFrames base (envOfC qual scope s.heap.objs.size f cd::outer):=I.stack;have J:∀b o,s.heap.get? b=some o->b∉frs outer->b∉frs (envOfC qual scope s.heap.objs.size f cd::outer):=λb o e hb m=>by
  rcases N1.mp (I.stkSub b m)with z|z
  .exact absurd z (Oe (N6 e))
  .exact hb z
 obtain⟨oe,vs,a0,l,k,hd,h0,h1⟩:=hx.there;have B:(hideAll a.heap (frs (envOfC qual scope s.heap.objs.size f cd::outer))).StaysIn a.heap:=λb o q=>Qh _ q;have hl:=Q2 az λe l b hb=>Qi.mpr #[e,l,hb];have fresh:∀b,a.heap.get? b=none->(hideAll a.heap (frs (envOfC qual scope s.heap.objs.size f cd::outer))).get? b=none:=λb hb=>by
  cases p:(hideAll a.heap (frs (envOfC qual scope s.heap.objs.size f cd::outer))).get? b with
  |none=>rfl
  |some g=>have:=B b g p;rw[hb]at this;cases this
 refine zV (s:={a with heap:=h'}) (a0:=a0) (base:=hideAll a.heap (frs (envOfC qual scope s.heap.objs.size f cd::outer))) (ax.trans I.ok.frames) (hl.of_keeps λb o hb _=>#[o,hx.keeps b o hb,2]) rfl l (λb o hb=>hx.keeps b o (B b o hb)) (fresh d hx.new) hd h1 h0 λh2 a3 u2=> ?_;refine DP (s:={a with heap:=h2}) rfl a3 λj y u3=> ?_;show wpAny (model P w) (A.deeper (envOfC qual scope s.heap.objs.size f cd)) (leaving (envOfC qual scope s.heap.objs.size f cd) (.ref d)) (λ_ t=>CXe P w outer H s E (.ref d) t) (λO t=>CXe P w outer H s E O t) {a with heap:=j};unfold leaving;refine NU (wpAny_noteFrame_againW (s:={a with heap:=j}) rfl y.2.2.2 ?_);refine SW (s:={a with heap:=j}) y λh4 U u4=> ?_;obtain⟨y1,y0,⟨_,_,y2⟩,L⟩:=U;rw[k]at L;have x1:Heap.FlyingW (hideAll a.heap (frs (envOfC qual scope s.heap.objs.size f cd::outer))) outer d cls a0 h4:=#[y1,y0,y2,L];have x4:=(u2.trans u3).trans u4;show#[d,cls,M,2,#[I.os,I.bare,#[11,x1,λb o e n hb=> ?_,λb o e hb=> ?_,λb u e=> ?_],λb o e hb=> ?_,λb o e n=>I.base.free b o e n (λz=>nomatch z),I.base.tups,I.base.frzs,I.base.tbls,6],q]
 .exact OT _ (I.base.keep b o e n hb (λz=>nomatch z)) (J b o e hb)
 .obtain⟨g,h⟩:=I.base.there b o e (λz=>nomatch z);show#[g,OT _ h (J b o e hb)]
 .refine(I.hok b u e).stay (λc v k r=>OT _ r λm=> ?_) (λ_ q=>q) λ_ _ q=>q;have i:=I.stkFree c m;rcases k with z|z
  .rw[z,e]at i;cases i
  .rw[z]at i;cases i
 .obtain⟨_,g,bk,nf⟩:=I.ok.funs.mem hb;have G:s.heap.get? b=some g:=bk;rw[e]at G;cases G;obtain⟨sl,h⟩:=I.base.slot b o e (I.ok.frf b hb) hb (λz=>nomatch z);obtain⟨bN,Q⟩:=x4 b _ (hx.keeps b _ h) nf;show#[bN,Q]
 .cases p:s.heap.get? d with
  |none=>rfl
  |some o=>
   obtain⟨g,h⟩:=I.base.there d o p (λz=>nomatch z);have x:a.heap.get? d=some g:=h;rw[hx.new]at x;cases x
end
section
variable{X:Cx}{e e2:Expr}{es es2:q7}{t t2:TA}{g y c x:Str}{i jj k:Nat}{ps:r9}{sp:Sp}{py pg cpos apos cp hpos pos np cp2 p5 rpos:Pos}{j5:Nat}{Cc Cn:Addr}{B newId initId:tT}{bm:qR}{E:XK}
def Mo(i:Nat)(Cc Cn:Addr)(E:XK)(sp:Sp)(t t2:TA):TS:=λD b H=>t b H λvs h=>sp vs h (λv a=>D.nx (b.set i (some v)) a) λcls _ a=>cls= .ref Cc/\t2 b a λus d=>us.length<=sizeLine/\∀f,d f=none->E (.ref Cn) (some f) d
theorem IG(C:HJ X.prog X.w X.K X.mg X.base jj g ps sp)(hr:Room k X.A)(ep:jj<=k)(hg:Gl X g)(hN:X.N.Nodup)(hi:X.N[i]?=some y)(hy:Loc X.env.scope y)(el:Gl X c)(et:X.mg c=some (.ref Cc))(e5:exmOne X.K (.ref Cc) (.ref Cc)=some true)(cN:X.stack=X.env::X.outer)(ei:X.env.frame=some X.env.locals)(O:OwnCls x Cn bm newId X.mg X.base)(FB:ExcBaseFacts B newId initId bm)(en:Gl X x)(hR:BO X E)(ha:∀E,PA (X.wish E) (e::es) t)(dx:∀a,PA (X.inX a) (e2::es2) t2)(hf:X.fn y=true\/X.env.scope.names.lookup y=some .local:=by first|exact .inl rfl|exact .inr rfl|assumption)(hd:(g==(Tq:Str))=false:=by decide)(d1:(c==(Tq:Str))=false:=by decide)(d2:(x==(Tq:Str))=false:=by decide)(e4:swapsWith (.Call (.Name g pg) (e::es) [] cpos) (some (.Name y py)) apos.line X.env=pure false:=by rfl)(he:starEach (e::es) X.env=(false,eval e X.env)::starEach es X.env:=by rfl)(eT:(backTo cpos (starEach es X.env)).any (·.1)=false:=by rfl)(bN:starEach (e2::es2) X.env=(false,eval e2 X.env)::starEach es2 X.env:=by rfl)(e0:(backTo cp2 (starEach es2 X.env)).any (·.1)=false:=by rfl):
  PS X (.Try [.Assign [.Name y py] (.Call (.Name g pg) (e::es) [] cpos) apos] [.ExceptHandler (some (.Name c cp)) none [.Raise (some (.Call (.Name x np) (e2::es2) [] cp2)) (some (.Constant .none j5 p5)) rpos] hpos] [] [] pos) (Mo i Cc Cn E sp t t2):=by
 intro fp s σ H D I h;refine wpAny_Try_except (ON (D3 C hr ep hg hN hi hy hf ha hd e4 he eT I h (E':=λev fB=>wpAny (model X.prog X.w) X.A (noteFrame ev X.env) (λ_ fD=>wpAny (model X.prog X.w) X.A (setFlight ev none) (λ_ fI=>
  wpAny (model X.prog X.w) X.A (handleBy ev X.env [.ExceptHandler (some (.Name c cp)) none [.Raise (some (.Call (.Name x np) (e2::es2) [] cp2)) (some (.Constant .none j5 p5)) rpos] hpos]) (SP X fp D) X.xe fI) X.xe fD) X.xe fB) ?_) (λfl s1 q=> ?_) λ_ _ z=>z)
 .intro H1 s1 a cls H' s' G U ⟨oo,eL,eH⟩ q;obtain⟨rfl,q⟩:=q;obtain⟨B,a0,fl,hk,ht,b3⟩:=U.ex;have dm:Heap.FlyingW B (X.env::X.outer) a (.ref Cc) a0 s'.heap:=cN▸fl;have eg:X.A.frames=some (X.env::X.outer):=by rw[I.ok.frames,cN]
  refine ON ((my _ _).any (S9 (Q:=λ_ d=>∃l,d={s' with heap:=l}/\Heap.HeldW B (X.env::X.outer) a (.ref Cc) a0 X.env.locals l/\s'.heap.UpToSlots l) eg ei dm λl b0 ay=>#[l,2,b0,ay])) (λ_ d z=> ?_) λ_ _ z=>z;obtain⟨⟨l,rfl,b0,ay⟩,D4⟩:=z;refine ON ((iT _ _).any (SW (s:={s' with heap:=l}) (Q:=λ_ d=>∃j,d={s' with heap:=j}/\Heap.FlyingW B (X.env::X.outer) a (.ref Cc) a0 j/\l.UpToSlots j) b0 λj af az=>#[j,2,af,az])) (λ_ d z=> ?_) λ_ _ z=>z;obtain⟨⟨j,rfl,af,az⟩,D5⟩:=z;have I5:=(G.caught U af.1 hk ht b3 (ay.trans az)).inX a;refine wpAny_handleBy_cons (codeAny_handlers_test (dW (X:=X.inX a) I5 el et ?_ d1)) (by intro q;cases q);obtain⟨ob,eA,eE⟩:=af.there;have LT:Looks (model X.prog X.w) j (typeOf (.ref a)) (.ref Cc):=eE▸ (SV eA).andThen .now;refine(PySem.W.exm_one (K:=X.K) (M:=model X.prog X.w) I5.kIn LT e5).here ?_;refine codeAny_handlers_suite ?_;refine ON ((iT _ _).any (lands_againW (s:={s' with heap:=j}) (Q:=λ_ d=>∃u,d={s' with heap:=u}/\Heap.FlyingW B (X.env::X.outer) a (.ref Cc) a0 u/\j.UpToSlots u) af λu ar b4=>#[u,2,ar,b4])) (λ_ d z=> ?_) λ_ _ z=>z;obtain⟨⟨u,rfl,ar,b4⟩,D6⟩:=z;have I6:=G.caught U ar.1 hk ht b3 ((ay.trans az).trans b4);have ew:H' a=none:=b3.none_of ar.2.1;obtain⟨oe,vs,cE,f5,b2,_⟩:=ar.first;obtain⟨o6,ez,d0⟩:=((D4.on D5).on D6) a _ eL;have e6:u.get? a=some o6:=ez;rw[cE]at e6;cases e6;have ej:vs[2]?=some .none:=by have z:sF oe=some .none:=d0.2.trans eH;unfold sF at z;rwa[b2]at z
  have nl:a≠X.env.locals:=λz=>by obtain⟨m,⟨o,_,_,ho,_⟩,_⟩:=G.loc;have n:=U.new;rw[z,ho]at n;cases n
  have fc:a∉X.fs:=λhb=>by obtain⟨_,o,ho,_⟩:=G.ok.funs.mem hb;obtain⟨o',e1⟩:=G.base.there a o ho λz=>G.ok.exfs a z hb;have n:=U.new;rw[e1]at n;cases n
  have I7:Inv (X.inX a) [(a,oe)] σ H' {s' with heap:=u}:=(I6.inX a).pins_of λp hp=>by cases Oj.mp hp;show#[cE,ew,nl,fc,λv z=>by rw[b2]at z;cases z]
  obtain⟨tl,N,nm,q',bs,hdct,sn,sub,ab,col,dd,k0,k1,k2,k3,k5,mN,hC,dp,ey,T⟩:=O.obj;refine Rc (AF (C:=Cn) (nm:=nm) (q:=q') (N:=N) (bs:=bs) (bm:=tl) (hdct:=hdct) (sn:=sn) (sub:=sub) (ab:=ab) (col:=col) (dd:=dd) (k0:=k0) (k1:=k1) (k2:=k2) (k3:=k3) (k5:=k5)
   FB (mN:=mN) (T.hasType FB.hasBase) (by rw[bN];show(false||(backTo cp2 (starEach es2 X.env)).any (·.1))=false;rw[e0];rfl) ey (dW (X:=X.inX a) I7 en O.bound #[26] d2))
  have hA:=dx a cp2 [(a,oe)] _ σ H' _ I7 q;have ec:starEach (e2::es2) (X.inX a).env=(false,eval e2 X.env)::starEach es2 X.env:=bN;rw[ec]at hA;rw[bN];refine Rf (thn (ON hA (λ_ _ z=>z) λ_ _ z=>z.elim) λus d ⟨ws,H2,J,r,hl,q2⟩=>#[2,by rw[<-r.length];exact hl,J.bk _ _ hC,dp.keeps J.bk,T.keeps J.bk,λh' f L tt ht=> ?_]);have pe:d.heap.get? a=some oe:=(J.pin (a,oe) (OR _ (Oj.mpr rfl))).1;have ne:a≠f:=λz=>by have n:=L.new;rw[<-z,pe]at n;cases n
  have g1:∀b o,b≠f->h'.get? b=some o->((h'.update f (Obj.mapFields (·.setIfInBounds 3 .none))).update f (Obj.mapFields (·.setIfInBounds 4 (.bool true)))).get? b=some o:=λb o hb z=>(Oy _ _ (Pj hb)).trans ((Oy _ _ (Pj hb)).trans z);have g2:((h'.update f (Obj.mapFields (·.setIfInBounds 3 .none))).update f (Obj.mapFields (·.setIfInBounds 4 (.bool true)))).get? f=some (BC Cn tt):=OC _ (OC _ ht rfl) rfl;refine vc (oe:=BC Cn tt) (vs:= #v[.ref tt, .none, .none, .none, .bool true, .none]) rfl ne (g1 a oe ne (L.keeps _ _ pe)) b2 ej g2 rfl (by show 2<6;decide) ?_;refine hR [(a,oe)] σ H2 d _ f (.ref Cn) (X.A.mark (some (.ref a))) _ (J.outX I.ok) #[λb o z=> ?_,L.new,#[111,OC _ g2 rfl,2222]] (q2 f (J.hok.none_of L.new)) rfl;have nb:b≠f:=λe=>by have n:=L.new;rw[<-e,z]at n;cases n
  exact(Oy _ _ (Pj nb)).trans (g1 b o nb (L.keeps b o z))
 .cases fl with
  |next=>exact Qx q
  |ret v=>exact q
  |brk=>exact q
  |cont=>exact q
end
section
variable{P:tj}{w:vu}{K:Frag}{mg:i2}{base:Heap}{N:r9}{qual:Str}{scope:Scope}{f:Addr}{cd:Value}{A:vr}{outer:ti}{s:tr}{H:Hp}{E:XK}
theorem vh:dF (CXd P w) (cJ (CXe P w) P w K mg base N qual scope f cd A outer s H E) (λcls _ H'=>∀a,E cls (some a) H'):=λ_ _ _ _ _ _ I h=>by obtain⟨a,cls,b,H',rfl,F,_,q⟩:=h;exact Gf I #[a,cls,H',2,F,q a]
end
def J0(n q:Nat):It:=#[λi _=>i<q,λi H x H'=>H'=H/\x= .int ((0:Int)+(i:Nat)*(n:Int)),λi _=>q<=i]
theorem wy{P:tj}{w:vu}{K:Frag}{L:Expr}(it:Addr)(n q:Nat):Turn P w K L (J0 n q) [it] it (λi h=>IsRangeIter h it ((0:Int)+(i:Nat)*(n:Int)) ((q:Int) - (i:Nat)) n) where
 mem:=#[5]
 obj:=λi h st b hb=>by
  have e:b=it:=#[5,hb]
  subst e;show#[_,st,λv z=>by have M:Data.fields _=Data.cell v:=z;cases M]
 keep:=λi h h' st k=>k it #[5] _ st
 item:=by intro X j p g l i r s y H E I a st m;subst j p g;obtain⟨f0,f1,f2,c,d,f⟩:=a it #[5];have W:=Walks.range (prog:=X.prog) (w:=X.w) (I.ok.hd l) it 0 n q;refine W.item i s _ _ m st λv h' x G u J=> ?_;obtain⟨t,rfl⟩:=G;have A:Inv X r y H {s with heap:=h',toks:=x}:=I.turned (λb o hb e=>J b o #[5,hb] e) f0 f1 c d f;show#[7,xR (s:={s with heap:=h',toks:=x}) (n:= "range_iterator") u rfl rfl ∅ #[.int ((0:Int)+(i:Nat)*(n:Int)),H,A,#[t,2],#[22],u,λb hb=>(a b hb).1]]
 done:=by intro X j p g l i r s y H E I a st m;subst j p g;obtain⟨f0,f1,f2,c,d,f⟩:=a it #[5];exact wpAny_pyNext_range_end (I.ok.hd l) st (by have:q<=i:=m;lia) λh' B=>#[2,I.turned (t':=s.toks) (λb o hb e=>B b o hb e) f0 f1 c d f]
 self:=λ_ _ _ _ _ st h=>wpAny_pyIter_rangeiter st h
theorem Kc(a:0<n):Builtin.Range.rangeSize 0 ((n*q:Nat):Int) n=q:=by
 unfold Builtin.Range.rangeSize;rw[NZ ()];by_cases h:q=0
 .subst h;rw[NW #[5]];rfl
 .have d:0<n*q:=Nat.mul_pos a ();rw[NZ ()];have e:((n*q:Nat):Int) -0-1=((n*q-1:Nat):Int):=()
  rw[e];have b:((n*q-1:Nat):Int) /(n:Int)=(((n*q-1) /n:Nat):Int):=#[5]
  rw[b];have c:(n*q-1) /n=q-1:=by obtain⟨p,rfl⟩:∃p,q=p+1:=#[q-1,9];rw[Nat.mul_add,Tc,show n*p+n-1=n-1+n*p by lia,Nat.add_mul_div_left _ _ a,Nat.div_eq_of_lt ()];lia
  rw[c];lia
section
variable{X:Cx}{tg:Expr}
def Nl(b:TA):TI:=λc H R=>b c H λvs a=>∃n q:Nat,vs=[.int 0, .int ((n*q:Nat):Int), .int (n:Int)]/\(0<n/\n<1000/\n*q<100000)/\R (J0 n q) a
theorem CH{a b c:Expr}{u:TA}{p pos:Pos}(A:Gl X Tx)(B:X.mg Tx=none)(z:PA X [a,b,c] u)(G:starEach [a,b,c] X.env=[(false,eval a X.env),(false,eval b X.env),(false,eval c X.env)]:=by rfl)(k:starEach [b,c] X.env=[(false,eval b X.env),(false,eval c X.env)]:=by rfl):
  PI X tg (.Call (.Name Tx p) [a,b,c] [] pos) (Nl u):=by
 intro l s v H R I h;refine Call_ (gM I A B boot_range (O6 (thn (z pos l s v H _ I h) λus g ⟨vs,j,w,M,d⟩=> ?_) (by rw[G,k]) (by rw[k];rfl)));obtain⟨n,q,e,⟨d,O,Q⟩,J⟩:=d;subst e;cases M with
 |cons r f=>
  cases f with
  |cons K f=>
   cases f with
   |cons L f=>
    cases f;obtain⟨t,rfl⟩:=r;obtain⟨t',rfl⟩:=K;obtain⟨m,rfl⟩:=L;refine PySem.call_range_3 () ?_ (PR (PyProof.noPylong_small ()));refine wpAny_pyIter_range (IsRange.new ..) ?_ ?_
    .unfold Builtin.Range.small;rw[Kc d];have N:q<=n*q:=Nat.le_mul_of_pos_left q d;simp only[Builtin.Range.rangeFitsLong,Oz,Rr,OB,Qd,show((n:Int))>0 by lia,Sb];lia
    have i:Inv X l v j {g with heap:=g.heap.push {cls:= .type Tx,data:= .fields #v[.int 0 t, .int ((n*q:Nat):Int) t', .int (n:Int) m]},toks:=g.toks}:=w.kept λb o e=>NY _ e;show#[_,[_],_,J0 n q,j,2,i.kept (t':=g.toks) λb o e=>NY _ e,wy _ n q,6,λb hb=> ?_,J]
    .have x:(0:Int)+((0:Nat):Int)*(n:Int)=0:=#[5]
     have y:((q:Nat):Int) - ((0:Nat):Int)=Builtin.Range.rangeSize 0 ((n*q:Nat):Int) n:=by rw[Kc d];lia
     show IsRangeIter _ _ ((0:Int)+((0:Nat):Int)*(n:Int)) (((q:Nat):Int) - ((0:Nat):Int)) n;rw[x,y];exact Oi _ rfl
    .have e:b=(g.heap.push {cls:= .type Tx,data:= .fields #v[.int 0 t, .int ((n*q:Nat):Int) t', .int (n:Int) m]}).objs.size:=#[5,hb]
     subst e;exact i.fpOk (N3 _) (i.hok.fresh (N3 _))
theorem LO{n m:Nat}{fr:sk}{o:St}(a:Nat->V->Hp->Prop)(w:∀x y H H',Same H H'->a x y H->a x y H')(B:m<=sizeLine)(G:∀(i:Nat)(vs:St)(D:Addr)(H':Hp)(R:V->St->Hp->Prop)(S:St->Hp->Prop),i<m->vs.length=nv->Same H H'->(∃l,H' D=some (.lst l))->
   (∀y q d,a i y (hide d D)->q.length=nv->Same H' d->R y (q++fr.map λj=>(o[j]?).join) d)->
    g (.int ((0:Int)+(i:Nat)*(n:Int))) (vs++fr.map λj=>(o[j]?).join) H' λc r=>tc c r λb p=>if b=true then te c p λy s=>R y c s else S c p)(z:∀D H' (f:List V),H D=none->Same H H'->H' D=some (.lst f)->f.length=m->(∀(j:Nat)(y:V),f[j]?=some y->a j y (hide H' D))->Q (.ref D) H'):LCW (J0 n m) g tc te nv fr o H Q:=by
 refine FU m B (λi x H' e=>H'=e/\x= .int ((0:Int)+(i:Nat)*(n:Int))) (λi H' h _=>h) (λi H' x e _ _ y=>by obtain⟨t,u⟩:=y;subst t u;show#[Same.refl _,22]) (λ_ _=>N3 _) a w (λi x vs D H' e R S A h J K _ v k=> ?_) z;obtain⟨rfl,rfl⟩:=h;exact G i vs D H' R S A J K v k
end
def i6(p:Nat->Bool)(f:Nat->V)(L:sk):List V:=(L.filter p).map f
theorem zO(p:Nat->Bool)(f:Nat->V)(L:sk)(i c:Nat)(h:L[i]?=some c):i6 p f (L.take (i+1))=if p c=true then i6 p f (L.take i)++[f c]else i6 p f (L.take i):=by unfold i6;rw[Pk,h,P0,O1];cases a:p c<;>simp[a]
theorem CO(p:Nat->Bool)(f:Nat->V)(L:sk):(i6 p f L).length<=L.length:=by unfold i6;rw[My];exact OW _ _
theorem Bx{z:Str}{fr:sk}{d:St}(p:Nat->Bool)(f:Nat->V)(A:z.length<=sizeLine)(B:∀(i c:Nat)(vs:St)(H':Hp)(R:V->St->Hp->Prop)(S:St->Hp->Prop),z.cps.toList[i]?=some c->vs.length=nv->Same H H'->
   (∀o l,o.length=nv->Same H' l->if p c=true then R (f c) (o++fr.map λj=>(d[j]?).join) l else S (o++fr.map λj=>(d[j]?).join) l)->
   g (.str #[#v[c]]) (vs++fr.map λj=>(d[j]?).join) H' λe r=>tc e r λb q=>if b=true then te e q λy s=>R y e s else S e q)(w:∀D H',H D=none->Same H H'->H' D=some (.lst (i6 p f z.cps.toList))->Q (.ref D) H'):LCW (Its z) g tc te nv fr d H Q:=by
 have hsz:z.cps.toList.length=z.cps.size:=Ou;refine xK z.cps.size A (λi x H' m=>H'=m/\∃c,x= .str #[#v[c]]/\z.cps.toList[i]?=some c) (λi H' h _=>h) (λi H' x m _ _ y=>by obtain⟨t,c,a,u⟩:=y;subst t u;show#[Same.refl _,2,c,2,#[5,a]]) (λ_ _=>rfl) (λi=>i6 p f (z.cps.toList.take i)) (λi _=>p (z.cps.toList.getD i 0)) (λi _=>f (z.cps.toList.getD i 0)) rfl (λi=>NV (CO p f _) (by rw[Ow];lia)) (λi x _ _ _ h=> ?_) (λi x vs H' m R S _ h G n _ k=> ?_) λD H' v n hz=>w D H' v n (by rw[hz,<-hsz,OV])
 .obtain⟨_,c,_,a⟩:=h;rw[OD,a];exact zO p f _ i c a
 .obtain⟨rfl,c,rfl,a⟩:=h;rw[OD,a]at k;exact B i c vs H' R S a G n k
inductive gn:List Expr->List V->Prop
 |nil:gn [] []
 |int {i:Int} {j:Nat} {p:Pos} {es:q7} {zs:List V} (h:gn es zs):gn (.Constant (.int i) j p::es) (.int i::zs)
 |str {i:Str} {j:Nat} {p:Pos} {es:q7} {zs:List V} (h:gn es zs):gn (.Constant (.str i) j p::es) (.str i::zs)
def gB:List Expr->Option (List V)
 | []=>some []
 | .Constant (.int i) _ _::es=>(gB es).map (V.int i:: ·)
 | .Constant (.str i) _ _::es=>(gB es).map (V.str i:: ·)
 |_=>none
theorem rN:∀ {es:q7} {b:List V},gB es=some b->gn es b
 | [],b,h=>by have e:b=[]:=(OA h).symm;subst e;exact .nil
 |e::es,b,h=>by
  unfold gB at h;split at h
  .rename_i c;cases c
  .rename_i c;cases c;cases a:gB es with
   |none=>rw[a]at h;cases h
   |some d=>
    rw[a]at h;have e:_::d=b:=OA h;subst e;exact .int (rN a)
  .rename_i c;cases c;cases a:gB es with
   |none=>rw[a]at h;cases h
   |some d=>
    rw[a]at h;have e:_::d=b:=OA h;subst e;exact .str (rN a)
  .cases h
def tCs(a:List V):TA:=λ_ H Q=>Q a H
theorem IY(h:gn es zs):PA X es (tCs zs):=by
 induction h with
 |nil=>exact aN
 |int h a=>exact ai aa a
 |str h a=>exact ai aw a
theorem IV(a:List V)(h:gB es=some a):PE X (.List es p) (KL (tCs a)):=aZ (IY (rN h))
def jJ:Expr->Option (List V)
 | .List es _=>gB es
 |_=>none
theorem cf(a:List V)(h:jJ e=some a):PE X e (KL (tCs a)):=by
 unfold jJ at h;split at h
 .exact IV a h
 .cases h
structure uL(P:tj)(w:vu)(K:Frag)(mg:i2)(base:Heap)(k:Nat)(f:Addr)(ps:r9)(sp:Sp):Prop where
 ex:∃fd:FuncData,c5 P w K mg base (CXe P w) k f fd ps sp/\cx K fd ps []
 kp:keepIn K (.ref f)=true
structure uM(P:tj)(w:vu)(K:Frag)(mg:i2)(base:Heap)(k:Nat)(C:Addr)(m:Str)(ps:r9)(sp:Sp):Prop where
 cl:Cls K C
 ex:∃f,Meth K C m f/\uL P w K mg base k f ps sp
section
variable{P:tj}{w:vu}{K:Frag}{mg:i2}{base:Heap}
theorem yu.fnX{m d:Str}{st:Stmt}{N ps:r9}{k:Nat}{sp:Sp}{f:Addr}(D:yu K m d st ps f)(S:bZ N ps (av st))(e:∀(a:Value)(A:vr)(c:ti)(s:tr)(H:Hp)(vs:List V)(Q:VK)(E:XK),Room k (A.deeper (envOfC d (av st) s.heap.objs.size f a))->sp vs H Q E->
   ∃t,PSs (cJ (CXe P w) P w K mg base N d (av st) f a A c s H E) (aH st) t/\t {nx:=λ_ H'=>Q .non H',rt:=Q} (start N vs) H)(len:∀vs H Q E,sp vs H Q E->vs.length=ps.length:=by intro _ _ _ _ h;cases h;subst_vars;rfl):uL P w K mg base (k+1) f ps sp:=by
 obtain⟨o,F,b⟩:=D.ex;obtain⟨p,od,kV,n,r,an,a,l,q,rfl,lk,g⟩:=F.ex;show#[#[_,xT lk g S len λA c s H vs Q E i j=>e a A c s H vs Q E i j,b],F.kp]
end
section
variable{X:Cx}{e o:Expr}{es:q7}{t:TA}{ta:TE}{y c m:Str}{i jj k:Nat}{ps:r9}{sp:Sp}{py cpos apos apos2 cp hpos pos:Pos}{C:Addr}{Cc:Value}{E:XK}
theorem Fc{pl:Sem Bool}(M:uM X.prog X.w X.K X.mg X.base jj C m ps sp)(n:Room k X.A)(h:jj<=k)(hx:dF (CXe X.prog X.w) X E)(g:PE X o ta)(d:PA X (e::es) t)(p:starEach (e::es) X.env=(false,eval e X.env)::starEach es X.env:=by rfl)(l:(backTo pos (starEach es X.env)).any (·.1)=false:=by rfl)(q:eval (.Call (.Attribute o m apos) (e::es) [] pos) X.env=(do
   let a<-eval o X.env
   standAt apos.atName
   let(f,first)<-holding [a] (getMethod a m pl)
   callWith pos f first (backTo pos (starEach (e::es) X.env)) (backToKw pos (keywordEach [] X.env))):=by rfl):
  PE X (.Call (.Attribute o m apos) (e::es) [] pos) (J6 C m sp [] E ta t):=by
 obtain⟨cl,f,j,⟨r,F,b⟩,s⟩:=M;exact IT (pl:=pl) g cl j F (n.mono h) b .nil hx d p l q
def J7(i:Nat)(C:Addr)(m:Str)(sp:Sp)(ta:TE)(t:TA)(D:Ends)(E:XK)(b:St)(H:Hp):Prop:=ta b H λx d=>∃a h fs,x= .ref a/\d a=some (.ins C h fs)/\fs.lookup m=none/\t b d λvs f=>sp (.ref a::vs) f (λv g=>D.nx (b.set i (some v)) g) E
theorem GR(M:uM X.prog X.w X.K X.mg X.base jj C m ps sp)(hr:Room k X.A)(b2:jj<=k)(hN:X.N.Nodup)(hi:X.N[i]?=some y)(hy:Loc X.env.scope y)(hf:X.fn y=true\/X.env.scope.names.lookup y=some .local)(ho:∀E,PE (X.wish E) o ta)(ha:∀E,PA (X.wish E) (e::es) t)(b6:swapsWith (.Call (.Attribute o m apos2) (e::es) [] cpos) (some (.Name y py)) apos.line X.env=pure false)(he:starEach (e::es) X.env=(false,eval e X.env)::starEach es X.env)(b4:(backTo cpos (starEach es X.env)).any (·.1)=false)(b7:eval (.Call (.Attribute o m apos2) (e::es) [] cpos) X.env=(do
   let ov<-eval o X.env
   standAt apos2.atName
   let(f,first)<-holding [ov] (getMethod ov m pl)
   callWith cpos f first (backTo cpos (starEach (e::es) X.env)) (backToKw cpos (keywordEach [] X.env)))){g:St}(I:Inv X d g H s)(h:J7 i C m sp ta t D E g H)(hE:∀z p j cls H' s',Inv X d g z p->Fly X.prog X.w X.stack z p j cls H' s'->E cls (some j) H'->E' (.ref j) s'):
  wpAny (model X.prog X.w) X.A (execs [.Assign [.Name y py] (.Call (.Attribute o m apos2) (e::es) [] cpos) apos] X.env) (SP X d D) E' s:=by
 obtain⟨cl,f,hm,⟨fd,F,b⟩,kp⟩:=M;refine Rc (thn (Q:=SP X d D) (Sz (Qj (pl:=pl) (thn (ho E' d s g H _ (I.wish E') h) λu p ⟨x,z,O,rx,a,dx,fs,ex,j,l,q⟩=> ?_) b7) b6) λL p q=> ?_)
 .subst ex;obtain rfl:u=Value.ref a:=rx;refine iS O.unwish j cl hm l ?_;refine PY (first:=[.ref a]) (h₀:=X.base) I.ok.mod.kin hm.kp (thn (ha E' cpos d p g z _ O q) λus G ⟨vs,J,U,r,q2⟩=>#[U.unwish.kIn,6]) he b4;have B:Inv X d g J G:=U.unwish;have r2:Vals (.ref a::vs) (.ref a::us):= .cons rfl r;have hl:((Value.ref a::us)++[]).length=ps.length:=by rw[OP,<-r2.length];exact F.len _ _ _ _ q2
  have hb:=b G (.ref a::us) B.kIn hl;rw[OP]at hb;refine QZ (Qv (F.run X.A X.stack G J #[.ref a::us,[]] (.ref a::us) (.ref a::vs) _ E (hr.mono b2) B.env0 hb r2 q2) λrr s' n=> ?_);cases rr with
  |error ev=>
   obtain⟨a0,cls,H',rfl,Fl,q'⟩:=n;exact hE J G a0 cls H' s' B Fl q'
  |ok L=>
   cases L with
   |ret u=>
    obtain⟨v,H',I3,rv,q3⟩:=B.after n;exact jd I3 hN hi hy rv (λs4 I4=>#[_,H',I4,q3]) hf
   |next=>exact False.elim n
   |brk=>exact False.elim n
   |cont=>exact False.elim n
 .cases L with
  |next=>exact Qx q
  |ret v=>exact q
  |brk=>exact q
  |cont=>exact q
def Mp(i j:Nat)(Ok:Value->Prop)(C:Addr)(m:Str)(sp:Sp)(ta:TE)(t:TA)(h:TS):TS:=λD f H=>J7 i C m sp ta t D (λcls g d=>∃a,g=some a/\Ok cls/\
 (d a=none->h {nx:=λb H'=>D.nx (b.set j none) H',rt:=D.rt,bk:=λb H'=>D.bk (b.set j none) H',ct:=λb H'=>D.ct (b.set j none) H'} (f.set j (some (.ref a))) (upd d a (jQ a cls)))) f H
theorem IH{pl:Sem Bool}{j:Nat}{n:Str}{Ok:Value->Prop}{ab:Stmt}{bp:List Stmt}{th:TS}(M:uM X.prog X.w X.K X.mg X.base jj C m ps sp)(hr:Room k X.A)(dx:jj<=k)(J:X.N.Nodup)(hi:X.N[i]?=some y)(hy:Loc X.env.scope y)(O:X.N[j]?=some n)(L:X.env.kindOf n=some .local)(dp:Gl X c)(dV:X.mg c=some Cc)(el:∀cls,Ok cls->exmOne X.K cls Cc=some true)(b4:X.stack=X.env::X.outer)(dn:X.env.frame=some X.env.locals)(b1:X.ex=[])(Q:∀E,PE (X.wish E) o ta)(ha:∀E,PA (X.wish E) (e::es) t)(hs:∀a,PSs (X.inX a) (ab::bp) th)(hf:X.fn y=true\/X.env.scope.names.lookup y=some .local:=by first|exact .inl rfl|exact .inr rfl|assumption)(dc:(c==(Tq:Str))=false:=by decide)(ej:swapsWith (.Call (.Attribute o m apos2) (e::es) [] cpos) (some (.Name y py)) apos.line X.env=pure false:=by rfl)(he:starEach (e::es) X.env=(false,eval e X.env)::starEach es X.env:=by rfl)(ed:(backTo cpos (starEach es X.env)).any (·.1)=false:=by rfl)(ek:eval (.Call (.Attribute o m apos2) (e::es) [] cpos) X.env=(do
   let ov<-eval o X.env
   standAt apos2.atName
   let(f,first)<-holding [ov] (getMethod ov m pl)
   callWith cpos f first (backTo cpos (starEach (e::es) X.env)) (backToKw cpos (keywordEach [] X.env))):=by rfl):
  PS X (.Try [.Assign [.Name y py] (.Call (.Attribute o m apos2) (e::es) [] cpos) apos] [.ExceptHandler (some (.Name c cp)) (some n) (ab::bp) hpos] [] [] pos) (Mp i j Ok C m sp ta t th):=by
 intro a3 s σ H D I h;refine wpAny_Try_except (ON (GR (pl:=pl) M hr dx J hi hy hf Q ha ej he ed ek I h (E':=λev ew=>wpAny (model X.prog X.w) X.A (noteFrame ev X.env) (λ_ ey=>wpAny (model X.prog X.w) X.A (setFlight ev none) (λ_ ez=>
  wpAny (model X.prog X.w) X.A (handleBy ev X.env [.ExceptHandler (some (.Name c cp)) (some n) (ab::bp) hpos]) (SP X a3 D) X.xe ez) X.xe ey) X.xe ew) ?_) (λfl s1 q=> ?_) λ_ _ z=>z)
 .intro H1 s1 a cls H' s' G U q;obtain⟨eH,e1,c8,q⟩:=q;cases e1;obtain⟨B,a0,fl,hk,ht,az⟩:=U.ex;have c1:Heap.FlyingW B (X.env::X.outer) a cls a0 s'.heap:=b4▸fl;have dm:X.A.frames=some (X.env::X.outer):=by rw[I.ok.frames,b4]
  refine S9 dm dn c1 λh4 dt b8=> ?_;refine SW dt λh5 ax cm=> ?_;have I5:=(G.caught U ax.1 hk ht az (b8.trans cm)).inX a;refine wpAny_handleBy_cons (codeAny_handlers_test (dW (X:=X.inX a) I5 dp dV ?_ dc)) (by intro q;cases q);obtain⟨ob,d0,d1⟩:=ax.there;have LT:Looks (model X.prog X.w) h5 (typeOf (.ref a)) cls:=d1▸ (SV d0).andThen .now;refine(PySem.W.exm_one (K:=X.K) (M:=model X.prog X.w) I5.kIn LT (el cls c8)).here ?_;refine codeAny_handlers_suite_as ?_;refine lands_againW ax λh6 ay et=> ?_;have I6:=G.caught U ay.1 hk ht az ((b8.trans cm).trans et);have b3:H' a=none:=az.none_of ay.2.1;obtain⟨oe,vs,d2,d6,eb,_⟩:=ay.first;have I7:Inv X a3 σ (upd H' a (jQ a cls)) {s' with heap:=h6}:=by
   refine I6.track (h0:=s1.heap) b1 (λb o q=>G.base.there b o q (by rw[b1];exact λz=>nomatch z)) ?_ (λx c q=> ?_) (λp hp=>#[_,(G.pin p hp).1]) U.new b3 #[oe,d2,d6,vs,eb]
   .obtain⟨m,⟨o,_,_,Q,_⟩,_⟩:=G.loc;show#[o,Q]
   .obtain⟨v,o,Q,_⟩:=G.cell x c q;show#[o,Q]
  refine jd (X:=X.inX a) (i:=j) (v:= .ref a) (I7.inX a) J O (.inl L) rfl (λs8 I8=> ?_) (.inr L);refine ON (hs a a3 s8 _ _ _ I8 (q b3)) (λf s9 d=> ?_) λ_ _ z=>z.elim;cases f with
  |next=>
   obtain⟨bN,g,r,d⟩:=d;exact pO (r.outX I.ok) J O L λbk l=>#[_,g,l,d]
  |brk=>
   obtain⟨bN,g,r,d⟩:=d;exact pO (r.outX I.ok) J O L λbk l=>#[_,g,l,d]
  |cont=>
   obtain⟨bN,g,r,d⟩:=d;exact pO (r.outX I.ok) J O L λbk l=>#[_,g,l,d]
  |ret u=>
   obtain⟨v,bN,g,r,rv,d⟩:=d;exact pO (r.outX I.ok) J O L λbk l=>#[v,_,g,l,rv,d]
 .cases fl with
  |next=>exact Qx q
  |ret v=>exact q
  |brk=>exact q
  |cont=>exact q
end
section
variable{X:Cx}
def Nj:Value->Bool
 | .bool b=>b
 |_=>false
theorem yn:∀ {bs:List Bool} {us:qR},Vals (bs.map V.bl) us->us=bs.map Value.bool
 | [],_, .nil=>rfl
 |c::Cs,_, .cons r a=>by cases (show _=Value.bool c from r);rw[yn a];rfl
def ID:V->List V->Hp->VK->Prop:=λx vs H Q=>∃(l:Addr)(bs:List Bool)(j:Nat),x= .ref l/\vs=[.bl true]/\H l=some (.lst (bs.map V.bl))/\bs[j]?=some true/\(∀m,m<j->bs[m]?=some false)/\Q (.int (j:Int)) H
theorem C5:MtM X "list.index" ID:=by
 intro L s M H x vs v us Q I G B h;obtain⟨l,bs,j,rfl,rfl,f,a,k,q⟩:=h;cases G;obtain⟨u,rfl,t⟩:=B.one;cases (show u=Value.bool true from t);obtain⟨z,K,n,r,hl,e⟩:=I.lstM f;have d:=yn r;subst d;have c:j<bs.length:=(Oc.mp a).1;refine RZ F.slot_list_index #[_,e,2] F.entry_list_index (F.args_list_index_2 _ _) (MeetsSeq.list_index l (bs.map Value.bool).toArray n (.bool true) Nj (λy p=> ?_) j (by rw[Oq,My];exact c) ?_ ?_ ?_) #[e,6]
 .obtain⟨b,_,rfl⟩:=Of.mp (List.mem_toArray.mp p);intro prog w A E s Q o;exact SeqAt.EqAt.bool_bool b true prog w E Q (by cases b<;>exact o)
 .rw[My]at z;have hz:bs.length<=sizeLine:=z;have:=nG;have J:((sizeLine:Nat):Int)<2^63:=by exact_mod_cast this
  lia
 .have:(bs.map Value.bool).toArray[j]'(by rw[Oq,My];exact c)= .bool true:=by rw[List.getElem_toArray,List.getElem_map,(Oc.mp a).2]
  rw[this];rfl
 .intro m g i;have hb:=Oc.mp (k m i);have:(bs.map Value.bool).toArray[m]'g= .bool false:=by rw[List.getElem_toArray,List.getElem_map,hb.2]
  rw[this];rfl
 .show#[.int (j:Int),H,I.tok _,#[7],q]
end
section
variable{X:Cx}{x:Str}{p pos:Pos}{C:Addr}{ps:r9}{sp:Sp}{j k:Nat}
theorem IS(M:mJ X.prog X.w X.K X.mg X.base j x C ps sp)(e:Room k X.A)(d:j+1<=k)(c:Gl X x)(a:(x==(Tq:Str))=false:=by decide):PE X (.Call (.Name x p) [] [] pos) (AO C sp [] E0 wB):=by obtain⟨⟨f,mk,⟨h,F,b⟩,i⟩,g⟩:=M;exact E6 mk F (e.mono d) c g b .nil tH a
end
abbrev bF(X:Cx)(N':r9)(sc:Scope)(s₃:tr)(H₃:Hp)(fp:List Addr)(pins:js)(E:XK):Cx:=(pQ X N' sc s₃ H₃ fp pins).wish (rH X (pQ X N' sc s₃ H₃ fp pins) E)
theorem er{X:Cx}:dF (CXe X.prog X.w) (bF X N' sc s₃ H₃ fp pins E) E:=by intro pins' b H s e s' I h;obtain⟨a,cls,H',rfl,F,q⟩:=h;show#[pins',b,H,s,a,cls,H',2,I.unwish,F,q]
def JZ(X:Cx)(b:XK):Prop:=(∀c a H,¬b c a H)\/(X.stack=X.env::X.outer/\X.env.frame=some X.env.locals/\X.ex=[]/\Outs X b)
theorem Kn:JZ X E0:= .inl λ_ _ _ h=>h
section
variable{X:Cx}{elt target iter:Expr}{ifs:q7}{sc:Scope}{pos:Pos}{wi:TI}{g:TG}{tc:TT}{te:TE}{vars frn:r9}{fr:sk}
theorem oV(hE:JZ X EX)(hc:X.calm=true)(n6:∀y∈sc.names,y.2= .free->X.env.kindOf y.1=some .cell\/X.env.kindOf y.1=some .free)(oh:sc.names.all (λy=> !(y.2== .cell)|| !(frn.contains y.1))=true)(ob:sc.kind= .function)(d2:pG X sc fr frn)(hg:∀b3 cE s U,PG (bF X (vars++frn) sc b3 cE s U EX) target g)(ht:∀b3 cE s U,PTs (bF X (vars++frn) sc b3 cE s U EX) ifs tc)(he:∀b3 cE s U,PE (bF X (vars++frn) sc b3 cE s U EX) elt te){t:tr}{σ:St}{R:Value->Addr->Result->Shared->Prop}{s:List Addr}{tn:Nat->Heap->Prop}{J:It}(I2:Inv X U σ H2 t)(T:Turn X.prog X.w X.K target J s it tn)(il:tn 0 t.heap)(f2:∀b∈s,sM X U H2 b)(h:LCW J g tc te vars.length fr σ H2 Q)(hR:∀D C s',HN X U σ Q D C s'->R (.ref D) C (.ok .next) s')(mu:∀D C ea s',(∃m,s'.heap.Ns C m)->(∀h',Heap.SameBut C s'.heap h'->∀cT:Env,wpAny (model X.prog X.w) X.A (PySem.passOn "comprehension.variables-let-go" (.ref ea) cT:Sem Value) (λ_ _=>False) X.xe {s' with heap:=h'})->R (.ref D) C (.error (.ref ea)) s'):
  wpAny (model X.prog X.w) X.A (newList []) (λgs b3=>wpAny (model X.prog X.w) X.A (newFunctionEnv sc X.env.globals (iU X.env sc.names) [] X.env.qual none .none (some X.env)) (λcT rt=>
   codeAny (model X.prog X.w) X.A (.compStart (.ListComp elt [#[target,iter,ifs,0]] sc pos) 0 (.ref it) gs {cT with scope:=relabel sc X.env}) (R gs cT.locals) rt) E b3) E t:=by
 have d1:∀y∈sc.names,y.2= .free->∃c,X.env.cells.lookup y.1=some c:=λy H hk=>I2.ok.has y.1 (n6 y H hk);obtain⟨W,⟨m0,w0⟩,turn⟩:=h t.heap.objs.size I2.fresh;refine Qs (si ?_);dsimp only;have I3:Inv X U σ (upd H2 t.heap.objs.size (.lst [])) {t with heap:=t.heap.push {cls:= .type Ts,data:= .seq ([]:qR).toArray}}:=I2.lnew (t':=t.toks) .nil (Pw _);generalize fy:({t with heap:=t.heap.push {cls:= .type Ts,data:= .seq ([]:qR).toArray}}:tr)=a at I3;have d6:a.heap=t.heap.push {cls:= .type Ts,data:= .seq ([]:qR).toArray}:=by rw[<-fy]
 have hsz:a.heap.objs.size=t.heap.objs.size+1:=by rw[d6,Pd]
 have pf:∀b o,t.heap.get? b=some o->a.heap.get? b=some o:=λb o e=>by rw[d6];exact NY _ e
 generalize hD:t.heap.objs.size=D at*;generalize mc:upd H2 D (.lst [])=H3 at*;have hC:(t.heap.push {cls:= .type Ts,dict:=none,data:= .seq ([]:qR).toArray}).objs.size=a.heap.objs.size:=by rw[d6]
 rw[hC];have lu:pushCells ((t.heap.push {cls:= .type Ts,dict:=none,data:= .seq ([]:qR).toArray}).push {cls:= .type TH,data:= .dict #v[]}) sc.names=pushCells (a.heap.push {cls:= .type TH,data:= .dict #v[]}) sc.names:=by rw[d6]
 rw[lu];have oi:(pushCells (a.heap.push {cls:= .type TH,data:= .dict #v[]}) sc.names).Ns a.heap.objs.size (λ_=>none):=(Heap.Ns.new a.heap (.type TH)).keeps (S6 _ _);have cm:∀b o,a.heap.get? b=some o->(pushCells (a.heap.push {cls:= .type TH,data:= .dict #v[]}) sc.names).get? b=some o:=λb o e=>S6 _ _ _ _ (NY _ e);have nv:∀ {x c},(x,c)∈cellsFrom (a.heap.objs.size+1) sc.names (iU X.env sc.names)->(x,c)∈iU X.env sc.names\/(pushCells (a.heap.push {cls:= .type TH,data:= .dict #v[]}) sc.names).IsCell c none:=λ{x c} e=>by refine vT sc.names (a.heap.push {cls:= .type TH,data:= .dict #v[]}) _ (x:=x) ?_;rw[Pd];exact e
 generalize pushCells (a.heap.push {cls:= .type TH,data:= .dict #v[]}) sc.names=ed at*;have dV:∀b∈s,b<t.heap.objs.size:=λb hb=>by obtain⟨o,e,_⟩:=T.obj _ _ il b hb;exact N6 e
 have k5:∀b∈s,b≠D:=λb hb=>by rw[<-hD];exact Oe (dV b hb)
 have hv:∀b∈s,b≠a.heap.objs.size:=λb hb=>by rw[hsz];exact Oe (Qr (hD▸dV b hb))
 have la:∀b∈s,H3 b=none:=λb hb=>by rw[<-mc,aj (k5 b hb)];exact(f2 b hb).1
 have hB:∀b∈s,b∉frs X.stack:=λb hb z=>by
  obtain⟨_,f1,hh,_⟩:=f2 b hb;rcases N1.mp (I3.stkSub b z)with e|e
  .exact f1 e
  .exact hh e
 have iv:tn 0 ed:=T.keep _ _ _ il λb hb o e=>cm b o (pf b o e);have kO:∀x c,(iU X.env sc.names).lookup x=some c->X.env.cells.lookup x=some c:=λx c e=>Md d1 e;have es:∀x c,(x,c)∈iU X.env sc.names->∃y,X.env.cells.lookup y=some c:=λx c e=>#[x,nQ d1 e];have dt:∀x c,(cellsFrom (a.heap.objs.size+1) sc.names (iU X.env sc.names)).lookup x=some c->(∃y,X.env.cells.lookup y=some c)\/(a.heap.objs.size+1<=c/\ed.IsCell c none):=λx c e=>by
  have m:=OZ e;rcases rQ _ _ _ m with h|h
  .exact .inl (es _ _ h)
  .rcases nv m with h'|h'
   .exact .inl (es _ _ h')
   .exact .inr #[h,h']
 have kE:∀y c,X.env.cells.lookup y=some c->c<a.heap.objs.size:=λy c e=>by obtain⟨v,q⟩:=I3.cell y c e;exact q.lt
 have kv:∀x y c,(cellsFrom (a.heap.objs.size+1) sc.names (iU X.env sc.names)).lookup x=some c->(cellsFrom (a.heap.objs.size+1) sc.names (iU X.env sc.names)).lookup y=some c->x=y:=λx y c M L=>by
  have h5:∀p∈iU X.env sc.names,p.2<a.heap.objs.size+1:=λp hp=>by obtain⟨y,H⟩:=es p.1 p.2 hp;exact Qr (kE y _ H)
  by_cases hc:a.heap.objs.size+1<=c
  .exact Ar (a.heap.objs.size+1) sc.names _ _ h5 (N3 _) (λx y c hx _ hc=>absurd (N7 (h5 _ hx) hc) (Pt _)) x y c (OZ M) (OZ L) hc
  .have pd:(x,c)∈iU X.env sc.names:=by
    rcases rQ _ _ _ (OZ M)with h|h
    .exact h
    .exact absurd h hc
   have pe:(y,c)∈iU X.env sc.names:=by
    rcases rQ _ _ _ (OZ L)with h|h
    .exact h
    .exact absurd h hc
   exact I3.ok.inj x y c (nQ d1 pd) (nQ d1 pe)
 generalize G:pQ X (vars++frn) sc a H3 s U=f;have pn:f.Ok:=by
  rw[<-G];show#[I3.ok.mod,ob,I3.ok.glob,I3.ok.blt,N3 _,kv,λx hx=> ?_,(λx c z e=> ?_),I3.ok.hd,I3.ok.frames, .inl rfl,
   λb hb=>#[hv b hb,λx c e z=> ?_],I3.bs,NV I3.ok.bsz I3.sz,λb o e hb=> ?_,λb hb=>hB b hb,I3.stack,I3.stkFree]
  .obtain⟨y,H,h1,h2|h2⟩:=lU hx
   .exact vS _ _ _ x (.inl #[y,H,h1,h2])
   .exact vS _ _ _ x (.inr (GI #[y,H,h1,h2]))
  .have hz:sc.names.lookup x=some .cell:=by simpa using (show(sc.names.lookup x==some NameKind.cell)=true from z)
   exact QH (Aq (a.heap.objs.size+1) sc.names _ _ x (N3 _) (.inl #[_,OZ hz,22]) c e)
  .rcases dt x c e with ⟨y,H⟩|⟨h,_⟩
   .exact(f2 b hb).2.2.2.2.1 y c H z
   .subst z;have q:=dV c hb;rw[hsz,<-hD]at h;exact Pt _ (N7 q (QH (QH h)))
  rcases(f2 b hb).2.2.2.1 with z|z
  .exact I3.ok.noex b o e z
  .exact absurd (N7 (N6 e) (NV I3.ok.bsz z)) (Pt _)
 have I4:Inv f [] (inner vars.length fr σ) H3 {t with heap:=ed}:=by
  have ox:a.os=t.os:=by rw[<-fy]
  have oa:a.gens=t.gens:=by rw[<-fy]
  show#[pn,by rw[<-G];exact ox.symm,by rw[<-oa];exact I3.bare,by rw[<-G];exact Un.kept cm,#[λ_=>none,by rw[<-G];exact oi,λi x v M L e3=> ?_],λx c e=> ?_,6,λx c e=> ?_,λp hp=> ?_,by rw[<-G];exact I3.hok.kept cm,6]
  .rw[<-G]at M e3⊢;have et:(vars++frn)[i]?=some x:=M;unfold inner at L;by_cases hi:i<vars.length
   .rw[PQ #[5,hi],S2]at L;rw[NZ hi]at L;cases L
   .rw[PH #[5,Qf hi],Q7,Ot]at L;rw[PH (Qf hi)]at et;cases ej:fr[i-vars.length]? with
    |none=>rw[ej]at L;cases L
    |some j=>
     rw[ej]at L;have dv:(σ[j]?).join=some v:=OA L;have kR:σ[j]?=some (some v):=by
      cases q:σ[j]? with
      |none=>rw[q]at dv;cases dv
      |some o=>rw[q]at dv;exact OL some dv
     obtain⟨y,h1,h2,h3,h4⟩:=d2.get ej;rw[h1]at et;cases et;obtain⟨m,hn,hl⟩:=I3.loc;obtain⟨u,r,l⟩:=hl j x v h2 kR (by rcases h3 with z|z;exact .inr (.inl z);exact .inr (.inr z));show#[u,r, .inr #[h4,6]];have hZ:∀y∈sc.names,y.1=x->y.2≠ .cell:=λy H pa o6=>by have:=O3.mp oh y H;rw[o6,pa]at this;have hm:frn.contains x=true:=List.contains_iff_mem.mpr (N5 h1);rw[hm]at this;cases this
     have n7:∃y∈sc.names,y.1=x/\y.2= .free:=by
      obtain⟨y,H,z1,z2|z2⟩:=lU h4
      .exact absurd z2 (hZ y H z1)
      .show#[y,H,z1,z2]
     obtain⟨c,hM⟩:=GI (env:=X.env) n7;have mN:(cellsFrom (a.heap.objs.size+1) sc.names (iU X.env sc.names)).lookup x=some c:=(vR sc.names _ _ x hZ).trans hM;have nq:=kO x c hM;rcases l with ⟨k,_⟩|⟨_,c',hL,nt⟩
     .rcases h3 with z|z
      .rw[z]at k;cases k
      .rw[z]at k;cases k
     .rw[nq]at hL;cases hL;show#[c,mN,nt.keeps cm]
  .rw[<-G]at e;rcases dt x c e with ⟨y,H⟩|⟨_,h⟩
   .obtain⟨v,z⟩:=I3.cell y c H;show#[v,z.keeps cm]
   .show#[_,h]
  .rw[<-G];exact I3.fresh
  .rw[<-G]at e;rcases dt x c e with ⟨y,H⟩|⟨h,_⟩
   .exact I3.freeC y c H
   .exact I3.hok.fresh (QH h)
  .rw[<-G]at hp⊢;rw[OP]at hp;obtain⟨q1,q2,q3,q4,q5⟩:=I3.pin p hp;show#[cm _ _ q1,q2,Oe (N6 q1),λz=> ?_,q5];rcases N1.mp (I3.stkSub p.1 z)with e|e
   .exact q3 e
   .exact q4 e
  .rw[<-G];show(inner vars.length fr σ).length=(vars++frn).length;unfold inner;rw[Od,Q7,My,Od,d2.len]
 have fM:∀ {H':Hp},(∀b∈s,H' b=none)->∀b∈s,sM f [] H' b:=λhn b hb=>by
  rw[<-G];obtain⟨_,f1,hh,f3,f4,f5⟩:=f2 b hb;show#[hn b hb,hv b hb,hB b hb, .inl hb,λx c e=> ?_,λp hp=> ?_]
  .rcases dt x c e with ⟨y,H⟩|⟨h,_⟩
   .exact f4 y c H
   .exact λz=>by subst z;have q:=dV c hb;rw[hsz,<-hD]at h;exact Pt _ (N7 q (QH (QH h)))
  exact f5 p (by simpa [pQ]using hp)
 have back:∀ {jn:St} {H7:Hp} {s7:tr},Inv f [] jn H7 s7->Inv X U σ H7 s7:=λ{jn H7 s7} I7=>by
  have ho:s7.os=a.os:=by have:=I7.os;rwa[<-G]at this
  have hu:Un (frs X.stack) s H3 H7 a.heap s7.heap:=by have:=I7.base;rwa[<-G]at this
  have hk:HOk X.prog X.w H7 s7.heap:=by have:=I7.hok;rwa[<-G]at this
  refine I3.call' ho hu hk I7.bare λb hb=> ?_;obtain⟨_,f1,_,f3,f4,f5⟩:=f2 b hb;show#[f3,f1,f4,f5]
 have od:f.prog=X.prog/\f.w=X.w/\f.K=X.K/\f.A=X.A/\f.calm=true/\f.env=compEnvC sc (cellsFrom (a.heap.objs.size+1) sc.names (iU X.env sc.names)) a.heap.objs.size X.env/\f.xe=(λ_ _=>False)/\f.env.locals=a.heap.objs.size:=by rw[<-G];show#[2222,hc,222]
 obtain⟨eP,ew,eK,eA,ec,eE,ex,eL⟩:=od;have n9:PG (f.wish (rH X f EX)) target g:=by rw[<-G];exact hg a H3 s U
 have oL:PTs (f.wish (rH X f EX)) ifs tc:=by rw[<-G];exact ht a H3 s U
 have n2:PE (f.wish (rH X f EX)) elt te:=by rw[<-G];exact he a H3 s U
 have e6:∀b o,X.s₀.heap.get? b=some o->b≠a.heap.objs.size:=λb o e=>Oe (N7 (N6 e) I3.sz);have hK:a.heap.objs.size∉frs X.stack:=λhm=>by
  rcases N1.mp (I3.stkSub _ hm)with z|z
  .exact absurd z (Qb I3.lt)
  .exact I3.nofs (N3 _) z
 have fc:∀ev s',rH X f EX ev s'->notedBy (model X.prog X.w) X.A f.env (λx c8=>R (.ref D) a.heap.objs.size (.error x) c8) ev s':=by
  rintro ev s' ⟨pins',r6,H1,s1,ea,cls,H',rfl,I1,Fl,q⟩;rcases hE with hE|⟨c3,hO,n4,hOut⟩
  .exact absurd q (hE _ _ _)
  obtain⟨B,a0,fl,hk,oN,ov⟩:=Fl.ex;have O:Inv X U σ H1 s1:=back (I1.pins_of (pins':=[]) λp hp=>nomatch hp);have k3:Heap.FlyingW B (X.env::X.outer) ea cls a0 s'.heap:=c3▸fl;have d2:X.A.frames=some (X.env::X.outer):=by rw[I2.ok.frames,c3]
  have n5:f.env.frame=X.env.frame:=by rw[eE];rfl
  show wpAny _ _ (noteFrame (.ref ea) f.env) _ _ s';rw[pA n5];refine S9 d2 hO k3 λh4 hP rm=> ?_;obtain⟨m,hn,_⟩:=I1.loc;rw[eL]at hn;obtain⟨oC,k1,k0,hY,rC⟩:=hn;have hH:H1 a.heap.objs.size=none:=by have:=I1.free;rwa[eL]at this
  have hG:B.get? a.heap.objs.size=some oC:=hk _ oC hY hH hK;refine mu _ _ ea _ #[m,oC,k1,k0,hP.1 _ _ hG,rC] λh' sb cT=> ?_;obtain⟨g1,g2,g3,oe,vs,Tt,oT,ts,n3,nx,nM,lp,hQ,mz,mv,n0,ly⟩:=hP;have h7:∀b,B.get? b=none->b≠a.heap.objs.size:=λb e z=>by rw[z,hG]at e;cases e
  have fe:∀b,B.get? b=none->(hideAll B [a.heap.objs.size]).get? b=none:=λb e=>by
   cases q:(hideAll B [a.heap.objs.size]).get? b with
   |none=>rfl
   |some o=>rw[Qh _ q]at e;cases e
  have fm:∀b o,B.get? b=some o->b≠a.heap.objs.size->(hideAll B [a.heap.objs.size]).get? b=some o:=λb o e z=>OT _ e #[5,z];have l1:sf (hideAll B [a.heap.objs.size]) (X.env::X.outer) ea cls a0 (rawInt X.env.locals) h':=by
   show#[λb o e=> ?_,fe _ g2,ky (C:=a.heap.objs.size) fe (λb hb=>λz=>hK (by rw[c3,<-z];exact hb)) sb g3,oe,vs,Tt,oT,ts,(sb.2 _ (h7 _ g2)).trans n3,nx,nM,lp,fe _ hQ,mz,(sb.2 _ (h7 _ hQ)).trans mv,n0,ly];have hb:b≠a.heap.objs.size:=λz=>by rw[z,Ra _ #[5]]at e;cases e
   exact(sb.2 b hb).trans (g1 b o (Qh _ e))
  refine zK l1 λr1 k4 mb rr=> ?_;have h9:∀b o,X.s₀.heap.get? b=some o->b∉X.fs->b∉frs X.stack:=λb o e hb hm=>by
   rcases N1.mp (O.stkSub b hm)with z|z
   .exact absurd z (Oe (N7 (N6 e) O.ok.above))
   .exact hb z
  have b2:∀b:Addr,b∉X.ex:=λb=>by rw[n4];exact λz=>nomatch z
  refine hOut I2.ok ea cls H' _ (hideAll B [a.heap.objs.size]) a0 k4 (Fl.os.trans O.os) Fl.bare (by rw[c3];exact mb) (λb o e n hb=> ?_) (λb o e hb=> ?_) (λb u e=> ?_) (λb o e hb=> ?_) (λb o e n=> ?_)
   (λb xs e=>Fl.tups b xs (O.base.tups b xs e)) (λb o xs e=>Fl.frzs b o xs (O.base.frzs b o xs e)) (λb ps e=> ?_) ?_ q
  .exact fm b o (hk b o (O.base.keep b o e n hb (b2 b)) (O.base.free b o e n (b2 b)) (h9 b o e hb)) (e6 b o e)
  .obtain⟨o',M⟩:=O.base.there b o e (b2 b);obtain⟨o2,L⟩:=oN b o' M (h9 b o e hb);show#[o2,fm b o2 L (e6 b o e)]
  .refine(ov b u e).stay (λc v hc r=>fm c v r λz=> ?_) (λ_ q=>q) λ_ _ q=>q;have hn:H' a.heap.objs.size=none:=Fl.free _ oC hY hH;rcases hc with y|y
   .rw[y]at z;rw[<-z,e]at hn;cases hn
   .rw[z,hn]at y;cases y
  .obtain⟨_,o',hS,nf⟩:=O.ok.funs.mem hb;rw[e]at hS;cases hS;obtain⟨sl,M⟩:=O.base.slot b o e (O.ok.frf b hb) hb (b2 b);have mA:b∈frs X.stack:=by rw[c3];unfold frs;rw[P8,hO];exact N4 _ hb
   obtain⟨r3,L⟩:=Fl.slot b _ M mA;obtain⟨r4,e3⟩:=rm b _ L nf;obtain⟨rk,e4⟩:=rr b _ ((sb.2 b (e6 b o e)).trans e3) nf;show#[rk,e4]
  .obtain⟨o',M⟩:=O.base.there b o e (b2 b);exact Fl.free b o' M (O.base.free b o e n (b2 b))
  .obtain⟨m1,M⟩:=O.base.tbls b ps e;obtain⟨m2,L⟩:=Fl.tbls b _ M;show#[m1++m2,by rw[L,Ru]]
  .cases hq:X.s₀.heap.get? ea with
   |none=>rfl
   |some o=>
    obtain⟨o',M⟩:=O.base.there ea o hq (b2 ea);rw[Fl.new]at M;cases M
 have loop:∀s4:Shared,s4={t with heap:=ed}->
   codeAny (model X.prog X.w) X.A (.compLoop (.ListComp elt [#[target,iter,ifs,0]] sc pos) 0 (.ref it) (.ref D) f.env) (R (.ref D) a.heap.objs.size) s4:=by
  rintro s4 rfl;refine codeAny_loop rfl (λn s'=>∃i dd H',Inv f [] dd H' s'/\tn i s'.heap/\(∀b∈s,H' b=none)/\W i n dd H') (λn s5 hI=> ?_) m0 #[0,_,H3,I4,iv,la,w0];obtain⟨i,ek,H5,I5,ix,hA,w5⟩:=hI;show wpAny _ X.A ((compTurn (.ListComp elt [#[target,iter,ifs,0]] sc pos) 0 (.ref it) (.ref D) f.env).onRaise (λx=>do noteFrame x f.env;theTreesLotGoes x)) _ _ s5;refine wpAny_noted ?_;rw[compTurn_list];refine NU (Qu (NU ?_));rcases turn i n ek H5 w5 with ⟨stop,q⟩|⟨go,N,hN,step⟩
  .have z:=T.done f eP ew eK ec i [] s5 ek H5 (notedBy (model X.prog X.w) X.A f.env (λx c8=>R (.ref D) a.heap.objs.size (.error x) c8)) I5 (fM hA) ix stop;rw[eA]at z;refine thn z λr s6 ⟨hr,I6⟩=> ?_;subst hr;refine N0 (hR _ _ _ #[H5,back I6,q,66,Qb I3.lt,I3.sz,λx c e z=> ?_,λp hp z=> ?_])
   .obtain⟨m,hn,_⟩:=I6.loc;rw[eL]at hn;show#[m,hn]
   .have:=I6.free;rwa[eL]at this
   .obtain⟨v,q⟩:=I3.cell x c e;exact absurd q.lt (by rw[z];exact Pt _)
   .exact absurd (N6 (I3.pin p hp).1) (by rw[z];exact Pt _)
  .have z:=T.item f eP ew eK ec i [] s5 ek H5 (notedBy (model X.prog X.w) X.A f.env (λx c8=>R (.ref D) a.heap.objs.size (.error x) c8)) I5 (fM hA) ix go;rw[eA]at z;refine thn z λr s6 ⟨u,hr,h6⟩=> ?_;subst hr;refine NU (thn h6 λ_ s7 ⟨x,H7,I7,r7,y7,fI,lb⟩=> ?_);have km:=I7.pinned (fM lb) (T.obj _ _ fI);have zg:=n9 _ s7 ek H7 x u _ (km.wish _) r7 (step x H7 y7);simp only[eP,ew,eA]at zg;refine NU (ON zg (λ_ s8 ⟨el,H8,I8,q8⟩=> ?_) fc);have I8:=I8.unwish;have zt:=oL _ s8 el H8 _ (I8.wish _) q8;simp only[eP,ew,eA]at zt;refine NU (ON zt (λok s9 ⟨H9,I9,q9⟩=> ?_) fc);have I9:=I9.unwish;have again:∀ {dh:St} {Ha:Hp} {sa:tr},Inv f ([]++qG s s7.heap) dh Ha sa->N dh Ha->∃m,m<n/\∃i dd H',Inv f [] dd H' sa/\tn i sa.heap/\(∀b∈s,H' b=none)/\W i m dd H':=λ{dh Ha sa} Ia na=>by obtain⟨m',hm,wa⟩:=hN dh Ha na;show#[m',hm,i+1,dh,Ha,Ia.unpinned,T.keep _ _ _ fI λb hb o e=>(Ia.pin (b,o) (OR _ (OR _ (iP hb e)))).1,λb hb=> ?_,wa];obtain⟨o,e,d⟩:=T.obj _ _ fI b hb;exact(Ia.pin (b,o) (OR _ (OR _ (iP hb e)))).2.1
   cases ok with
   |false=>
    rw[NW Oo]at q9;exact N0 #[2,again I9 q9]
   |true=>
    rw[NZ rfl]at q9;have ze:=n2 _ s9 el H9 _ (I9.wish _) q9;simp only[eP,ew,eA]at ze;refine NU (NU (ON ze (λy sa ⟨yv,Ha,Ia,ra,xs,oX,oc,na⟩=>NU ?_) fc));have Ia:=Ia.unwish;have zm:=cX (X:=f) _ sa el Ha (.ref D) [yv] (.ref D) [y] (λ_ Hb=>N el Hb) Ia rfl (.cons ra .nil) #[D,xs,yv,22,oX,oc,na];rw[eP,ew,eA,ex]at zm;exact ON zm (λ_ sb ⟨vb,Hb,Ib,_,nb⟩=>N0 (N0 #[2,again Ib nb])) λ_ _ z=>z.elim
 have e:({(newEnv sc a.heap.objs.size X.env.globals (cellsFrom (a.heap.objs.size+1) sc.names (iU X.env sc.names)) X.env.qual none .none (some X.env) builtinsNs)with scope:=relabel sc X.env}:Env)=f.env:=by rw[eE];rfl
 have hs:=codeAny_compStart_list (elt:=elt) (target:=target) (iter:=iter) (ifs:=ifs) (rest:=[]) (scope:=sc) (pos:=pos) (loop _ rfl) (T.self _ 0 _ _ _ iv (loop _ rfl));rwa[<-e]at hs
theorem ng{j:XK}(hE:JZ X j)(hc:X.calm=true)(ay:sc.names.all (λy=> !(y.2== .free)||(X.env.kindOf y.1==some .cell||X.env.kindOf y.1==some .free))=true)(b1:sc.names.all (λy=> !(y.2== .cell)|| !(frn.contains y.1))=true)(p:sc.kind= .function)(b0:sc.names.all (λy=> !(y.2== .local)||(sc.names.lookup y.1==some .local))=true)(az:pG X sc fr frn)(hi:PI X target iter wi)(hg:∀i f d a,PG (bF X (vars++frn) sc i f d a j) target g)(ht:∀i f d a,PTs (bF X (vars++frn) sc i f d a j) ifs tc)(he:∀i f d a,PE (bF X (vars++frn) sc i f d a j) elt te)(hs:∀x,foldedSetIterable iter X.env x=pure x:=by intro _;rfl):PE X (.ListComp elt [#[target,iter,ifs,0]] sc pos) (tLC wi g tc te vars.length fr):=by
 intro a s r H Q I h;have n:=Ks ay;have bN:=Ko b0;rw[eval_ListComp];have ax:∀y∈sc.names,y.2= .free->∃c,X.env.cells.lookup y.1=some c:=λy hy hk=>I.ok.has y.1 (n y hy hk);refine wpAny_comprehension_free (use:=none) rfl hs (kB ax) p bN (thn (hi a s r H _ I h) λv s1 G=>thn G λcm s2 K=> ?_);obtain⟨it,d,tn,J,H2,e,u,T,b6,f2,q⟩:=K;subst e;refine oV (R:=λz C=>compPost (model X.prog X.w) X.A X.xe none (EP X a r Q) z C) hE hc n b1 p az hg ht he u T b6 f2 q (λD C s' hb=> ?_) λD C ea s' ⟨m,k⟩ hh=>#[m,k,λh' l B _=>hh h' l B];obtain⟨H',t,q',⟨m,k⟩,N,L,U,M,O⟩:=hb;show#[m,k,λh' l=>#[.ref D,H',62,q']];exact t.turned (t':=s'.toks) (λb o hb e=>(l.2 b hb).trans e) N L (.inr U) M O
theorem tE{n:XK}{i:Nat}{x:Str}{j L:Pos}(hN:X.N.Nodup)(b7:X.N[i]?=some x)(hx:X.env.kindOf x=some .local)(hE:JZ X n)(hc:X.calm=true)(b2:sc.names.all (λy=> !(y.2== .free)||(X.env.kindOf y.1==some .cell||X.env.kindOf y.1==some .free))=true)(cv:sc.names.all (λy=> !(y.2== .cell)|| !(frn.contains y.1))=true)(K:sc.kind= .function)(ct:sc.names.all (λy=> !(y.2== .local)||(sc.names.lookup y.1==some .local))=true)(b3:pG X sc fr frn)(hi:PI X target iter wi)(hg:∀l k f d,PG (bF X (vars++frn) sc l k f d n) target g)(ht:∀l k f d,PTs (bF X (vars++frn) sc l k f d n) ifs tc)(he:∀l k f d,PE (bF X (vars++frn) sc l k f d n) elt te)(c1:swapsWith (.ListComp elt [#[target,iter,ifs,0]] sc pos) (some (.Name x j)) L.line X.env=pure true:=by rfl)(hs:∀x,foldedSetIterable iter X.env x=pure x:=by intro _;rfl):PS X (.Assign [.Name x j] (.ListComp elt [#[target,iter,ifs,0]] sc pos) L) (Er (tLC wi g tc te vars.length fr) (bK i)):=by
 intro d s σ H p I h;have G:=Ks b2;have cm:=Ko ct;rw[exec_Assign_Name_used _ _ _ _ c1];have b1:∀y∈sc.names,y.2= .free->∃c,X.env.cells.lookup y.1=some c:=λy hy hk=>I.ok.has y.1 (G y hy hk);refine NU (Qu (NU ?_));show wpAny _ X.A (do let _<-comprehension (.ListComp elt [#[target,iter,ifs,0]] sc pos) sc X.env _ (newList []) false (eval iter X.env) (some (assign (.Name x j) X.env))) _ _ s;refine NU (thn (Q:=λ_ s'=>SP X d p .next s') (wpAny_comprehension_free (use:=some (assign (.Name x j) X.env)) (Q:=λ_ s'=>SP X d p .next s') rfl hs (kB b1) K cm (thn (hi d s σ H _ I h) λv s1 h1=>thn h1 λdp s2 h2=> ?_)) λ_ s' hq=>N0 (N0 hq));obtain⟨it,f,tn,J,H2,e,O,T,dd,f2,q⟩:=h2;subst e;refine oV (R:=λU C=>compPost (model X.prog X.w) X.A X.xe (some (assign (.Name x j) X.env)) (λ_ s'=>SP X d p .next s') U C) hE hc G cv K b3 hg ht he O T dd f2 q (λD C s' hb=> ?_) λD C ea s' ⟨m,r⟩ hh=>#[m,r,λh' t ab _=>hh h' t ab];obtain⟨H',M,q',⟨m,r⟩,ax,u,az,B,ay⟩:=hb;show wpAny _ X.A (assign (.Name x j) X.env (.ref D)) _ _ s';refine wpAny_assign_Name (sT M hN b7 (.inl hx) (v:= .ref D) rfl (λs3 I3 cT=> ?_) (.inr hx));obtain⟨a,sb,ha⟩:=cT;have bp:C≠a:=by
  rcases ha with e|e
  .rw[e];exact u
  .exact λz=>B x a e z.symm
 show#[m,r.sameBut sb bp,λh' t=>#[_,H',6,q']];exact I3.turned (t':=s3.toks) (λb o hb e=>(t.2 b hb).trans e) ax u (.inr az) B ay
end
section
variable{X:Cx}{elt target iter:Expr}{ifs:q7}{sc:Scope}{pos:Pos}{wi:TI}{g:TG}{tc:TT}{te:TE}
theorem wnY(i:Nat){x:Str}{N a:r9}{e:tr}{b:Hp}{c:List Addr}{d:js}(f:(N++a).Nodup:=by decide+kernel)(j:(N++a)[i]?=some x:=by rfl)(hx:Loc (bF X (N++a) sc e b c d E0).env.scope x:=by first|exact PR rfl|exact Or.inr rfl)(h:(bF X (N++a) sc e b c d E0).fn x=true\/(bF X (N++a) sc e b c d E0).env.scope.names.lookup x=some .local:=by first|exact .inl rfl|exact .inr rfl|assumption):PG (bF X (N++a) sc e b c d E0) (.Name x pos) (bK i):=gu f j hx h
theorem dr(vars frn:r9)(fr:sk)(k:PI X target iter wi)(j:∀ {d a b c},PG (bF X (vars++frn) sc d a b c E0) target g)(p:∀ {d a b c},PTs (bF X (vars++frn) sc d a b c E0) ifs tc)(f:∀ {d a b c},PE (bF X (vars++frn) sc d a b c E0) elt te)(e:X.calm=true:=by rfl)(h:sc.names.all (λy=> !(y.2== .free)||(X.env.kindOf y.1==some .cell||X.env.kindOf y.1==some .free))=true:=by rfl)(n:sc.names.all (λy=> !(y.2== .cell)|| !(frn.contains y.1))=true:=by rfl)(l:sc.kind= .function:=by rfl)(m:sc.names.all (λy=> !(y.2== .local)||(sc.names.lookup y.1==some .local))=true:=by rfl)(i:pG X sc fr frn:=by repeat (first|exact Og|refine⟨⟨⋯,PR ⋯,PR ⋯⟩,?_⟩))(o:∀x,foldedSetIterable iter X.env x=pure x:=by intro _;rfl):PE X (.ListComp elt [#[target,iter,ifs,0]] sc pos) (tLC wi g tc te vars.length fr):=ng Kn e h n l m i k (λ_ _ _ _=>j) (λ_ _ _ _=>p) (λ_ _ _ _=>f) o
theorem Mj(i:Nat){x:Str}{e f:Pos}(h:X.N.Nodup)(vars frn:r9)(fr:sk)(o:PI X target iter wi)(n:∀ {d a b c},PG (bF X (vars++frn) sc d a b c E0) target g)(v:∀ {d a b c},PTs (bF X (vars++frn) sc d a b c E0) ifs tc)(k:∀ {d a b c},PE (bF X (vars++frn) sc d a b c E0) elt te)(p:X.N[i]?=some x:=by rfl)(hx:X.env.kindOf x=some .local:=by rfl)(j:X.calm=true:=by rfl)(l:sc.names.all (λy=> !(y.2== .free)||(X.env.kindOf y.1==some .cell||X.env.kindOf y.1==some .free))=true:=by rfl)(s:sc.names.all (λy=> !(y.2== .cell)|| !(frn.contains y.1))=true:=by rfl)(q:sc.kind= .function:=by rfl)(r:sc.names.all (λy=> !(y.2== .local)||(sc.names.lookup y.1==some .local))=true:=by rfl)(m:pG X sc fr frn:=by repeat (first|exact Og|refine⟨⟨⋯,PR ⋯,PR ⋯⟩,?_⟩))(u:swapsWith (.ListComp elt [#[target,iter,ifs,0]] sc pos) (some (.Name x e)) f.line X.env=pure true:=by rfl)(t:∀x,foldedSetIterable iter X.env x=pure x:=by intro _;rfl):PS X (.Assign [.Name x e] (.ListComp elt [#[target,iter,ifs,0]] sc pos) f) (Er (tLC wi g tc te vars.length fr) (bK i)):=tE h p hx Kn j l s q r m o (λ_ _ _ _=>n) (λ_ _ _ _=>v) (λ_ _ _ _=>k) u t
end
section
variable{X:Cx}{e d c:Expr}{te td tc:TE}{pos:Pos}
theorem pa1(b:PE X e te)(a:starEach [e] X.env=(false,eval e X.env)::starEach [] X.env:=by rfl):PA X [e] (sS te wB):=ai b aN a
theorem pa2(f:PE X e te)(hb:PE X d td)(a:starEach [e,d] X.env=(false,eval e X.env)::starEach [d] X.env:=by rfl)(b:starEach [d] X.env=(false,eval d X.env)::starEach [] X.env:=by rfl):PA X [e,d] (sS te (sS td wB)):=ai f (pa1 hb b) a
theorem sret(a:PE X e te):PSs X [.Return (some e) pos] (Mq te):=au (EY a)
end
end L2
namespace Bh
open PySem PySem.NumText
def vJ:List Nat:=[48,49,50,51,52,53,54,55,56,57]
theorem Bu:c∈vJ↔48<=c/\c<=57:=by unfold vJ;simp only[N1,PF,Rg];omega
def eR(L:sk):Bool:= !L.isEmpty&&L.all (λc=>decide (c∈vJ))&&(decide (L=[48])|| !decide (L.head?=some 48))
def decs(k:Nat):List Nat:=(Nat.toDigits 10 k).map Char.toNat
theorem dD(h:k<10):decs k=[48+k]:=by unfold decs;rw[Nat.toDigits_of_lt_base h,OI,SQ,Nat.toNat_digitChar_of_lt_ten h]
theorem nO(h:10<=k):decs k=decs (k/10)++[48+k % 10]:=by have a:k % 10<10:=Th k ∅;have t:Nat.toDigits 10 (k/10)++Nat.toDigits 10 (k % 10)=Nat.toDigits 10 (10*(k/10)+k % 10):=Nat.toDigits_append_toDigits ∅ () a;rw[Nat.div_add_mod]at t;rw[show decs k=(Nat.toDigits 10 k).map Char.toNat from rfl,<-t,O1];exact OL (decs (k/10)++ ·) (dD a)
theorem yb(k:Nat):digitsVal (decs k)=k:=PySem.W.KIN.val_back k
theorem jO{L:sk}:eR L=true↔L≠[]/\AllDigits L/\(L=[48]\/L.head?≠some 48):=by
 unfold eR;rw[Oz,Oz,Rr,O3,OB,Pb,Pb,Pl];constructor
 .rintro⟨⟨b,d⟩,f⟩;show#[λe=>by rw[e]at b;exact absurd b ∅,λc g=>Bu.mp (Ov (d c g)),f]
 .rintro⟨b,d,f⟩;show#[#[6,λc g=>N2 (Bu.mpr (d c g))],f];cases L with
  |nil=>exact absurd rfl b
  |cons a l=>rfl
theorem oU(k:Nat):AllDigits (decs k):=by
 induction k using Nat.strongRecOn with
 |_ k b=>
  by_cases h:k<10
  .rw[dD h];intro c a;have:c=48+k:=#[5,a]
   lia
  .rw[nO ()];intro c a;rcases OS.mp a with a|a
   .exact b (k/10) () c a
   .have:c=48+k % 10:=#[5,a]
    lia
theorem ug(k:Nat):(decs k).head?≠none/\(0<k->(decs k).head?≠some 48):=by
 induction k using Nat.strongRecOn with
 |_ k d=>
  by_cases h:k<10
  .rw[dD h];show#[#[5],λh0=> ?_];intro e;have:48+k=48:=#[5,e]
   lia
  .obtain⟨b,c⟩:=d (k/10) ();have e:(decs k).head?=(decs (k/10)).head?:=by
    rw[nO ()];cases q:decs (k/10)with
    |nil=>rw[q]at b;exact absurd rfl b
    |cons a l=>rfl
   rw[e];show#[b,λ_=>c ()]
theorem yc(k:Nat):eR (decs k)=true:=by
 refine jO.mpr #[λe=> ?_,oU k,6]
 .have:=(ug k).1;rw[e]at this;exact this rfl
 .by_cases h:k=0
  .subst h;exact .inl (dD ∅)
  .exact .inr ((ug k).2 ())
theorem i8(l:sk)(c:Nat):digitsVal (l++[c])=digitsVal l*10+(c-48):=by unfold digitsVal;rw[Q5];rfl
theorem BF:∀(n:Nat)(L:sk),L.length=n->L≠[]->AllDigits L->L.head?≠some 48->decs (digitsVal L)=L/\0<digitsVal L
 |0,L,g,b,_,_=>absurd (Pn.mp g) b
 |n+1,L,g,b,h,i=>by
  obtain⟨M,c,rfl⟩:∃M c,L=M++[c]:=#[L.dropLast,L.getLast b,(Sh b).symm];have p:=h c (OR _ (Oj.mpr rfl));rw[i8];by_cases f:M=[]
  .subst f;have c0:c≠48:=λe=>i (by rw[e];rfl);show decs (0*10+(c-48))=[c]/\_;rw[dD ()];show#[by rw[show 48+(0*10+(c-48))=c by lia],by show 0<0*10+(c-48);lia]
  .have k:M.head?≠some 48:=λe=>i (by
    cases M with
    |nil=>exact absurd rfl f
    |cons a l=>exact e)
   obtain⟨j,o⟩:=BF n M (by rw[Od,Q8]at g;lia) f (λd m=>h d (Rb _ m)) k;show#[69];rw[nO (),show(digitsVal M*10+(c-48)) /10=digitsVal M by lia,j,show 48+(digitsVal M*10+(c-48)) % 10=c by lia]
theorem yi(h:eR L=true):decs (digitsVal L)=L:=by
 obtain⟨b,c,a⟩:=jO.mp h;rcases a with rfl|a
 .exact dD ∅
 .exact(BF _ L rfl b c a).1
theorem JT(h:eR L=true):digitsVal L=0↔L=[48]:=by
 constructor
 .intro e;rw[<-yi h,e];exact dD ∅
 .rintro rfl;rfl
theorem vL:∀L:List Nat,AllDigits L->digitsVal L<10^L.length:=by
 intro L
 induction a:L.length generalizing L with
 |zero=>
  intro _;rw[Pn.mp a];decide
 |succ n h=>
  intro b;have f:L≠[]:=λe=>by rw[e]at a;cases a
  obtain⟨M,c,rfl⟩:∃M c,L=M++[c]:=#[L.dropLast,L.getLast f,(Sh f).symm];have i:=b c (OR _ (Oj.mpr rfl));have:=h M (by rw[Od,Q8]at a;lia) λd g=>b d (Rb _ g);rw[i8,Nat.pow_succ];lia
def bj(most:Nat)(L:sk):Option Nat:=if eR L=true/\digitsVal L<=most then some (digitsVal L)else none
theorem jN:bj most L=some k↔k<=most/\L=decs k:=by
 unfold bj;constructor
 .intro h;by_cases c:eR L=true/\digitsVal L<=most
  .rw[NZ c]at h;cases h;show#[c.2,(yi c.1).symm]
  .rw[NW c]at h;cases h
 .rintro⟨a,rfl⟩;rw[yb,NZ #[yc k,a]]
theorem fF(h:bj most L=some k):k<=most:=(jN.mp h).1
def de(L:sk):Bool:=if L.head?=some 45 then eR L.tail&& !decide (L.tail=[48])else eR L
def xO(L:sk):Int:=if L.head?=some 45 then-(digitsVal L.tail:Nat)else(digitsVal L:Nat)
def uu(L:sk):Prop:=L.length<=60\/(L.head?=some 45/\L.length<=61)
theorem uu.len{L:sk}(h:uu L):L.length<=61:=by
 rcases h with h|h
 .lia
 .exact h.2
theorem IJ:(10:Nat)^60<2^200:=#[9]
theorem F4(h:de L=true)(a:uu L):(xO L).natAbs<2^200:=by
 unfold de at h;unfold xO;have key:∀M:List Nat,eR M=true->M.length<=60->digitsVal M<2^200:=λM b hl=>
  N7 (vL M (jO.mp b).2.1) (NV (OG ∅ hl) (Qa IJ))
 by_cases c:L.head?=some 45
 .rw[NZ c]at h⊢;rw[Oz]at h;have:=key L.tail h.1 (by have:=a.len;rw[List.length_tail];lia);lia
 .rw[NW c]at h⊢;have:=key L h (by
   rcases a with a|a
   .exact a
   .exact absurd a.1 c)
  lia
abbrev cp(z:Str):List Nat:=z.cps.toList
def pZ:List Nat:=(List.range 26).map (97+ ·)
def a9(L:sk):Bool:= !L.isEmpty&&L.all (λc=>decide (c∈pZ))&&decide (L.length<=8)
def dJ(n:Nat)(L:sk):Bool:=decide (jf (rdN L)=L)&&decide (rdN L<2^n)
theorem By(L:sk):Ag (rdN L)=(List.range 8).filter λk=>decide (97+k∈L):=by unfold Ag;refine List.filter_congr λk a=> ?_;unfold rdN;rw[qX _ (OQ.mp a)]
theorem tm(c:n<=8)(p:Nat->Bool)(h:∀k,n<=k->k<8->p k=false):(List.range 8).filter p=(List.range n).filter p:=by
 have e:List.range 8=List.range n++(List.range (8-n)).map (n+ ·):=by rw[<-List.range_add];exact OL List.range ()
 rw[e,P0,(RJ (l:=(List.range (8-n)).map (n+ ·))).mpr,OP];intro k b;obtain⟨j,a,rfl⟩:=Of.mp b;have:=OQ.mp a;rw[h (n+j) () ()];decide
theorem EL(m:n<=8)(L:sk):dJ n L=(decide (L=[45])||(!decide (L=[])&&decide ((((List.range n).map (97+ ·)).filter λc=>decide (c∈L))=L))):=by
 have o:(((List.range n).map (97+ ·)).filter λc=>decide (c∈L))=((List.range n).filter λk=>decide (97+k∈L)).map (97+ ·):=by rw[Rt];rfl
 rw[o,O8];unfold dJ;rw[Oz,OB,OB,Rr,Oz,Pb,OB,Pl,OB];have h:∀k,k<8->(rdN L).testBit k=decide (97+k∈L):=λk f=>by unfold rdN;rw[qX _ f]
 constructor
 .rintro⟨a,b⟩;unfold jf at a;by_cases h0:rdN L=0
  .rw[NZ h0]at a;exact .inl a.symm
  .rw[NW h0]at a;refine .inr #[λe=>h0 (by rw[e];exact Iy),6];rw[<-tm m,<-By]
   .exact a
   .intro k f d;rw[<-h k d];exact Qc (N7 b (OG ∅ f))
 .rintro(rfl|⟨a,b⟩)
  .rw[ER];show#[2,QO ∅]
  .have no:∀k,n<=k->k<8->decide (97+k∈L)=false:=λk f _=>NX λl=>by rw[<-b]at l;obtain⟨j,q,e⟩:=Of.mp l;have:=OQ.mp (Pp.mp q).1;lia
   have g:Ag (rdN L)=(List.range n).filter λk=>decide (97+k∈L):=by rw[By,tm m _ no]
   have h0:rdN L≠0:=λe=>by rw[e]at g;rw[<-g]at b;exact a (b.symm.trans ∅)
   show#[66]
   .unfold jf;rw[NW h0,g];exact b
   .refine SM _ λi p=> ?_;by_cases d:i<8
    .rw[h i d];exact no i p d
    .exact Qc (N7 (qA L) (OG (n:=2) ∅ (show 8<=i by lia)))
theorem Iu(h:dJ n L=true):rdN L<2^n:=by unfold dJ at h;rw[Oz]at h;exact Ov h.2
def ja(p:Nat)(L:sk):Bool:=decide (L.length=2)&&L.all (λc=>decide (48<=c/\c<48+p))
def nopr:List Nat:=[0,2,3,5,7,11,13,17,19,23,29,31,37,41,43,47,53,59,61,67,71,73,79,83,89,97]
def i3(n m:Nat):Bool:=if n=0 then decide (m=0)else decide (m % n=0)&&decide (m<=8*n)
def kA:List Str->Bool
 | [a,b]=>match bj 8 (cp a)with
  |some n=>(bj n (cp b)).isSome
  |none=>false
 |_=>false
def kf:List Str->Bool
 |a::r=>match bj 8 (cp a)with
  |some n=>r.all λx=>dJ n (cp x)
  |none=>false
 | []=>false
def sE:List Str->Bool
 |a::r=>decide (r.length<=8)&&match bj 9 (cp a)with
  |some p=>r.all λx=>ja p (cp x)
  |none=>false
 | []=>false
def fK:List Str->Bool
 |a::b::r=>(eR (cp a)&&decide (digitsVal (cp a)∈nopr))&&match bj 8 (cp b)with
  |some n=>(r.all λx=>de (cp x))&&i3 n r.length
  |none=>false
 |_=>false
def cw:List Str->Bool
 | [a]=>a9 (cp a)
 |_=>false
def i9:List Str->Bool
 | [a,b]=>a9 (cp a)&&a9 (cp b)
 |_=>false
def eQ:List Str->Bool
 | [a,b]=>a9 (cp a)&&dJ 8 (cp b)
 |_=>false
def rD:List Str->Bool
 |a::r=>a9 (cp a)&&r.all λx=>de (cp x)
 | []=>false
def fq(r:r9):Bool:=decide (r.length<=9)&&rD r
def eU(r:r9):Bool:=decide (r.length=3)&&rD r
def lnM(v:Str)(r:r9):Nat:=
 if v= Ui then(if kA r=true then 2 else 0)else if v= Uv then(if sE r=true then 2 else 0)else if v= T5 then(if fK r=true then 2 else 0)
 else if v= TX\/v= TY\/v= TZ then(if kf r=true then 3 else 0)
 else if v= Up then(if cw r=true then 1 else 0)else if v= "side" then(if i9 r=true then 1 else 0)
 else if v= "out"\/v= Uu then(if eQ r=true then 1 else 0)else 0
def fv:List Str:=[TX,TY,TZ,"frees","two","three","all","counts"]
def lnA(v:Str)(r:r9):Nat:=
 if v∈fv then(if cw r=true then 1 else 0)else if v= T4 then(if fq r=true then 1 else 0)else if v= Ut then(if eU r=true then 1 else 0)
 else if v= Ug\/v= Um then(if eQ r=true then 1 else 0)else if v= "same"\/v= Us then(if i9 r=true then 1 else 0)else 0
def lnW(ws:r9):Nat:=
 if 2<ws.length/\ws.getD 1 ""= "=" then(if a9 (cp (ws.getD 0 ""))=true then lnM (ws.getD 2 "") (ws.drop 3)else 0)else lnA (ws.getD 0 "") (ws.drop 1)
theorem Br:eR (cp "")=false:=∅
theorem mf(m:Nat):bj m (cp "")=none:=by unfold bj;rw[Br,NW λh=>nomatch h.1]
theorem Bq:de (cp "")=false:=∅
theorem gY:a9 (cp "")=false:=∅
theorem Bp(n:Nat):dJ n (cp "")=false:=by unfold dJ;rw[show decide (jf (rdN (cp ""))=cp "")=false by decide+kernel];rfl
theorem Jf(n:Nat):ja n (cp "")=false:=rfl
theorem j3{r:r9}(h:("":Str)∈r)(a:p ""=false):r.all p=false:=by rw[RE];show#["",h,by rw[a];decide]
theorem Fv(h:("":Str)∈r):kA r=false:=by
 unfold kA;split
 .rename_i a b;rcases N1.mp h with e|h
  .rw[<-e,mf]
  .rw[<-Oj.mp h];split
   .rw[mf];rfl
   .rfl
 .rfl
theorem Ft(h:("":Str)∈r):kf r=false:=by
 unfold kf;split
 .rename_i a r;rcases N1.mp h with e|h
  .rw[<-e,mf]
  .split
   .exact j3 h (Bp _)
   .rfl
 .rfl
theorem Jg(h:("":Str)∈r):sE r=false:=by
 unfold sE;split
 .rename_i a r;rcases N1.mp h with e|h
  .rw[<-e,mf,OM]
  .split
   .rw[j3 h (Jf _),OM]
   .rw[OM]
 .rfl
theorem C0(h:("":Str)∈r):fK r=false:=by
 unfold fK;split
 .rename_i a b r;rcases N1.mp h with e|h
  .rw[<-e,Br];rfl
  .rcases N1.mp h with e|h
   .rw[<-e,mf,OM]
   .split
    .rw[j3 h Bq,Rz,OM]
    .rw[OM]
 .rfl
theorem tQ(h:("":Str)∈r):cw r=false:=by
 unfold cw;split
 .rw[<-Oj.mp h];exact gY
 .rfl
theorem Bo(h:("":Str)∈r):i9 r=false:=by
 unfold i9;split
 .rcases N1.mp h with e|h
  .rw[<-e,gY];rfl
  .rw[<-Oj.mp h,gY,OM]
 .rfl
theorem xv(h:("":Str)∈r):eQ r=false:=by
 unfold eQ;split
 .rcases N1.mp h with e|h
  .rw[<-e,gY];rfl
  .rw[<-Oj.mp h,Bp,OM]
 .rfl
theorem Fu(h:("":Str)∈r):rD r=false:=by
 unfold rD;split
 .rcases N1.mp h with e|h
  .rw[<-e,gY];rfl
  .rw[j3 h Bq,OM]
 .rfl
theorem Jh(h:("":Str)∈r):lnM v r=0:=by unfold lnM;rw[Fv h,Jg h,C0 h,Ft h,tQ h,Bo h,xv h];simp
theorem Ji(h:("":Str)∈r):lnA v r=0:=by unfold lnA fq eU;rw[tQ h,Fu h,xv h,Bo h];simp
theorem CY:lnM "" r=0:=by unfold lnM;rw[NW ∅,NW ∅,NW ∅,NW ∅,NW ∅,NW ∅,NW ∅]
theorem CZ:lnA "" r=0:=by unfold lnA;rw[NW ∅,NW ∅,NW ∅,NW ∅,NW ∅]
theorem Jj(h:("":Str)∈ws):lnW ws=0:=by
 unfold lnW;by_cases c:2<ws.length/\ws.getD 1 ""= "="
 .rw[NZ c];obtain⟨hl,f⟩:=c
  match ws,hl,f,h with
  |a::b::d::r,_,f,h=>
   have g:b= "=":=f;show(if a9 (cp a)=true then lnM d r else 0)=0;rcases N1.mp h with e|h
   .rw[<-e,gY];rfl
   rcases N1.mp h with e|h
   .rw[<-e]at g;exact absurd g ∅
   rcases N1.mp h with e|h
   .rw[<-e,CY];split<;>rfl
   .rw[Jh h];split<;>rfl
 .rw[NW c];cases ws with
  |nil=>exact absurd h #[5]
  |cons a r=>
   show lnA a r=0;rcases N1.mp h with e|h
   .rw[<-e];exact CZ
   .exact Ji h
end Bh
namespace L2
open PySem PySem.Spec PyProof.Rows
theorem og(B:Nat):∀(ts:r9)(k:Nat)(a:Str),(∀t∈ts,t.length<=B)->(textFrom k a ts).length<=a.length+ts.length*(B+2)
 | [],k,a,_=>by show a.length<=a.length+0*(B+2);lia
 |t::r,k,a,h=>by
  have c:=h t N8;have b:=og B r (k+1) (a++(if k>0 then ", " else "":tT)++t) λx hx=>h x (N4 _ hx);have e:(((if k>0 then ", " else "":tT):Str)).length<=2:=by split<;>decide
  rw[Po,Po]at b;show(textFrom (k+1) (a++(if k>0 then ", " else "":tT)++t) r).length<=_;rw[Oa,Nat.succ_mul];lia
theorem oO(B:Nat)(ts:r9)(h:∀t∈ts,t.length<=B):(listText ts).length<=ts.length*(B+2)+2:=by have:=og B ts 0 "[" h;unfold listText;rw[Po];have a:((("[":tT):Str)).length=1:=rfl;have b:((("]":tT):Str)).length=1:=rfl;rw[a]at this;rw[b];lia
theorem qa:∀ws:List Str,PyData.shownAll (ws.map PyData.str)=ws.map reprText/\PyData.showableAll (ws.map PyData.str)=true/\nU (ws.map V.str) (ws.map PyData.str)
 | []=>#[by simp[PyData.shownAll],by simp[PyData.showableAll],trivial]
 |z::r=>by obtain⟨a,b,c⟩:=qa r;show#[by simp[PyData.shownAll,PyData.shown,a],by simp[PyData.showableAll,PyData.showable,b],2,c]
theorem qb:∀a:List Int,(∀z∈a,z.natAbs.log2<1920)->PyData.shownAll (a.map PyData.int)=a.map (λz=>((toString z:tT):Str))/\PyData.showableAll (a.map PyData.int)=true/\nU (a.map V.int) (a.map PyData.int)
 | [],_=>#[by simp[PyData.shownAll],by simp[PyData.showableAll],trivial]
 |z::r,h=>by obtain⟨b,c,d⟩:=qb r λy e=>h y (N4 _ e);have:=h z N8;show#[by simp[PyData.shownAll,PyData.shown,b],by simp[PyData.showableAll,PyData.showable,c,this],2,d]
theorem zo{K:Frag}{ws:r9}(g:SqL K H a (ws.map V.str))(hl:ws.length<=3000)(i:∀z∈ws,(reprText z).length<=2000):oZ K H (.ref a):=by
 obtain⟨c,d,f⟩:=qa ws;refine .inr #[a,17,g,f,by simpa [PyData.showable]using d,6];have e:(PyData.list (ws.map PyData.str)).shown=listText (ws.map reprText):=by simp only[PyData.shown,c]
 rw[e];have:=oO 2000 (ws.map reprText) λt h=>by obtain⟨z,hz,rfl⟩:=Of.mp h;exact i z hz
 rw[My]at this;have b:(2:Nat)^23=8388608:=∅
 rw[b];lia
theorem md(z:Int):((toString z:tT):Str).cps.toList=if z<0 then 45::(Nat.toDigits 10 z.natAbs).map Char.toNat else(Nat.toDigits 10 z.natAbs).map Char.toNat:=by
 rw[signs_ofString,Int.toString_eq_repr];cases z with
 |ofNat m=>
  rw[NW (by have:=Pc m;simp)];show(Nat.repr m).toList.map Char.toNat=_;rw[Nat.toList_repr];rfl
 |negSucc m=>
  rw[NZ (Int.negSucc_lt_zero m)];show("-"++Nat.repr (m+1)).toList.map Char.toNat=_;rw[String.toList_append,O1,Nat.toList_repr];rfl
theorem vA{z:Int}(a:0<k)(h:z.natAbs<10^k):((toString z:tT):Str).length<=k+1:=by
 have e:((toString z:tT):Str).cps.toList.length=((toString z:tT):Str).length:=Ou;have c:=(Sv (b:=10) (n:=z.natAbs) ∅ a).mpr h;rw[<-e,md];split
 .rw[Oa,My];lia
 .rw[My];lia
theorem tN(z:Int):∀c∈((toString z:tT):Str).cps.toList,c<128:=by
 have key:∀c∈(Nat.toDigits 10 z.natAbs).map Char.toNat,c<128:=λc a=>by obtain⟨ch,b,rfl⟩:=Of.mp a;have:=digit_range (Sm ∅ ∅ b);lia
 intro c a;rw[md]at a;split at a
 .rcases N1.mp a with rfl|a
  .decide
  .exact key c a
 .exact key c a
theorem zp{K:Frag}{b:sv}(i:SqL K H a (b.map V.int))(hl:b.length<=3000)(hz:∀z∈b,z.natAbs<2^200):oZ K H (.ref a):=by
 obtain⟨d,f,g⟩:=qb b λz h=>by
  have:=hz z h;by_cases e:z.natAbs=0
  .rw[e];decide
  .exact PJ ((RI e).mpr this) ∅
 refine .inr #[a,17,i,g,by simpa [PyData.showable]using f,6];have e:(PyData.list (b.map PyData.int)).shown=listText (b.map λz=>((toString z:tT):Str)):=by simp only[PyData.shown,d]
 rw[e];have:=oO 62 (b.map λz=>((toString z:tT):Str)) λt j=>by obtain⟨z,k,rfl⟩:=Of.mp j;exact vA ∅ (N7 (hz z k) (by decide+kernel:2^200<=10^61))
 rw[My]at this;have c:(2:Nat)^23=8388608:=∅
 rw[c];lia
end L2
namespace BhK
def top(i:Nat):PySem.Stmt:=PySem.Challenge.pw_basehouse_k60_lines_read.main.body.getD i (.Pass #[0,0,0,0])
abbrev uW:=top 1
abbrev qk:=top 2
abbrev zx:=top 3
abbrev qm:=top 4
abbrev qf:=top 5
abbrev uV:=top 6
abbrev tf:=top 7
abbrev wQ:=top 8
abbrev qy:=top 9
abbrev zC:=top 10
abbrev qr:=top 12
abbrev jo:=top 13
abbrev fP:=top 14
abbrev fS:=top 15
abbrev iD:=top 16
abbrev fL:=top 17
abbrev cG:=top 18
abbrev fQ:=top 19
abbrev c7:=top 20
abbrev iC:=top 21
abbrev dN:=top 22
abbrev fR:=top 23
abbrev iu:=top 36
abbrev A9:=top 37
abbrev uX:=top 38
abbrev uY:=top 39
abbrev sV:=top 40
abbrev A8:=top 41
abbrev sW:=top 42
abbrev Bb:=top 43
abbrev wW:=top 44
abbrev qo:=top 45
abbrev d8:=top 46
abbrev kL:=top 47
abbrev kJ:=top 48
abbrev mW:=top 49
abbrev kK:=top 50
abbrev wV:=top 52
abbrev sX:=top 63
abbrev sY:=top 64
abbrev qv:=top 65
abbrev sU:=top 66
abbrev uU:=top 68
abbrev gD:=top 69
abbrev mX:=top 70
abbrev gG:=top 71
abbrev mR:=top 72
abbrev jq:=top 75
abbrev EN:=top 76
abbrev lO:=top 77
abbrev wR:=top 78
abbrev oy:=top 79
abbrev kj:=top 80
abbrev ow:=top 81
abbrev qp:=top 82
abbrev lK:=top 83
abbrev qq:=top 84
abbrev uT:=top 88
abbrev zy:=top 89
abbrev oz:=top 90
abbrev zA:=top 98
abbrev mU:=top 99
abbrev mT:=top 100
abbrev jk:=top 101
abbrev fO:=top 102
abbrev jg:=top 103
abbrev iw:=top 104
abbrev qj:=top 105
abbrev mQ:=top 106
abbrev ji:=top 107
abbrev jh:=top 108
abbrev kI:=top 109
abbrev iz:=top 110
abbrev iA:=top 111
abbrev dM:=top 112
abbrev cP:=top 113
abbrev b9:=top 114
abbrev fN:=top 115
abbrev iy:=top 116
abbrev gE:=top 119
abbrev gF:=top 120
abbrev mV:=top 121
abbrev zv:=top 123
abbrev Ba:=top 126
abbrev A7:=top 127
abbrev EM:=top 128
abbrev ql:=top 129
abbrev lJ:=top 130
abbrev A6:=top 131
abbrev wU:=top 132
abbrev qw:=top 136
abbrev Ke:=top 138
abbrev sZ:=top 139
abbrev jm:=top 140
abbrev eZ:=top 141
abbrev eX:=top 142
abbrev eY:=top 143
abbrev kM:=top 144
abbrev iB:=top 145
abbrev lL:=top 146
abbrev qt:=top 147
abbrev lM:=top 148
abbrev oB:=top 149
abbrev oA:=top 150
abbrev oq:=top 151
abbrev lI:=top 152
abbrev lF:=top 153
abbrev lH:=top 154
abbrev lG:=top 155
abbrev ou:=top 156
abbrev ki:=top 157
abbrev ot:=top 158
abbrev qg:=top 159
abbrev lE:=top 160
abbrev qi:=top 161
abbrev kh:=top 162
abbrev iY:=top 163
abbrev kg:=top 164
abbrev lD:=top 165
abbrev zB:=top 168
abbrev qx:=top 169
abbrev gH:=top 173
abbrev fV:=top 174
abbrev jv:=top 175
abbrev kN:=top 176
abbrev iF:=top 177
abbrev jt:=top 178
abbrev kP:=top 179
abbrev bT:=top 180
abbrev jw:=top 181
abbrev cW:=top 182
abbrev cF:=top 183
abbrev c9:=top 184
abbrev du:=top 185
abbrev cQ:=top 186
abbrev fU:=top 187
abbrev iG:=top 188
abbrev ee:=top 189
abbrev gJ:=top 190
abbrev fT:=top 191
abbrev dO:=top 192
abbrev e8:=top 193
abbrev ef:=top 194
abbrev d9:=top 195
abbrev gI:=top 196
abbrev e7:=top 197
abbrev kQ:=top 198
abbrev ju:=top 199
abbrev jr:=top 200
abbrev iE:=top 201
abbrev qu:=top 202
abbrev dw:=L2.bc (top 27) 0
abbrev eh:=L2.bc (top 32) 0
abbrev lS:=L2.bc (top 32) 1
abbrev dy:=L2.bc (top 32) 2
abbrev fb:=L2.bc (top 33) 0
abbrev jx:=L2.bc (top 33) 1
abbrev dQ:=L2.bc (top 34) 0
abbrev gL:=L2.bc (top 34) 1
abbrev gQ:=L2.bc (top 54) 0
abbrev lP:=L2.bc (top 54) 1
abbrev gS:=L2.bc (top 55) 0
abbrev lQ:=L2.bc (top 55) 1
abbrev iZ:=L2.bc (top 56) 0
abbrev oE:=L2.bc (top 56) 1
abbrev gT:=L2.bc (top 74) 0
abbrev lR:=L2.bc (top 74) 1
abbrev e9:=L2.bc (top 97) 0
abbrev fW:=L2.bc (top 124) 0
abbrev iH:=L2.bc (top 124) 1
abbrev kT:=L2.bc (top 124) 2
abbrev dP:=L2.bc (top 134) 0
abbrev gK:=L2.bc (top 134) 1
abbrev fg:=L2.bc (top 171) 0
abbrev da:=L2.bc (top 171) 1
abbrev kU:=L2.bc (top 171) 2
open PySem L2 Bh
structure Tb(K:Frag)(mg:i2):Prop where
 len_:mg "len"=none
 range_:mg Tx=none
 isinstance_:mg TK=none
 int_:mg "int"=none
 bool_:mg "bool"=none
 list_:mg Ts=none
 max_:mg "max"=none
 min_:mg "min"=none
 tuple_:mg TN=none
 sorted_:mg Ue=none
 any_:mg "any"=none
 all_:mg "all"=none
 dict_:mg TH=none
 enumerate_:mg TC=none
 str_:mg "str"=none
 set_:mg T8=none
 ValueError_:mg Ub=none
 zip_:mg "zip"=none
 kII:kitOne K (.type "int") (.type "int")=some true
 kIB:kitOne K (.type "int") (.type "bool")=some false
 kLL:kitOne K (.type Ts) (.type Ts)=some true
 kSS:kitOne K (.type "str") (.type "str")=some true
theorem aX{vs:St}(h:vs.length=1):∃v,vs=[v]:=RK.mp h
theorem nK(ns:sv):(ns.map V.int).all kz=true:=by
 induction ns with
 |nil=>rfl
 |cons n r a=>rw[OI,Tj,a];rfl
theorem xQ(z:Int)(ns:sv):inV (.int z) (ns.map V.int)=decide (z∈ns):=by
 unfold inV
 induction ns with
 |nil=>rfl
 |cons n r b=>
  rw[OI,QG,b];by_cases h:n=z
  .subst h;simp[eqV]
  .have a:¬z=n:=λe=>h e.symm;simp[eqV,h,a]
theorem bB{ns:sv}{i:Nat}(h:(ns.map V.int)[i]?=some y):∃z,y= .int z/\ns[i]?=some z:=by
 rw[Ot]at h;cases e:ns[i]? with
 |none=>rw[e]at h;cases h
 |some z=>rw[e]at h;show#[z,(OA h).symm,2]
theorem j2{x y:Int}(hx:0<=x)(a:0<=y):Builtin.bitAnd x y=((x.toNat&&&y.toNat:Nat):Int):=by unfold Builtin.bitAnd;rw[N2 hx,N2 a]
theorem rT{x y:Int}(hx:0<=x)(d:0<=y):Builtin.bitOr x y=((x.toNat|||y.toNat:Nat):Int):=by
 have b:¬(0<=Builtin.bitNot x):=by unfold Builtin.bitNot;lia
 have c:¬(0<=Builtin.bitNot y):=by unfold Builtin.bitNot;lia
 have ex:Builtin.bitNot (Builtin.bitNot x)=x:=by unfold Builtin.bitNot;lia
 have a:Builtin.bitNot (Builtin.bitNot y)=y:=by unfold Builtin.bitNot;lia
 unfold Builtin.bitOr Builtin.bitAnd;rw[NX b,NX c];show Builtin.bitNot (Builtin.bitNot (((Builtin.bitNot (Builtin.bitNot x)).toNat||| (Builtin.bitNot (Builtin.bitNot y)).toNat:Nat):Int))=_;rw[ex,a];unfold Builtin.bitNot;lia
theorem F7{s:Int}(h:0<=s):decide (V.int (s/2^k % 2)=V.int 1)=s.toNat.testBit k:=by
 obtain⟨n,rfl⟩:=OJ h;rw[oj];have e:((n:Int) /2^k % 2)=((n/2^k % 2:Nat):Int):=#[5]
 rw[e];by_cases a:n/2^k % 2=1
 .rw[a];simp[a]
 .have b:¬((n/2^k % 2:Nat):Int)=1:=()
  have c:¬V.int ((n/2^k % 2:Nat):Int)=V.int 1:=λe=>b (V.int.inj e);rw[NX c];simp[a]
theorem Ce{s:Int}(h0:0<=s)(d:s<256):gw (λi=>s.toNat.testBit i) (λi=> .int (0+(i:Nat))) ((Builtin.Int.intBits s:Nat):Int).toNat=(bits s.toNat).map V.int:=by
 obtain⟨n,rfl⟩:=OJ h0;have e:Builtin.Int.intBits (n:Int)=if n=0 then 0 else n.log2+1:=by
  unfold Builtin.Int.intBits;by_cases a:n=0
  .subst a;rfl
  .have c:((n:Int)==0)=false:=#[5,a]
   rw[c,NW a];simp
 have b:=GL n ();unfold gw bits;rw[e,N9,OE];show List.map (λi:Nat=>V.int (0+(i:Int))) (List.filter (λi=>n.testBit i) (List.range (if n=0 then 0 else n.log2+1)))=_;rw[show(λi=>n.testBit i)=n.testBit from rfl,b];refine Rp λk _=> ?_;show V.int (0+(k:Int))=V.int (k:Int);rw[Qq]
inductive yL(vs:List V)(H:Hp)(Q:VK):Prop
 |mk(s t:Int) (_:vs=[.int s, .int t]) (_:0<=s) (_:0<=t) (_:Q (.bl (s.toNat.testBit t.toNat)) H):yL vs H Q
def Ij:Sp:=λvs H Q _=>yL vs H Q
inductive ux(vs:List V)(H:Hp)(Q:VK):Prop
 |mk(s:Int) (_:vs=[.int s]) (_:0<=s) (_:s<256) (_:∀p H',Same H H'->H p=none->H' p=some (.lst ((bits s.toNat).map V.int))->Q (.ref p) H'):ux vs H Q
def Ez:Sp:=λvs H Q _=>ux vs H Q
inductive BV(vs:List V)(H:Hp)(Q:VK):Prop
 |mk(s:Int) (_:vs=[.int s]) (_:0<=s) (_:s<256) (_:∀H',Same H H'->Q (.int ((bits s.toNat).length:Nat)) H'):BV vs H Q
def KZ:Sp:=λvs H Q _=>BV vs H Q
inductive yx(K:Frag)(vs:List V)(H:Hp)(Q:VK):Prop
 |mk(a:Addr) (ns:sv) (_:vs=[.ref a]) (_:SqL K H a (ns.map V.int)) (_:(∀z∈ns,0<=z/\z<8)) (_:Q (.int (K9 ns:Nat)) H):yx K vs H Q
def HZ(K:Frag):Sp:=λvs H Q _=>yx K vs H Q
inductive uv(vs:List V)(H:Hp)(Q:VK):Prop
 |mk(s t:Int) (_:vs=[.int s, .int t]) (_:0<=s) (_:0<=t) (_:Q (.bl (decide (s.toNat&&&t.toNat=s.toNat))) H):uv vs H Q
def Eu:Sp:=λvs H Q _=>uv vs H Q
inductive Hy(K:Frag)(vs:List V)(H:Hp)(Q:VK):Prop
 |mk(a:Addr) (ns:sv) (_:vs=[.ref a]) (_:SqL K H a (ns.map V.int)) (_:ns.length<=63) (_:∀H',Q (.bl true) H'):Hy K vs H Q
def AW(K:Frag):Sp:=λvs H Q _=>Hy K vs H Q
def cU:V->Int
 | .int z=>z
 |_=>0
theorem cb(p:Int->Bool)(f:Int->Int)(a:sv):d5 (λx=>p (cU x)) (λx=> .int (f (cU x))) (a.map V.int)=((a.filter p).map f).map V.int:=by unfold d5;rw[Rt,OE,OE];rfl
theorem Ip{n j:Nat}:decide (V.int (Builtin.bitAnd ((n:Int) /2^(0+(j:Int)).toNat) 1)=V.int 1)=n.testBit j:=by
 have a:(0+(j:Int)).toNat=j:=()
 have b:((n:Int) /2^j)=((n/2^j:Nat):Int):=#[5]
 rw[a,b,j2 (Pc _) ∅,N9];have c:((1:Int).toNat)=1:=rfl;rw[c,Nat.and_one_is_mod,oj];by_cases hb:n/2^j % 2=1
 .rw[hb];rfl
 .have:¬V.int ((n/2^j % 2:Nat):Int)=V.int 1:=λz=>hb (by have:=V.int.inj z;lia);rw[NX this,NX hb]
theorem qc(n:Nat):(1*2^((n:Nat):Int).toNat:Int)=((2^n:Nat):Int):=by rw[N9,RL];simp
theorem LI{l:sv}{j:Nat}(h:l[j]?=some z):atI (l.map V.int) (j:Int)=some (.int z):=bH (by rw[Ot,h];rfl)
theorem dY{l:sv}(h:j<l.length):atI (l.map V.int) (j:Int)=some (.int (l.getD j 0)):=LI (by simp[h])
abbrev d7:Str:=#[#v[97,98,99,100,101,102,103,104]]
abbrev AM:Str:=#[#v[45]]
def tx(l:sk):Str:=#[l.toArray]
def bP(m:Nat)(z:Str):Prop:=z.length<=m/\∀c∈z.cps.toList,c<128
theorem bP.mono(h:bP m z)(a:m<=k):bP k z:=#[NV h.1 a,h.2]
theorem bP.app(h:bP m a)(h':bP k b):bP (m+k) (a++b):=by
 show#[6,λc d=> ?_]
 .rw[Po];have:=h.1;have:=h'.1;lia
 .rw[OH]at d;rcases OS.mp d with q|q
  .exact h.2 c q
  .exact h'.2 c q
theorem bP.cut(h:bP m z)(b a:Option Int):bP m (Txt.slice z b a):=#[NV (SU z b a) h.1,λc d=>h.2 c (Cv z b a c d)]
theorem bP.one(h:c<128):bP 1 #[#v[c]]:=#[N3 1,λd a=>by
 have e:d=c:=#[5,a]
 rw[e];exact h]
theorem bP.repr(h:bP m z)(b:m<=1000):(reprText z).length<=10002:=by have:=StrLaws.reprText_len z λc a=>PJ (h.2 c a) ∅;have:=h.1;lia
theorem GQ{l:sk}{i:Int}(h0:0<=i)(b:i<l.length):∃c,atI l i=some c/\c∈l:=by
 obtain⟨n,rfl⟩:=OJ h0;have a:n<l.length:=()
 show#[l[n],bH (by simp[a]),PD a]
theorem tX{k:Nat}(h:k<8):atI d7.cps.toList (k:Int)=some (97+k):=by
 refine bH ?_
 match k,h with
 |0,_=>rfl
 |1,_=>rfl
 |2,_=>rfl
 |3,_=>rfl
 |4,_=>rfl
 |5,_=>rfl
 |6,_=>rfl
 |7,_=>rfl
def Ng:V->V
 | .int z=> .str #[#v[97+z.toNat]]
 |x=>x
def lets(n:Nat):List Str:=(Ag n).map λk=>#[#v[97+k]]
theorem CM(n:Nat):d5 (λ_=>true) Ng ((bits n).map V.int)=(lets n).map V.str:=by unfold d5 lets;rw[O9.mpr (λ_ _=>rfl),BK,OE,OE,OE];refine Rp λk _=> ?_;show V.str #[#v[97+(k:Int).toNat]]=V.str #[#v[97+k]];rw[N9]
theorem Dq:∀n:Nat,n<256->n≠0->Txt.join #[#v[]] (lets n)=tx (jf n):=#[9]
theorem FQ:∀n:Nat,n<256->((lets n).map (·.length)).sum+(lets n).length*(#[#v[]]:Str).length<=16777216:=#[9]
theorem kF{z:Str}:V.str z=V.str (tx l)↔z.cps.toList=l:=by
 constructor
 .intro e;have a:z=tx l:=V.str.inj e;rw[a];simp[tx]
 .intro e;rw[<-e];simp[tx]
theorem oK(p:Nat->Bool):∀(m i:Nat),di (λ_ c=>p c) (λj _=>V.int (j:Nat)) i ((List.range' i m).map (97+ ·))=((List.range' i m).filter λk=>p (97+k)).map λk=>V.int (k:Nat)
 |0,i=>rfl
 |m+1,i=>by rw[List.range'_succ,OI,di,oK p m (i+1),List.filter_cons];cases p (97+i)<;>rfl
theorem CK(L:sk):di (λ_ c=>decide (c∈L)) (λi _=> .int (i:Nat)) 0 d7.cps.toList=(bits (rdN L)).map V.int:=by
 have e:=oK (λc=>decide (c∈L)) 8 0;have a:d7.cps.toList=(List.range' 0 8).map (97+ ·):=rfl;rw[a,e,BK,OE];unfold Ag;rw[List.range_eq_range'];refine OL _ (List.filter_congr λk b=> ?_);have d:k<8:=by have:=List.mem_range'_1.mp b;lia
 unfold rdN;rw[qX _ d]
inductive yw(vs:List V)(H:Hp)(Q:VK):Prop
 |mk(s:Int) (_:vs=[.int s]) (_:0<=s) (_:s<256) (_:∀H',Same H H'->Q (.str (tx (jf s.toNat))) H'):yw vs H Q
def HY:Sp:=λvs H Q _=>yw vs H Q
inductive BY(C:Addr)(vs:List V)(H:Hp)(Q:VK)(E:XK):Prop
 |mk(z:Str) (_:vs=[.str z]) (_:bP 1000 z) (_:(jf (rdN z.cps.toList)=z.cps.toList->∀H',Same H H'->Q (.int (rdN z.cps.toList:Nat)) H')) (_:(¬jf (rdN z.cps.toList)=z.cps.toList->∀H' ea,Same H H'->E (.ref C) (some ea) H')):BY C vs H Q E
def K3(C:Addr):Sp:=λvs H Q E=>BY C vs H Q E
abbrev cC:Str:=#[#v[97,98,99,100,101,102,103,104,105,106,107,108,109,110,111,112,113,114,115,116,117,118,119,120,121,122]]
abbrev jT:Str:=#[#v[48,49,50,51,52,53,54,55,56,57]]
abbrev gC:Int:=8
abbrev ke:Int:=9
def Wk(z:Str):Prop:=bP 61 z
theorem Wk.rep(h:Wk z):(reprText z).length<=2000:=by have:=StrLaws.reprText_len z λc a=>PJ (h.2 c a) ∅;have:=h.1;lia
theorem Wk.shows(h:Wk z):oZ K H (.str z):= .inl #[z,2,NV h.rep ∅]
theorem Wk.line{z:Str}(h:Wk z):z.length<=sizeLine:=NV h.1 ∅
def isD(c:Nat):Bool:=decide (48<=c/\c<=57)
def pD(L:sk):Bool:=L.any isD
def nod(z:Str):Bool:= !pD (cp z)
def Low(a b:Nat)(ws:r9):Prop:=ws.length<=a\/(ws.filter nod).length<=b
theorem Low.sub{ws vs:r9}(h:Low a b ws)(s:vs.Sublist ws):Low a b vs:=h.imp (NV s.length_le) (NV (s.filter nod).length_le)
theorem Low.mono(h:Low a b ws)(e:a<=c)(f:b<=d):Low c d ws:=h.imp (λx=>NV x e) λx=>NV x f
structure fw(ws:r9):Prop where
 few:ws.length<=3000
 ok:∀z∈ws,Wk z/\uu (cp z)
 low:Low 60 10 ws
theorem fw.drop{ws:r9}(h:fw ws)(n:Nat):fw (ws.drop n):=#[by rw[OU];have:=h.few;lia,λz hz=>h.ok z (QL hz),h.low.sub (List.drop_sublist n ws)]
theorem fw.tail(h:fw (a::ws)):fw ws:=h.drop 1
theorem fw.head(h:fw (a::ws)):Wk a/\uu (cp a):=h.ok a N8
theorem fw.shows{ws:r9}(h:fw ws)(b:SqL K H a (ws.map V.str)):oZ K H (.ref a):=zo b h.few λz hz=>(h.ok z hz).1.rep
def Bad(C:Addr)(E:XK)(H:Hp):Prop:=∀H' a,Same H H'->E (.ref C) (some a) H'
theorem Bad.on(h:Bad C E H)(s:Same H H'):Bad C E H':=λa b s'=>h a b (s.trans s')
inductive BZ(K:Frag)(C:Addr)(vs:List V)(H:Hp)(Q:VK)(E:XK):Prop
 |mk(b:Bool) (x:V) (_:vs=[.bl b,x]) (_:(b=true->Q .non H)) (_:(b=false->oZ K H x/\∀ea,H ea=none->E (.ref C) (some ea) H)):BZ K C vs H Q E
def bt(K:Frag)(C:Addr):Sp:=λvs H Q E=>BZ K C vs H Q E
inductive uB(vs:List V)(H:Hp)(Q:VK):Prop
 |mk(x z:Str) (_:vs=[.str x, .str z]) (_:z.length<=100) (_:∀H',Same H H'->Q (.bl (!(cp z).isEmpty&&(cp z).all λc=>decide (c∈cp x))) H'):uB vs H Q
def ED:Sp:=λvs H Q _=>uB vs H Q
inductive BQ(C:Addr)(p:List Nat->Bool)(f:Str->V)(vs:List V)(H:Hp)(Q:VK)(E:XK):Prop
 |mk(z:Str) (_:vs=[.str z]) (_:Wk z) (_:(p (cp z)=true->∀H',Same H H'->Q (f z) H')) (_:(p (cp z)=false->Bad C E H)):BQ C p f vs H Q E
def za(C:Addr)(p:List Nat->Bool)(f:Str->V):Sp:=λvs H Q E=>BQ C p f vs H Q E
inductive BR(C:Addr)(vs:List V)(H:Hp)(Q:VK)(E:XK):Prop
 |mk(m:Int) (z:Str) (_:vs=[.int m, .str z]) (_:Wk z) (_:(eR (cp z)=true->((NumText.digitsVal (cp z):Nat):Int)<=m->∀H',Same H H'->Q (.int (NumText.digitsVal (cp z):Nat)) H')) (_:(¬(eR (cp z)=true/\((NumText.digitsVal (cp z):Nat):Int)<=m)->Bad C E H)):BR C vs H Q E
def KU(C:Addr):Sp:=λvs H Q E=>BR C vs H Q E
theorem uk{a b:V}:(!decide (a=b))=true↔¬a=b:=#[5]
theorem jU:V.str z=V.str ""↔cp z=[]:=by
 constructor
 .intro e;rw[V.str.inj e];rfl
 .intro e;have:z= "":=by
   cases z with
   |mk a=>
    have:a= #v[]:=by
     cases a with
     |mk l=>exact OL Array.mk e
    rw[this];rfl
  rw[this]
theorem rX(z:Str)(c:Nat):begins z #[#v[c]]=decide ((cp z).head?=some c):=by
 unfold begins;cases z with
 |mk a=>
  cases a with
  |mk l=>
   cases l with
   |nil=>rfl
   |cons d r=>
    unfold Builtin.Str.subAt;simp[Str.length];rw[O8];simp;show d=c↔some d=some c;simp
theorem bh(z:Str):(cp z).length=z.length:=Ou
theorem a4(s:oZ K H x)(e:b=false->Bad C E H)(k:b=true->Q .non H):bt K C [.bl b,x] H Q E:=#[b,x,2,k,λh=>#[s,λa _=>e h H a (Same.refl _)]]
theorem FD(L:sk):a9 L=((!L.isEmpty&&L.all λc=>decide (c∈cp cC))&&decide (L.length<=8)):=rfl
theorem pR(L:sk):eR L=((!L.isEmpty&&L.all λc=>decide (c∈cp jT))&&(decide (L=[48])|| !decide (L.head?=some 48))):=rfl
theorem wD:decide (V.str z=V.str "0")=decide (cp z=[48]):=by rw[Ox];exact kF (l:=[48])
theorem GP(z:Str):begins z "0"=decide ((cp z).head?=some 48):=rX z 48
theorem GO(z:Str):begins z "-"=decide ((cp z).head?=some 45):=rX z 45
theorem yd(h:cp z≠[]):cp (Txt.slice z (some 1) none)=(cp z).tail:=by
 have hl:1<=z.length:=by rw[<-bh];exact List.length_pos_iff.mpr h
 rw[Sw (b:=(z.length:Nat)) ∅ () rfl];show(List.take _ (List.drop 1 (cp z)))=_;rw[PL,List.drop_one];rw[OU,bh];lia
theorem Mb(h:Wk z)(b a:Option Int):Wk (Txt.slice z b a):=bP.cut h b a
inductive Hr(C:Addr)(vs:List V)(H:Hp)(Q:VK)(E:XK):Prop
 |mk(n:Nat) (z:Str) (_:vs=[.int (n:Int), .str z]) (_:n<=8) (_:Wk z) (_:(dJ n (cp z)=true->∀H',Same H H'->Q (.int (rdN (cp z):Nat)) H')) (_:(dJ n (cp z)=false->Bad C E H)):Hr C vs H Q E
def MH(C:Addr):Sp:=λvs H Q E=>Hr C vs H Q E
inductive Hn(C:Addr)(vs:List V)(H:Hp)(Q:VK)(E:XK):Prop
 |mk(p:Nat) (z:Str) (_:vs=[.int (p:Int), .str z]) (_:p<=9) (_:Wk z) (_:(ja p (cp z)=true->∀(t:Addr)(i j:Nat) H',i<p->j<p->Same H H'->H t=none->H' t=some (.tup [.int (i:Int), .int (j:Int)])->Q (.ref t) H')) (_:(ja p (cp z)=false->Bad C E H)):Hn C vs H Q E
def ME(C:Addr):Sp:=λvs H Q E=>Hn C vs H Q E
inductive yO(vs:List V)(H:Hp)(Q:VK):Prop
 |mk(n:Int) (_:vs=[.int n]) (_:0<=n) (_:n<=1000) (_:Q (.int (1*2^n.toNat-1)) H):yO vs H Q
def Im:Sp:=λvs H Q _=>yO vs H Q
theorem eS:(1*2^((n:Nat):Int).toNat-1:Int)=((2^n-1:Nat):Int):=by
 have h:0<2^n:=QO ();have e:((2:Int)^n)=((2^n:Nat):Int):=#[5]
 rw[N9,RL,e];lia
theorem GS:s&&& (2^n-1)=s↔s<2^n:=by
 rw[Nat.and_two_pow_sub_one_eq_mod];constructor
 .intro h;rw[<-h];exact Th _ (QO ∅)
 .exact Nat.mod_eq_of_lt
theorem JU:eR [c]=decide (48<=c/\c<=57):=by
 rw[O8,jO,OB];constructor
 .rintro⟨_,h,_⟩;exact h c N8
 .intro h;show#[#[5],λd a=>by rw[Oj.mp a];exact h,6];by_cases e:c=48
  .exact .inl (by rw[e])
  .exact .inr λh=>e #[5,h]
theorem uN(c:Nat):NumText.digitsVal [c]=c-48:=by show 0*10+(c-48)=_;lia
theorem Eb(h:Wk z)(a:c∈cp z):Wk #[#v[c]]:=bP.mono (bP.one (h.2 c a)) ∅
def gk(n B:Nat)(r:sv):Prop:=r.length=n/\∀z∈r,z.natAbs<2^B
inductive BX(K:Frag)(C:Addr)(vs:List V)(H:Hp)(Q:VK)(E:XK):Prop
 |mk(n:Nat) (a:Addr) (zs:sv) (_:vs=[.int (n:Int), .ref a]) (_:n<=8) (_:SqL K H a (zs.map V.int)) (_:zs.length<=3000) (_:(∀z∈zs,z.natAbs<2^200)) (_:(i3 n zs.length=true->∀(q:Addr)(xs:List V) (M:pw) H',Same H H'->H q=none->H' q=some (.lst xs)->bu H' xs M->M.length<=8->(∀r∈M,gk n 200 r)->Q (.ref q) H')) (_:(i3 n zs.length=false->Bad C E H)):BX K C vs H Q E
def K2(K:Frag)(C:Addr):Sp:=λvs H Q E=>BX K C vs H Q E
theorem GD(xs:List V)(h:i<=j)(a:j<=xs.length):dE xs (some (i:Int)) (some (j:Int))=(xs.drop i).take (j-i):=by unfold dE;rw[HT.lT,HT.lT,Q0 a,Q0 (NV h a)]
theorem Bc{H:Hp}:∀a:List V,(∀(j:Nat)(y:V),a[j]?=some y->∃(b:Addr)(r:sv),y= .ref b/\H b=some (.lst (r.map V.int))/\gk n 200 r)->
  ∃M:List (List Int),M.length=a.length/\∀(j:Nat)(r:sv)(y:V),M[j]?=some r->a[j]?=some y->∃b,y= .ref b/\H b=some (.lst (r.map V.int))/\gk n 200 r
 | [],_=>#[[],2,λj r y h _=>by simp at h]
 |y::a,h=>by
  obtain⟨M,g,i⟩:=Bc a λj z hz=>h (j+1) z #[5,hz];obtain⟨b,r,d,e,f⟩:=h 0 y rfl;show#[r::M,by rw[Oa,Oa,g],λj k z c hz=> ?_];cases j with
  |zero=>cases c;cases hz;show#[b,d,e,f]
  |succ j=>exact i j k z #[5,c] #[5,hz]
abbrev RdR:=List V->List V->Hp->Prop
inductive Kw(K:Frag)(C:Addr)(ok:List Str->Bool)(R:RdR)(vs:List V)(H:Hp)(Q:VK)(E:XK):Prop
 |mk(a:Addr) (ws:r9) (_:vs=[.ref a]) (_:SqL K H a (ws.map V.str)) (_:fw ws) (_:(ok ws=true->∀(t q g:Addr)(xs ys:List V) H',Same H H'->H' t=some (.tup [.ref q, .ref g])->H' q=some (.lst xs)->H' g=some (.lst ys)->R xs ys H'->Q (.ref t) H')) (_:(ok ws=false->Bad C E H)):Kw K C ok R vs H Q E
def eJ(K:Frag)(C:Addr)(ok:List Str->Bool)(R:RdR):Sp:=λvs H Q E=>Kw K C ok R vs H Q E
def tD:RdR:=λxs a _=>xs=[]/\∃n k:Nat,a=[.int (n:Int), .int (k:Int)]/\n<=8
def jz:RdR:=λxs _ _=>∃(z:Str)(a:r9),xs=(z::a).map V.str/\a.length<=10/\∀y∈z::a,y.length<=61
theorem v8(h:Wk x):∀y∈[x],y.length<=61:=λy a=>by rw[Oj.mp a];exact h.1
theorem hU(n m:Nat):decide (V.int (n:Int)=V.int (m:Int))=decide (n=m):=by
 rw[Ox];constructor
 .intro h;have:=V.int.inj h;lia
 .intro h;rw[h]
theorem aR{ws:r9}{i:Nat}(h:ws[i]?=some z):atI (ws.map V.str) (i:Int)=some (.str z):=bH (by rw[Ot,h];rfl)
theorem rO{m:Nat}(a:eR L=true)(b:((NumText.digitsVal L:Nat):Int)<=(m:Int)):bj m L=some (NumText.digitsVal L):=by unfold bj;rw[NZ #[a,9]]
theorem rP{m:Nat}(h:¬(eR L=true/\((NumText.digitsVal L:Nat):Int)<=(m:Int))):bj m L=none:=by unfold bj;rw[NW λq=>h #[q.1,9]]
theorem xV{ws:r9}(h:¬ws.length=2):kA ws=false:=by
 unfold kA;split
 .exact absurd rfl h
 .rfl
theorem t6{ws:r9}(h:¬ws.length=1):cw ws=false:=by
 unfold cw;split
 .exact absurd rfl h
 .rfl
theorem uO{ws:r9}(h:¬ws.length=2):i9 ws=false:=by
 unfold i9;split
 .exact absurd rfl h
 .rfl
theorem rB{ws:r9}(h:¬ws.length=2):eQ ws=false:=by
 unfold eQ;split
 .exact absurd rfl h
 .rfl
theorem ik{c:Type}{l:List c}(h:l.length=2):∃a b,l=[a,b]:=by
 match l,h with
 | [a,b],_=>show#[a,b,2]
theorem kW(s:Same H0 H)(f:H q=some (.lst xs))(e:H g=none)(b:upd H g (.lst a) t=none):
  Same H0 (upd (upd H g (.lst a)) t (.tup [.ref q, .ref g]))/\upd (upd H g (.lst a)) t (.tup [.ref q, .ref g]) t=some (.tup [.ref q, .ref g])/\upd (upd H g (.lst a)) t (.tup [.ref q, .ref g]) q=some (.lst xs)/\upd (upd H g (.lst a)) t (.tup [.ref q, .ref g]) g=some (.lst a):=by
 have c:upd H g (.lst a) q=some (.lst xs):=by rw[aj (ah f e),f]
 have d:upd H g (.lst a) g=some (.lst a):=ag;show#[(s.trans (Same.new e)).trans (Same.new b),ag,by rw[aj (ah c b),c],by rw[aj (ah d b),d]]
def a6(l:sk):List Int:=l.map λs:Nat=>(s:Int)
def rZ(p:Nat)(ts:List (Nat×Nat)):Prop:=∀t∈ts,t.1<p/\t.2<p
def oH:RdR:=λxs c H=>xs=[]/\∃(n:Nat)(b:Addr)(a:sk),c=[.int (n:Int), .ref b]/\n<=8/\H b=some (.lst ((a6 a).map V.int))/\a.length<=256/\∀s∈a,s<2^n
def w6:RdR:=λxs a H=>xs=[]/\∃(p:Nat)(b:Addr)(us:List V) (ts:List (Nat×Nat)),a=[.int (p:Int), .ref b]/\p<=9/\H b=some (.lst us)/\dZ H us ts/\rZ p ts/\ts.length<=8
def jy:RdR:=λxs a H=>xs=[]/\∃(m n:Nat)(b:Addr)(us:List V) (M:pw),a=[.int (m:Int), .int (n:Int), .ref b]/\m∈nopr/\n<=8/\H b=some (.lst us)/\bu H us M/\M.length<=8/\∀r∈M,gk n 200 r
theorem CW(n:Nat):∀l:List Nat,l.Nodup->(∀s∈l,s<n)->l.length<=n:=λl a b=>by
 have:=List.Nodup.length_le_of_subset a (l₂:=List.range n) λs c=>OQ.mpr (b s c)
 rwa [O2]at this
theorem vG:eQ [x,y]=(a9 (cp x)&&dJ 8 (cp y)):=rfl
theorem dI{ws:r9}{i:Nat}(h:(ws.map V.str)[i]?=some v):∃z,v= .str z/\ws[i]?=some z:=by rw[Ot]at h;obtain⟨z,hz,e⟩:=Q3.mp h;show#[z,e.symm,hz]
theorem tF(h:n<=8):2^n<=256:=OG (n:=2) ∅ h
theorem xC(a:sv):∀i,i<=a.length->(PyProof.Rows.firstMet (λi=>a.getD i 0) i).length<=i/\∀z∈PyProof.Rows.firstMet (λi=>a.getD i 0) i,z∈a
 |0,_=>by rw[PyProof.Rows.firstMet_zero];show#[N3 _,λz hz=>nomatch hz]
 |i+1,d=>by
  obtain⟨c,b⟩:=xC a i ();rw[Sx];unfold PyProof.Rows.step_dedup;split
  .show#[9,b]
  .show#[by rw[Od];exact QR c,λz hz=> ?_];rcases OS.mp hz with h|h
   .exact b z h
   .rw[Oj.mp h];have hl:i<a.length:=()
    show a.getD i 0∈a;rw[OD,Ob hl];exact PD hl
theorem zY:∀ms:List Int,(∀z∈ms,0<=z)->a6 (ms.map Int.toNat)=ms:=λms h=>by
 unfold a6;rw[OE]
 conv=>rhs;rw[<-Si ms]
 refine Rp λz hz=> ?_;have:=h z hz;show((z.toNat:Nat):Int)=z;lia
theorem A2{r:r9}(h:bj 8 (cp x)=some n):kf (x::r)=r.all λz=>dJ n (cp z):=by show(match bj 8 (cp x)with|some n=>r.all λz=>dJ n (cp z)|none=>false)=_;rw[h]
theorem A3(h:bj 8 (cp x)=none):kf (x::r)=false:=by show(match bj 8 (cp x)with|some n=>r.all λz=>dJ n (cp z)|none=>false)=_;rw[h]
theorem v9{r:r9}(h:z∈r)(c:p z=false):r.all p=false:=RE.mpr #[z,h,by rw[c];decide]
theorem tP:∀ms:List Int,ms.Nodup->(∀z∈ms,0<=z)->(ms.map Int.toNat).Nodup
 | [],_,_=>List.nodup_nil
 |z::r,h,h0=>by obtain⟨b,c⟩:=Qy.mp h;refine Qy.mpr #[λd=> ?_,tP r c λy a=>h0 y (N4 _ a)];obtain⟨y,a,e⟩:=Of.mp d;have:=h0 z N8;have:=h0 y (N4 _ a);exact b (by rw[show z=y by lia];exact a)
theorem Fw{r:r9}(h:bj 9 (cp x)=some n):sE (x::r)=(decide (r.length<=8)&&r.all λz=>ja n (cp z)):=by show(decide (r.length<=8)&&match bj 9 (cp x)with|some n=>r.all λz=>ja n (cp z)|none=>false)=_;rw[h]
theorem Fx(h:bj 9 (cp x)=none):sE (x::r)=false:=by show(decide (r.length<=8)&&match bj 9 (cp x)with|some n=>r.all λz=>ja n (cp z)|none=>false)=_;rw[h,OM]
theorem xA{r:r9}(h:¬r.length<=8):sE (x::r)=false:=by show(decide (r.length<=8)&&match bj 9 (cp x)with|some n=>r.all λz=>ja n (cp z)|none=>false)=_;rw[NX h];rfl
theorem xc:∀b:List V,(∀y∈b,∃(c:Addr)(i j:Nat),y= .ref c/\H c=some (.tup [.int (i:Int), .int (j:Int)])/\i<p/\j<p)->∃ts,dZ H b ts/\rZ p ts/\ts.length=b.length
 | [],_=>#[[],#[2,λi t h=>by simp at h],λt l=>(nomatch l),2]
 |y::b,h=>by
  obtain⟨ts,d,e,f⟩:=xc b λz hz=>h z (N4 _ hz);obtain⟨c,i,j,rfl,g,m,n⟩:=h y N8;show#[(i,j)::ts,#[by rw[Oa,Oa,d.1],λk u a=> ?_],λu a=> ?_,by rw[Oa,Oa,f]]
  .cases k with
   |zero=>cases a;show#[c,2,g]
   |succ k=>exact d.2 k u #[5,a]
  .rcases N1.mp a with rfl|a
   .show#[m,n]
   .exact e u a
theorem sR{ws:r9}(h:¬2<=ws.length):fK ws=false:=by
 match ws,h with
 | [],_=>rfl
 | [_],_=>rfl
 |_::_::r,h=>exact absurd #[5] h
theorem jc{r:r9}:fK (x::y::r)=((eR (cp x)&&decide (NumText.digitsVal (cp x)∈nopr))&&match bj 8 (cp y)with|some n=>(r.all λx=>de (cp x))&&i3 n r.length|none=>false):=rfl
theorem C7{m:Nat}:decide ((m:Int)∈a6 l)=decide (m∈l):=by
 rw[Ox];unfold a6;constructor
 .intro h;obtain⟨s,a,e⟩:=Of.mp h;rw[show m=s by lia];exact a
 .intro h;exact Of.mpr #[m,h,2]
theorem wA{l:r9}(h:2<=l.length):∃a b r,l=a::b::r:=by
 match l,h with
 |a::b::r,_=>show#[a,b,r,2]
theorem BA{l:r9}(h:2<l.length):∃a b c r,l=a::b::c::r:=by
 match l,h with
 |a::b::c::r,_=>show#[a,b,c,r,2]
theorem Iq(h:dJ n (cp z)=true):nod z=true:=by
 unfold dJ at h;rw[Oz,OB]at h;have key:∀s,s<256->(!pD (jf s))=true:=#[9]
 have:=key _ (qA (cp z));rwa[h.1]at this
def lnF(t v a g:V):List (Str×V):=aW "given" g (aW "asked" a (aW "verb" v (aW "target" t [])))
theorem Df(t v a g:V):(lnF t v a g).lookup ("given":Str)=some g:=aJ _ _ _
theorem Dg(t v a g:V):(lnF t v a g).lookup ("asked":Str)=some a:=by unfold lnF;rw[aA _ _ #[9],aJ]
theorem FK(t v a g:V):(lnF t v a g).lookup ("verb":Str)=some v:=by unfold lnF;rw[aA _ _ #[9],aA _ _ #[9],aJ]
theorem ri(t v a g:V):(lnF t v a g).lookup ("target":Str)=some t:=by unfold lnF;rw[aA _ _ #[9],aA _ _ #[9],aA _ _ #[9],aJ]
inductive uF(C:Addr)(vs:List V)(H:Hp)(Q:VK):Prop
 |mk(p dx:Addr) (t v a g:V) (_:vs=[.ref p,t,v,a,g]) (_:H p=some (.ins C dx [])) (_:Q .non (upd H p (.ins C dx (lnF t v a g)))):uF C vs H Q
def wJ(C:Addr):Sp:=λvs H Q _=>uF C vs H Q
def Nz(C:Addr)(H:Hp)(p:Addr)(t:V)(v:Str)(xs b:List V):Prop:=∃a q g,H p=some (.ins C a (lnF t (.str v) (.ref q) (.ref g)))/\H q=some (.lst xs)/\H g=some (.lst b)
def Bt:List Str:=[Ui,TX,TY,TZ,Uv,T5,Up,"out",Uu,"side"]
def BM:List Str:=[TX,TY,TZ,"frees",Ug,Um,"same","two","three","all",Us,T4,"counts",Ut]
def JY(z:Str):RdR:=λxs a H=>(z= Ui/\tD xs a H)\/(z= Uv/\w6 xs a H)\/(z= T5/\jy xs a H)\/((z= TX\/z= TY\/z= TZ)/\oH xs a H)\/((z= Up\/z= "side"\/z= "out"\/z= Uu)/\jz xs a H)
def uQ(K:Frag)(C:Addr)(z:Str):Sp:=eJ K C (λws=>decide (lnM z ws≠0)) (JY z)
def wO(K:Frag)(C:Addr)(z:Str):Sp:=eJ K C (λws=>decide (lnA z ws≠0)) jz
def Hg(k:Nat)(t:V)(v:Str):RdR:=λxs a H=>(k=1/\jz xs a H)\/(2<=k/\(∃z:Str,t= .str z)/\((k=2/\v= Ui/\tD xs a H)\/(k=2/\v= Uv/\w6 xs a H)\/(k=2/\v= T5/\jy xs a H)\/(k=3/\(v= TX\/v= TY\/v= TZ)/\oH xs a H)))
inductive Hx(K:Frag)(C CL:Addr)(ok:List Str->Prop)(due:List Str->Nat)(vs:List V)(H:Hp)(Q:VK)(E:XK):Prop
 |mk(a:Addr) (ws:r9) (_:vs=[.ref a]) (_:SqL K H a (ws.map V.str)) (_:fw ws) (_:ok ws) (_:(due ws≠0->∀(p:Addr)(t:V)(v:Str)(xs ys:List V) H',Same H H'->Nz CL H' p t v xs ys->Hg (due ws) t v xs ys H'->Q (.ref p) H')) (_:(due ws=0->Bad C E H)):Hx K C CL ok due vs H Q E
def EE(K:Frag)(C a:Addr)(ok:List Str->Prop)(b:List Str->Nat):Sp:=λvs H Q E=>Hx K C a ok b vs H Q E
theorem hJ{kvs:mm}(h:kvs.map (·.1)=ks)(z:Str):(kvs.lookup z).isSome=decide (z∈ks):=by
 subst h
 induction kvs with
 |nil=>rfl
 |cons x r b=>
  rw[Pr,OI];by_cases e:z=x.1
  .subst e;simp
  .have a:(z==x.1)=false:=#[5,e]
   rw[a,b];simp[e]
theorem LL(h:¬z∈Bt):lnM z ws=0:=by unfold Bt at h;simp only[N1,PF,Rg,not_or]at h;obtain⟨a,g,i,j,c,d,f,k,l,b⟩:=h;unfold lnM;rw[NW a,NW c,NW d,NW (by rintro(e|e|e)<;>contradiction),NW f,NW b,NW (by rintro(e|e)<;>contradiction)]
theorem LM(h:¬z∈BM):lnA z ws=0:=by unfold BM at h;simp only[N1,PF,Rg,not_or]at h;obtain⟨a,g,i,j,n,o,p,k,l,b,m,c,d,f⟩:=h;unfold lnA fv;rw[NW (by simp only[N1,PF,Rg,not_or];show#[a,g,i,j,k,l,b,d]),NW c,NW f,NW (by rintro(e|e)<;>contradiction),NW (by rintro(e|e)<;>contradiction)]
theorem ne0(a:k≠0):decide ((if b=true then k else 0)≠0)=b:=by cases b<;>simp[a]
theorem fh(h:∀ws,ok ws=ok' ws)(d:∀xs b H,R xs b H->R' xs b H)(vs:List V)(H:Hp)(Q:VK)(E:XK)(s:eJ K C ok' R' vs H Q E):eJ K C ok R vs H Q E:=by obtain⟨a,ws,rfl,e,f,k1,k2⟩:=s;show#[a,ws,2,e,f,λc t q g xs b H' i j k l m=>k1 ((h ws).symm.trans c) t q g xs b H' i j k l (d _ _ _ m),λc=>k2 ((h ws).symm.trans c)]
theorem Jo(vs:List V)(H:Hp)(Q:VK)(E:XK):uQ K C Ui vs H Q E->eJ K C kA tD vs H Q E:=fh (λws=>by unfold lnM;rw[NZ rfl,ne0 ∅]) (λxs a H h=> .inl #[2,h]) vs H Q E
theorem LJ(vs:List V)(H:Hp)(Q:VK)(E:XK):uQ K C Uv vs H Q E->eJ K C sE w6 vs H Q E:=fh (λws=>by unfold lnM;rw[NW ∅,NZ rfl,ne0 ∅]) (λxs a H h=> .inr (.inl #[2,h])) vs H Q E
theorem FE(vs:List V)(H:Hp)(Q:VK)(E:XK):uQ K C T5 vs H Q E->eJ K C fK jy vs H Q E:=fh (λws=>by unfold lnM;rw[NW ∅,NW ∅,NZ rfl,ne0 ∅]) (λxs a H h=> .inr (.inr (.inl #[2,h]))) vs H Q E
theorem vB{z:Str}(hz:z= TX\/z= TY\/z= TZ)(vs:List V)(H:Hp)(Q:VK)(E:XK):uQ K C z vs H Q E->eJ K C kf oH vs H Q E:=fh (λws=>by unfold lnM;rw[NW (by rcases hz with rfl|rfl|rfl<;>decide),NW (by rcases hz with rfl|rfl|rfl<;>decide),NW (by rcases hz with rfl|rfl|rfl<;>decide),NZ hz,ne0 ∅]) (λxs a H h=> .inr (.inr (.inr (.inl #[hz,h])))) vs H Q E
theorem FG(vs:List V)(H:Hp)(Q:VK)(E:XK):uQ K C Up vs H Q E->eJ K C cw jz vs H Q E:=fh (λws=>by unfold lnM;rw[NW ∅,NW ∅,NW ∅,NW ∅,NZ rfl,ne0 ∅]) (λxs a H h=> .inr (.inr (.inr (.inr #[.inl rfl,h])))) vs H Q E
theorem Jm(vs:List V)(H:Hp)(Q:VK)(E:XK):uQ K C "side" vs H Q E->eJ K C i9 jz vs H Q E:=fh (λws=>by unfold lnM;rw[NW ∅,NW ∅,NW ∅,NW ∅,NW ∅,NZ rfl,ne0 ∅]) (λxs a H h=> .inr (.inr (.inr (.inr #[.inr (.inl rfl),h])))) vs H Q E
theorem FF{z:Str}(hz:z= "out"\/z= Uu)(vs:List V)(H:Hp)(Q:VK)(E:XK):uQ K C z vs H Q E->eJ K C eQ jz vs H Q E:=fh (λws=>by unfold lnM;rw[NW (by rcases hz with rfl|rfl<;>decide),NW (by rcases hz with rfl|rfl<;>decide),NW (by rcases hz with rfl|rfl<;>decide),NW (by rcases hz with rfl|rfl<;>decide),NW (by rcases hz with rfl|rfl<;>decide),NW (by rcases hz with rfl|rfl<;>decide),NZ hz,ne0 ∅]) (λxs a H h=> .inr (.inr (.inr (.inr #[.inr (.inr hz),h])))) vs H Q E
theorem GX(hz:z∈fv)(vs:List V)(H:Hp)(Q:VK)(E:XK):wO K C z vs H Q E->eJ K C cw jz vs H Q E:=fh (λws=>by unfold lnA;rw[NZ hz,ne0 ∅]) (λxs a H h=>h) vs H Q E
theorem GY(vs:List V)(H:Hp)(Q:VK)(E:XK):wO K C T4 vs H Q E->eJ K C fq jz vs H Q E:=fh (λws=>by unfold lnA;rw[NW ∅,NZ rfl,ne0 ∅]) (λxs a H h=>h) vs H Q E
theorem GU(vs:List V)(H:Hp)(Q:VK)(E:XK):wO K C Ut vs H Q E->eJ K C eU jz vs H Q E:=fh (λws=>by unfold lnA;rw[NW ∅,NW ∅,NZ rfl,ne0 ∅]) (λxs a H h=>h) vs H Q E
theorem GW{z:Str}(hz:z= Ug\/z= Um)(vs:List V)(H:Hp)(Q:VK)(E:XK):wO K C z vs H Q E->eJ K C eQ jz vs H Q E:=fh (λws=>by unfold lnA;rw[NW (by rcases hz with rfl|rfl<;>decide),NW (by rcases hz with rfl|rfl<;>decide),NW (by rcases hz with rfl|rfl<;>decide),NZ hz,ne0 ∅]) (λxs a H h=>h) vs H Q E
theorem GV{z:Str}(hz:z= "same"\/z= Us)(vs:List V)(H:Hp)(Q:VK)(E:XK):wO K C z vs H Q E->eJ K C i9 jz vs H Q E:=fh (λws=>by unfold lnA;rw[NW (by rcases hz with rfl|rfl<;>decide),NW (by rcases hz with rfl|rfl<;>decide),NW (by rcases hz with rfl|rfl<;>decide),NW (by rcases hz with rfl|rfl<;>decide),NZ hz,ne0 ∅]) (λxs a H h=>h) vs H Q E
theorem Iw(h0:lnM z ws≠0)(h:JY z xs ys H):Hg (lnM z ws) (.str t) z xs ys H:=by
 have a:∀(b:Bool)(k:Nat),(if b=true then k else 0)≠0->(if b=true then k else 0)=k:=λb k h=>by cases b<;>simp_all
 rcases h with ⟨rfl,h⟩|⟨rfl,h⟩|⟨rfl,h⟩|⟨hz,h⟩|⟨hz,h⟩
 .have e:lnM Ui ws=2:=a _ _ h0;exact .inr #[9,#[t,2], .inl #[e,2,h]]
 .have e:lnM Uv ws=2:=a _ _ h0;exact .inr #[9,#[t,2], .inr (.inl #[e,2,h])]
 .have e:lnM T5 ws=2:=a _ _ h0;exact .inr #[9,#[t,2], .inr (.inr (.inl #[e,2,h]))]
 .have e:lnM z ws=3:=by rcases hz with rfl|rfl|rfl<;>exact a _ _ h0
  exact .inr #[9,#[t,2], .inr (.inr (.inr #[e,hz,h]))]
 .have e:lnM z ws=1:=by rcases hz with rfl|rfl|rfl|rfl<;>exact a _ _ h0
  exact .inl #[e,h]
theorem Jr(h:lnA z ws≠0):lnA z ws=1:=by
 unfold lnA at h⊢
 repeat' split at h
 all_goals first|(exact absurd rfl h)|simp_all
theorem bq(c:HI P w K mg base j x ps sp)(m:mg x=some (.ref f))(e:j<=k)(h:∀vs H Q E,sp' vs H Q E->sp vs H Q E):
  ∃a,c5 P w K mg base (CXe P w) k f a ps sp'/\cx K a ps []/\keepIn K (.ref f)=true:=by
 obtain⟨i,a,F,d,g,b⟩:=c.ex;rw[m]at d;cases d;show#[a,(F.mono e).imp h,b,g]
theorem qD(s:Same H H')(h:oH xs ys H):oH xs ys H':=by obtain⟨e,n,b,g,a,c,d,f⟩:=h;show#[e,n,b,g,a,c,s.at d,f]
theorem tw(s:Same H H')(h:w6 xs ys H):w6 xs ys H':=by obtain⟨e,p,b,us,ts,a,c,d,f,g⟩:=h;show#[e,p,b,us,ts,a,c,s.at d,f.ts (ic.of s),g]
theorem oG(s:Same H H')(h:jy xs ys H):jy xs ys H':=by obtain⟨e,m,n,b,us,M,a,c,d,f,g,i⟩:=h;show#[e,m,n,b,us,M,a,c,d,s.at f,g.same s,i]
theorem CA(s:Same H H')(h:JY z xs ys H):JY z xs ys H':=by
 rcases h with ⟨e,h⟩|⟨e,h⟩|⟨e,h⟩|⟨e,h⟩|⟨e,h⟩
 .exact .inl #[e,h]
 .exact .inr (.inl #[e,tw s h])
 .exact .inr (.inr (.inl #[e,oG s h]))
 .exact .inr (.inr (.inr (.inl #[e,qD s h])))
 .exact .inr (.inr (.inr (.inr #[e,h])))
theorem k9(a:H x=none)(c:H dx=none):Same H (upd (upd (upd H dx (HO.own x)) x (HO.ins C dx [])) x o):=λb u e=>by rw[aj (ah e a),aj (ah e a),aj (ah e c)];exact e
def aB(z:Str):List Str:=Txt.split z " "
structure gj(z:Str):Prop where
 len:z.length+2<=sizeLine
 ws:fw (aB z)
inductive uC(K:Frag)(C CL:Addr)(vs:List V)(H:Hp)(Q:VK)(E:XK):Prop
 |mk(z:Str) (_:vs=[.str z]) (_:gj z) (_:(lnW (aB z)≠0->∀(p:Addr)(t:V)(v:Str)(xs ys:List V) H',Same H H'->Nz CL H' p t v xs ys->Hg (lnW (aB z)) t v xs ys H'->Q (.ref p) H')) (_:(lnW (aB z)=0->Bad C E H)):uC K C CL vs H Q E
def EF(K:Frag)(C a:Addr):Sp:=λvs H Q E=>uC K C a vs H Q E
inductive yJ(K:Frag)(vs:List V)(H:Hp)(Q:VK):Prop
 |mk(p C dx:Addr) (n:V) (_:vs=[.ref p,n]) (_:H p=some (.ins C dx [])) (_:Cls K C) (_:gO K C TL) (_:Q .non (upd H p (.ins C dx (aW TL n [])))):yJ K vs H Q
def AZ(K:Frag):Sp:=λvs H Q _=>yJ K vs H Q
inductive yM(K:Frag)(vs:List V)(H:Hp)(Q:VK):Prop
 |mk(a C dx:Addr) (fs:List (Str×V)) (n:Int) (_:vs=[.ref a]) (_:H a=some (.ins C dx fs)) (_:Cls K C) (_:gO K C TL) (_:fs.lookup (TL:Str)=some (.int n)) (_:0<=n) (_:n<=1000) (_:Q (.int (1*2^n.toNat-1)) H):yM K vs H Q
def A1(K:Frag):Sp:=λvs H Q _=>yM K vs H Q
def evF(n k:Int):List (Str×V):=aW "most" (.int k) (aW TL (.int n) [])
inductive yK(C:Addr)(vs:List V)(H:Hp)(Q:VK):Prop
 |mk(p dx:Addr) (n k:Int) (_:vs=[.ref p, .int n, .int k]) (_:H p=some (.ins C dx [])) (_:Q .non (upd H p (.ins C dx (evF n k)))):yK C vs H Q
def A0(C:Addr):Sp:=λvs H Q _=>yK C vs H Q
def NM(a b:Int):Int:=if b<a then b else a
inductive yD(C:Addr)(vs:List V)(H:Hp)(Q:VK):Prop
 |mk(a dx:Addr) (n k s:Int) (_:vs=[.ref a, .int s]) (_:H a=some (.ins C dx (evF n k))) (_:0<=s) (_:s<256) (_:∀H',Same H H'->Q (.int (NM ((bits s.toNat).length:Nat) k)) H'):yD C vs H Q
def AV(C:Addr):Sp:=λvs H Q _=>yD C vs H Q
theorem Dc:¬((TL:Str)= "most"):=#[9]
theorem Gs(n k:Int):(evF n k).lookup (TL:Str)=some (.int n):=by unfold evF;rw[aA _ _ Dc,aJ]
theorem Gr(n k:Int):(evF n k).lookup ("most":Str)=some (.int k):=aJ _ _ _
theorem Gq(n k:Int){m:Str}(a:¬m= "most")(b:¬m= TL):(evF n k).lookup m=none:=by unfold evF;rw[aA _ _ a,aA _ _ b];rfl
def liF(n:Int)(t:Addr):List (Str×V):=aW "listed" (.ref t) (aW TL (.int n) [])
theorem xE:¬((TL:Str)= "listed"):=#[9]
theorem FP(n:Int)(t:Addr):(liF n t).lookup (TL:Str)=some (.int n):=by unfold liF;rw[aA _ _ xE,aJ]
theorem z7(n:Int)(t:Addr):(liF n t).lookup ("listed":Str)=some (.ref t):=aJ _ _ _
theorem FO(n:Int)(t:Addr){m:Str}(a:¬m= "listed")(b:¬m= TL):(liF n t).lookup m=none:=by unfold liF;rw[aA _ _ a,aA _ _ b];rfl
theorem FN(n:Int)(t:Addr):(liF n t).lookup (Ug:Str)=none:=FO _ _ #[9] #[9]
theorem Di(n:Int)(t:Addr):(liF n t).lookup (T9:Str)=none:=FO _ _ #[9] #[9]
def Hh(C:Addr)(H:Hp)(a:Addr)(n:Int)(ms:sv):Prop:=∃b t,H a=some (.ins C b (liF n t))/\H t=some (.tup (ms.map V.int))/\ms.length<=1000
theorem Hh.same(h:Hh C H a n ms)(e:Same H H'):Hh C H' a n ms:=by obtain⟨b,t,c,d,f⟩:=h;show#[b,t,e.at c,e.at d,f]
inductive yI(K:Frag)(C:Addr)(vs:List V)(H:Hp)(Q:VK):Prop
 |mk(p dx a:Addr) (n:Int) (ms:sv) (_:vs=[.ref p, .int n, .ref a]) (_:H p=some (.ins C dx [])) (_:SqL K H a (ms.map V.int)) (_:ms.length<=1000) (_:∀t H',H t=none->(∀b o,H b=some o->b≠p->H' b=some o)->H' p=some (.ins C dx (liF n t))->H' t=some (.tup (ms.map V.int))->Q .non H'):yI K C vs H Q
def AY(K:Frag)(C:Addr):Sp:=λvs H Q _=>yI K C vs H Q
inductive yC(C:Addr)(vs:List V)(H:Hp)(Q:VK):Prop
 |mk(a:Addr) (n s:Int) (ms:sv) (_:vs=[.ref a, .int s]) (_:Hh C H a n ms) (_:ms≠[]) (_:(∀m∈ms,0<=m/\m<256)) (_:0<=s) (_:s<256) (_:∀H',Same H H'->Q (.int (qB ms s.toNat:Nat)) H'):yC C vs H Q
def AU(C:Addr):Sp:=λvs H Q _=>yC C vs H Q
inductive B2(vs:List V)(H:Hp)(Q:VK):Prop
 |mk(s t:Nat) (_:vs=[.int (s:Int), .int (t:Int)]) (_:Q (.int (dj s t:Nat)) H):B2 vs H Q
def K5:Sp:=λvs H Q _=>B2 vs H Q
inductive yF(vs:List V)(H:Hp)(Q:VK):Prop
 |mk(s:Int) (_:vs=[.int s]) (_:0<=s) (_:s<256) (_:∀p H',Same H H'->H p=none->H' p=some (.lst ((Fd s.toNat).map V.int))->Q (.ref p) H'):yF vs H Q
def Ih:Sp:=λvs H Q _=>yF vs H Q
theorem pP(x y:Nat):decide (V.int (x:Int)=V.int (y:Int))=decide (x=y):=by
 by_cases h:x=y
 .rw[N2 h,h,N2 rfl]
 .rw[NX h,NX λz=>h (by have:=V.int.inj z;lia)]
theorem lC(k:Nat):(1*2^((k:Nat):Int).toNat:Int)=((2^k:Nat):Int):=qc k
theorem j1(x y:Nat):Builtin.bitOr (x:Int) (y:Int)=((x|||y:Nat):Int):=by rw[rT (Pc _) (Pc _),N9,N9]
theorem gi(x y:Nat):Builtin.bitAnd (x:Int) (y:Int)=((x&&&y:Nat):Int):=by rw[j2 (Pc _) (Pc _),N9,N9]
def J3(H:Hp):Ans->V->Prop
 |none,v=>v= .non
 |some (x,y,z),v=>∃p,v= .ref p/\H p=some (.tup ([x,y,z].map V.int))
theorem iO(l:sk)(p:Int->Bool):(a6 l).filter p=a6 (l.filter λs:Nat=>p (s:Int)):=by unfold a6;rw[Rt];rfl
theorem C4(h:z∈a6 l):∃s:Nat,s∈l/\z=s:=by obtain⟨s,a,rfl⟩:=Of.mp h;show#[s,a,2]
theorem rg{i:Nat}(h:(a6 a)[i]?=some z):∃c:Nat,a[i]?=some c/\z=(c:Int):=by
 unfold a6 at h;rw[Ot]at h;cases e:a[i]? with
 |none=>rw[e]at h;cases h
 |some c=>rw[e]at h;cases h;show#[c,22]
theorem fE(a:sk):(a6 a).length=a.length:=by unfold a6;exact My ..
theorem sP{a:sk}(h:a[i]?=some c):a.take (i+1)=a.take i++[c]:=by rw[Pk,h];rfl
theorem xH(s t k:Nat):(dj s t).testBit k=(s.testBit k&& !t.testBit k):=by unfold dj;rw[Nat.testBit_xor,Qo];cases s.testBit k<;>cases t.testBit k<;>rfl
def Mi(H:Hp)(p:Addr)(bs:sk):Prop:=∃kvs:List (Key×V),H p=some (.dK kvs)/\∀k:Nat,(eG kvs (Sum.inl (k:Int))).isSome=decide (k∈bs)
inductive uA(K:Frag)(vs:List V)(H:Hp)(Q:VK):Prop
 |mk(a:Addr) (bs:sk) (_:vs=[.ref a]) (_:SqL K H a ((a6 bs).map V.int)) (_:bs.length<=800) (_:∀p H',Same H H'->H p=none->Mi H' p bs->Q (.ref p) H'):uA K vs H Q
def EC(K:Frag):Sp:=λvs H Q _=>uA K vs H Q
inductive uD(K:Frag)(vs:List V)(H:Hp)(Q:VK):Prop
 |mk(a:Addr) (n s:Nat) (fs:sk) (_:vs=[.int (n:Int), .ref a, .int (s:Int)]) (_:n<=8) (_:SqL K H a ((a6 fs).map V.int)) (_:Q (.int (cu n fs s:Nat)) H):uD K vs H Q
def EG(K:Frag):Sp:=λvs H Q _=>uD K vs H Q
theorem oJ(v:V)(k:Nat):∀(bs:sk) (m:List (Key×V)),(eG (kX m (bs.map λb:Nat=>((Sum.inl (b:Int):Key),v))) (Sum.inl (k:Int))).isSome=((eG m (Sum.inl (k:Int))).isSome||decide (k∈bs))
 | [],m=>by simp[kX]
 |b::bs,m=>by
  show(eG (kX (gV m (Sum.inl (b:Int)) v) (bs.map λb:Nat=>((Sum.inl (b:Int):Key),v))) (Sum.inl (k:Int))).isSome=_;rw[oJ v k bs,wm];by_cases e:k=b
  .subst e;rw[NZ rfl,N2 (N8 ..)];simp
  .rw[NW (λh=>e (by have:=Sum.inl.inj h;lia))];refine OL (λx=>_||x) ?_;rw[Ox,N1];show#[.inr,λh=>h.elim (λh=>absurd h e) id]
theorem EW{Pv:V->Prop}{k:Key}(h:∀p∈kvs,Pv p.2)(b:Pv v):∀p∈gV kvs k v,Pv p.2:=by
 unfold gV;split
 .intro p a;obtain⟨q,c,e⟩:=Of.mp a;subst e;split
  .exact b
  .exact h q c
 .intro p a;rcases OS.mp a with a|a
  .exact h p a
  .have:=Oj.mp a;subst this;exact b
def Hc(H:Hp)(p:Addr)(m:Nat)(a:Int->Prop)(kvs:List (Key×V)):Prop:=H p=some (.dK kvs)/\kvs.length<=m/\∀q∈kvs,∃z:Int,q.2= .int z/\a z
theorem Hc.list{kvs:List (Key×V)}(h:Hc H p m Pz kvs):∃ns:List Int,kvs.map (·.2)=ns.map V.int/\ns.length<=m/\∀z∈ns,Pz z:=by
 obtain⟨_,c,b⟩:=h;show#[kvs.map λq=>cU q.2,6,by rw[My];exact c,λz hz=> ?_]
 .rw[OE];refine Rp λq a=> ?_;obtain⟨z,e,_⟩:=b q a;rw[e];show V.int z=V.int (cU q.2);rw[e];rfl
 .obtain⟨q,a,rfl⟩:=Of.mp hz;obtain⟨z,e,d⟩:=b q a;rw[e];exact d
theorem FT(n:Nat)(fs:sk)(s:Nat):cu n fs s<2^n:=by
 refine SM _ λk a=> ?_;cases e:(cu n fs s).testBit k with
 |false=>rfl
 |true=>
  have:=((rl s k fs (2^n-1)).mp e).1;rw[Sn]at this;have:=Ov this;lia
theorem rj{n b k:Nat}:(dj (2^n-1) b).testBit k=(decide (k<n)&& !b.testBit k):=by rw[xH,Sn]
inductive mH(vs:List V)(H:Hp)(Q:VK):Prop
 |mk(s t y:Nat) (_:vs=[.int (s:Int), .int (t:Int), .int (y:Int)]) (_:t<8) (_:y<8) (_:Q (.int (Kt s t y:Nat)) H):mH vs H Q
def wM:Sp:=λvs H Q _=>mH vs H Q
inductive uH(K:Frag)(vs:List V)(H:Hp)(Q:VK):Prop
 |mk(a:Addr) (rs:sk) (s:Nat) (_:vs=[.ref a, .int (s:Int)]) (_:SqL K H a ((a6 rs).map V.int)) (_:Q (.bl (rs.any λc=>decide (c&&&s=c))) H):uH K vs H Q
def EH(K:Frag):Sp:=λvs H Q _=>uH K vs H Q
theorem JD(a:sk):inV (V.int 0) ((a6 a).map V.int)=decide (0∈a):=by
 rw[xQ,Ox];constructor
 .intro b;obtain⟨s,c,e⟩:=C4 b;have:s=0:=()
  exact this▸c
 .intro h;exact Of.mpr #[0,h,2]
def Nq(t:Int×Int×Int):List (Str×V):=aW "thing" (.int t.2.2) (aW Up (.int t.2.1) [("one", .int t.1)])
inductive yG(C:Addr)(vs:List V)(H:Hp)(Q:VK):Prop
 |mk(ea:Addr) (a b c:Int) (_:vs=[.ref ea, .int a, .int b, .int c]) (_:H ea=some (iX C none ea)) (_:∀dx,H dx=none->Q .non (upd (upd H ea (iX C (some dx) ea)) dx (D9 dx (Nq (a,b,c))))):yG C vs H Q
def Ii(C:Addr):Sp:=λvs H Q _=>yG C vs H Q
inductive sd(C:Addr)(vs:List V)(H:Hp)(Q:VK)(E:XK):Prop
 |mk(A:Ans) (v:V) (_:vs=[v]) (_:J3 H A v) (_:(A=none->Q .non H)) (_:∀t,A=some t->∀dx H',Same H H'->H' dx=some (D9 dx (Nq t))->E (.ref C) (some dx) H'):sd C vs H Q E
def Cp(C:Addr):Sp:=λvs H Q E=>sd C vs H Q E
def LiW(C:Addr)(H:Hp)(p:Addr)(n:Nat):Prop:=∃ms:List Int,Hh C H p n ms/\ms≠[]/\∀m∈ms,0<=m/\m<256
inductive o1(K:Frag)(C:Addr)(vs:List V)(H:Hp)(Q:VK):Prop
 |mk(a:Addr) (n:Nat) (fs:sk) (_:vs=[.int (n:Int), .ref a]) (_:SqL K H a ((a6 fs).map V.int)) (_:fs≠[]) (_:fs.length<=256) (_:(∀s∈fs,s<256)) (_:∀p H',Same H H'->LiW C H' p n->Q (.ref p) H'):o1 K C vs H Q
def zb(K:Frag)(C:Addr):Sp:=λvs H Q _=>o1 K C vs H Q
def oQ(os:Nat->Nat)(s:Nat):Bool:= !(((bits s).map λz=>(os (dj s (2^z.toNat))).testBit z.toNat).any id)
inductive se(K:Frag)(vs:List V)(H:Hp)(Q:VK):Prop
 |mk(a:Addr) (n s:Nat) (os:Nat->Nat) (_:vs=[.ref a, .int (s:Int)]) (_:n<=8) (_:SqL K H a ((a6 ((List.range (2^n)).map os)).map V.int)) (_:s<2^n) (_:∀H',Same H H'->Q (.bl (oQ os s)) H'):se K vs H Q
def Cq(K:Frag):Sp:=λvs H Q _=>se K vs H Q
inductive Hv(K:Frag)(C Cx:Addr)(vs:List V)(H:Hp)(Q:VK)(E:XK):Prop
 |mk(a:Addr) (n:Nat) (zs:sk) (_:vs=[.int (n:Int), .ref a]) (_:SqL K H a ((a6 zs).map V.int)) (_:n<=8) (_:zs.length<=256) (_:(∀s∈zs,s<2^n)) (_:(∀p H',Same H H'->LiW C H' p n->Q (.ref p) H')) (_:∀dx H',Same H H'->E (.ref Cx) (some dx) H'):Hv K C Cx vs H Q E
def EB(K:Frag)(C Cx:Addr):Sp:=λvs H Q E=>Hv K C Cx vs H Q E
theorem ES{n s:Nat}(g:Nat->Nat)(a:s<2^n):atI ((a6 ((List.range (2^n)).map g)).map V.int) (s:Int)=some (.int (g s:Nat)):=by refine bH ?_;unfold a6;rw[Ot,Ot,Ot,List.getElem?_range a];rfl
theorem bE(a:H x=none)(c:H dx=none):Same H (upd (upd H dx (HO.own x)) x (HO.ins C dx [])):=λb o e=>by rw[aj (ah e a),aj (ah e c)];exact e
theorem gZ(a:sk):(a6 a).length=a.length:=by unfold a6;exact My ..
theorem iN(h:z∈a6 l):∃s:Nat,s∈l/\z=s:=by obtain⟨s,a,rfl⟩:=Of.mp h;show#[s,a,2]
theorem xG(a:n<=8)(h:s<2^n):s<256:=N7 h (tF a)
inductive yE(K:Frag)(vs:List V)(H:Hp)(Q:VK):Prop
 |mk(a:Addr) (xs:List V) (L:pw) (c n:Nat) (_:vs=[.ref a, .int (c:Int)]) (_:H a=some (.lst xs)) (_:bu H xs L) (_:(∀r∈L,r.length=n)) (_:c<n) (_:(∀(i:Nat)(r:sv)(H':Hp),Same H H'->L[i]?=some r->¬r.getD c 0=0->Q (.int (i:Int)) H')) (_:((∀r∈L,r.getD c 0=0)->∀H',Same H H'->Q .non H')):yE K vs H Q
def Ig(K:Frag):Sp:=λvs H Q _=>yE K vs H Q
def vQ(d:Int)(a r:sv)(c:Nat):List Int:=(List.range r.length).map λj=>(r.getD j 0*a.getD c 0-a.getD j 0*r.getD c 0).fdiv d
theorem gk.at{r:sv}(h:gk n B r)(j:Nat):(r.getD j 0).natAbs<2^B:=by
 by_cases a:j<r.length
 .have e:r.getD j 0=r[j]:=by simp[a]
  rw[e];exact h.2 _ (PD a)
 .have e:r.getD j 0=0:=by simp[a]
  rw[e];exact QO ∅
theorem HW{x y:Int}(hx:x.natAbs<2^k)(a:y.natAbs<2^k):(x-y).natAbs<2^(k+1):=by rw[Nat.pow_succ];lia
theorem Gj(a b:Int):(a.fdiv b).natAbs<=a.natAbs:=Int.natAbs_fdiv_le_natAbs a b
theorem JS(b:gk n B pr)(a:gk n B r):gk n (B+B+1) (vQ d pr r c):=by show#[by unfold vQ;rw[My,O2];exact a.1,λz hz=> ?_];obtain⟨j,_,rfl⟩:=Of.mp hz;exact Om (Gj _ _) (HW (BN (a.at j) (b.at c)) (BN (b.at j) (a.at c)))
inductive o3(K:Frag)(vs:List V)(H:Hp)(Q:VK):Prop
 |mk(a b:Addr) (r pr:sv) (c n B:Nat) (d:Int) (_:vs=[.ref a, .ref b, .int (c:Int), .int d]) (_:SqL K H a (r.map V.int)) (_:SqL K H b (pr.map V.int)) (_:gk n B r) (_:gk n B pr) (_:c<n) (_:n<=1000) (_:B<=2^24) (_:CFd 0 d) (_:∀q H',Same H H'->H q=none->H' q=some (.lst ((vQ d pr r c).map V.int))->Q (.ref q) H'):o3 K vs H Q
def zc(K:Frag):Sp:=λvs H Q _=>o3 K vs H Q
inductive uK(K:Frag)(vs:List V)(H:Hp)(Q:VK):Prop
 |mk(a:Addr) (xs:List V) (L:pw) (i c n B:Nat) (d:Int) (pr:sv) (_:vs=[.ref a, .int (i:Int), .int (c:Int), .int d]) (_:H a=some (.lst xs)) (_:bu H xs L) (_:(∀r∈L,gk n B r)) (_:L.length<=1000) (_:L[i]?=some pr) (_:c<n) (_:n<=1000) (_:B<=2^24) (_:(2<=L.length->CFd 0 d)) (_:∀q H' ys,Same H H'->H q=none->H' q=some (.lst ys)->bu H' ys ((L.take i++L.drop (i+1)).map λr=>vQ d pr r c)->Q (.ref q) H'):uK K vs H Q
def EJ(K:Frag):Sp:=λvs H Q _=>uK K vs H Q
def fu:Nat->Nat
 |0=>200
 |i+1=>fu i+fu i+1
theorem DY:∀i,i<9->fu i<=2^24:=∅
theorem vY:∀i,i<6->fu i<9000:=∅
theorem LK{d:Int}(h:d.natAbs<2^B)(a:B<9000)(h0:d≠0):d.natAbs.log2<9000:=by have:d.natAbs.log2<B:=(RI ()).mpr h;lia
def d3(m:Int)(r:sv):List Int:=if m=0 then r else r.map λz=>z % m
theorem Cz(m:Int)(r:sv):(d3 m r).length=r.length:=by
 unfold d3;split
 .rfl
 .rw[My]
theorem wY(h0:0<=m)(c:m<128)(a:7<=B)(h:gk n B r):gk n B (d3 m r):=by
 show#[by rw[Cz];exact h.1,λz hz=> ?_];unfold d3 at hz;split at hz
 .exact h.2 z hz
 .rename_i b;obtain⟨y,_,rfl⟩:=Of.mp hz;have g1:=PU y b;have g2:=Py y (show 0<m by lia);exact N7 (show(y % m).natAbs<2^7 by lia) (OG ∅ a)
theorem Bd(h0:0<m):∀z∈d3 m r,0<=z/\z<m:=λz hz=>by unfold d3 at hz;rw[NW ()]at hz;obtain⟨y,_,rfl⟩:=Of.mp hz;show#[PU y (),Py y h0]
inductive yy(K:Frag)(vs:List V)(H:Hp)(Q:VK):Prop
 |mk(a:Addr) (r:sv) (m:Int) (_:vs=[.ref a, .int m]) (_:SqL K H a (r.map V.int)) (_:0<=m) (_:r.length<=1000) (_:∀q H',Same H H'->H q=none->H' q=some (.lst ((d3 m r).map V.int))->Q (.ref q) H'):yy K vs H Q
def Ic(K:Frag):Sp:=λvs H Q _=>yy K vs H Q
theorem iW:∀i,7<=fu i
 |0=>∅
 |i+1=>by have:=iW i;show 7<=fu i+fu i+1;lia
inductive yA(K:Frag)(vs:List V)(H:Hp)(Q:VK):Prop
 |mk(a:Addr) (xs:List V) (M:pw) (n:Nat) (m:Int) (_:vs=[.ref a, .int m]) (_:H a=some (.lst xs)) (_:bu H xs M) (_:M.length<=8) (_:n<=8) (_:(∀r∈M,gk n 200 r)) (_:0<=m) (_:m<128) (_:∀(r:Nat) H',Same H H'->Q (.int (r:Int)) H'):yA K vs H Q
def Ie(K:Frag):Sp:=λvs H Q _=>yA K vs H Q
def neF(n p:Int)(t:Addr):List (Str×V):=aW "ties" (.ref t) (aW "points" (.int p) (aW TL (.int n) []))
theorem w9:¬(("points":Str)= "ties"):=#[9]
theorem C8:¬((TL:Str)= "ties"):=#[9]
theorem xD:¬((TL:Str)= "points"):=#[9]
theorem FA(n p:Int)(t:Addr):(neF n p t).lookup (TL:Str)=some (.int n):=by unfold neF;rw[aA _ _ C8,aA _ _ xD,aJ]
theorem qZ(n p:Int)(t:Addr):(neF n p t).lookup ("points":Str)=some (.int p):=by unfold neF;rw[aA _ _ w9,aJ]
theorem Fy(n p:Int)(t:Addr):(neF n p t).lookup ("ties":Str)=some (.ref t):=aJ _ _ _
theorem zX(n p:Int)(t:Addr){m:Str}(a:¬m= "ties")(b:¬m= "points")(c:¬m= TL):(neF n p t).lookup m=none:=by unfold neF;rw[aA _ _ a,aA _ _ b,aA _ _ c];rfl
theorem Fz(n p:Int)(t:Addr):(neF n p t).lookup (Ug:Str)=none:=zX _ _ _ #[9] #[9] #[9]
theorem zW(n p:Int)(t:Addr):(neF n p t).lookup ("pieces":Str)=none:=zX _ _ _ #[9] #[9] #[9]
def D7(C:Addr)(H:Hp)(a:Addr)(n:Int)(p:Nat)(ts:List (Nat×Nat)):Prop:=∃b t xs,H a=some (.ins C b (neF n p t))/\H t=some (.tup xs)/\dZ H xs ts
theorem D7.same(h:D7 C H a n p ts)(e:Same H H'):D7 C H' a n p ts:=by obtain⟨b,t,xs,c,d,f⟩:=h;show#[b,t,xs,e.at c,e.at d,f.ts (ic.of e)]
inductive BS(K:Frag)(vs:List V)(H:Hp)(Q:VK):Prop
 |mk(a b:Addr) (ms:sv) (t:Nat×Nat) (_:vs=[.ref a, .ref b]) (_:SqL K H a (ms.map V.int)) (_:H b=some (.tup [.int t.1, .int t.2])) (_:t.1<ms.length) (_:t.2<ms.length) (_:ms.length<=1000) (_:∀q H',Same H H'->H q=none->H' q=some (.lst ((mrg ms t.1 t.2).map V.int))->Q (.ref q) H'):BS K vs H Q
def KW(K:Frag):Sp:=λvs H Q _=>BS K vs H Q
inductive yH(K:Frag)(C:Addr)(vs:List V)(H:Hp)(Q:VK):Prop
 |mk(p dx a:Addr) (n pt:Int) (xs:List V) (ts:List (Nat×Nat)) (_:vs=[.ref p, .int n, .int pt, .ref a]) (_:H p=some (.ins C dx [])) (_:SqL K H a xs) (_:dZ H xs ts) (_:xs.length<=1000) (_:∀t ys H',H t=none->(∀b o,H b=some o->b≠p->H' b=some o)->H' p=some (.ins C dx (neF n pt t))->H' t=some (.tup ys)->dZ H' ys ts->Q .non H'):yH K C vs H Q
def AX(K:Frag)(C:Addr):Sp:=λvs H Q _=>yH K C vs H Q
inductive Hu(C:Addr)(vs:List V)(H:Hp)(Q:VK):Prop
 |mk(a:Addr) (n:Int) (p:Nat) (s:Nat) (ts:List (Nat×Nat)) (_:vs=[.ref a, .int (s:Int)]) (_:D7 C H a n p ts) (_:rZ p ts) (_:p<=1000) (_:ts.length<=8) (_:s<2^ts.length) (_:∀H',Same H H'->Q (.int (pcs p ts s:Nat)) H'):Hu C vs H Q
def Kb(C:Addr):Sp:=λvs H Q _=>Hu C vs H Q
inductive yB(C:Addr)(vs:List V)(H:Hp)(Q:VK):Prop
 |mk(a:Addr) (n:Int) (p:Nat) (s:Nat) (ts:List (Nat×Nat)) (_:vs=[.ref a, .int (s:Int)]) (_:D7 C H a n p ts) (_:rZ p ts) (_:p<=1000) (_:ts.length<=8) (_:s<2^ts.length) (_:∀H',Same H H'->Q (.int ((p:Int) - (pcs p ts s:Nat))) H'):yB C vs H Q
def AS(C:Addr):Sp:=λvs H Q _=>yB C vs H Q
theorem mx(val:Nat->Int):∀i,(PyProof.Rows.firstMet val i).length=JR val i
 |0=>rfl
 |i+1=>by rw[Sx,PyProof.Rows.step_length,PyProof.Rows.firstMet_any,mx val i];show _=if _ then _ else _;rw[List.any_map];rfl
theorem Gx:decide (V.int a=V.int b)=decide (a=b):=by
 by_cases h:a=b
 .subst h;simp
 .rw[NX h,NX λe=>h (V.int.inj e)]
def taF(n p:Int)(t:Addr):List (Str×V):=aW "rows" (.ref t) (aW "prime" (.int p) (aW TL (.int n) []))
theorem zJ:¬(("prime":Str)= "rows"):=#[9]
theorem C9:¬((TL:Str)= "rows"):=#[9]
theorem z4:¬((TL:Str)= "prime"):=#[9]
theorem Eo(n p:Int)(t:Addr):(taF n p t).lookup (TL:Str)=some (.int n):=by unfold taF;rw[aA _ _ C9,aA _ _ z4,aJ]
theorem Ci(n p:Int)(t:Addr):(taF n p t).lookup ("prime":Str)=some (.int p):=by unfold taF;rw[aA _ _ zJ,aJ]
theorem El(n p:Int)(t:Addr):(taF n p t).lookup ("rows":Str)=some (.ref t):=aJ _ _ _
theorem En(n p:Int)(t:Addr){m:Str}(a:¬m= "rows")(b:¬m= "prime")(c:¬m= TL):(taF n p t).lookup m=none:=by unfold taF;rw[aA _ _ a,aA _ _ b,aA _ _ c];rfl
theorem Em(n p:Int)(t:Addr):(taF n p t).lookup (Ug:Str)=none:=En _ _ _ #[9] #[9] #[9]
theorem Cj(n p:Int)(t:Addr):(taF n p t).lookup (T9:Str)=none:=En _ _ _ #[9] #[9] #[9]
def TaP(C:Addr)(H:Hp)(a:Addr)(n m:Int)(M:pw):Prop:=∃b t xs,H a=some (.ins C b (taF n m t))/\H t=some (.tup xs)/\jP H xs M
theorem TaP.same(h:TaP C H a n m M)(e:Same H H'):TaP C H' a n m M:=by obtain⟨b,t,xs,c,d,f⟩:=h;show#[b,t,xs,e.at c,e.at d,f.ts (ic.of e)]
inductive uE(K:Frag)(C:Addr)(vs:List V)(H:Hp)(Q:VK):Prop
 |mk(p dx a:Addr) (n m:Int) (xs:List V) (M:pw) (_:vs=[.ref p, .int n, .int m, .ref a]) (_:H p=some (.ins C dx [])) (_:H a=some (.lst xs)) (_:bu H xs M) (_:xs.length<=100) (_:∀t ys H',H t=none->(∀b o,H b=some o->b≠p->H' b=some o)->H' p=some (.ins C dx (taF n m t))->H' t=some (.tup ys)->jP H' ys M->Q .non H'):uE K C vs H Q
def wI(K:Frag)(C:Addr):Sp:=λvs H Q _=>uE K C vs H Q
def pick(s:Nat)(r:sv):List Int:=(bits s).map λz=>r.getD z.toNat 0
theorem Gp(n k:Int):(evF n k).lookup (Ug:Str)=none:=Gq _ _ #[9] #[9]
theorem DG(n k:Int):(evF n k).lookup (T9:Str)=none:=Gq _ _ #[9] #[9]
theorem dg.imp(F:dg P w K mg base k f ps sp)(h:∀vs H Q E,sp' vs H Q E->sp vs H Q E):dg P w K mg base k f ps sp':=by obtain⟨⟨c,a,b⟩,d⟩:=F;show#[#[c,a.imp h,b],d]
theorem nW.mono(M:nW P w K mg base j C m ps sp)(h:j<=k):nW P w K mg base k C m ps sp:=by obtain⟨c,f,a,F⟩:=M;show#[c,f,a,dg.mono F h]
theorem C3(n p:Int)(t:Addr):(neF n p t).lookup (T9:Str)=none:=zX _ _ _ #[9] #[9] #[9]
inductive uz(C:Addr)(vs:List V)(H:Hp)(Q:VK):Prop
 |mk(a:Addr) (n s:Nat) (m:Int) (M:pw) (_:vs=[.ref a, .int (s:Int)]) (_:TaP C H a n m M) (_:n<=8) (_:M.length<=8) (_:(∀r∈M,gk n 200 r)) (_:0<=m) (_:m<128) (_:s<2^n) (_:∀(r:Nat) H',Same H H'->Q (.int (r:Int)) H'):uz C vs H Q
def wG(C:Addr):Sp:=λvs H Q _=>uz C vs H Q
def HoW(b c d cL:Addr)(H:Hp)(a:Addr)(n:Nat):Prop:=(∃(e:Addr)(k:Int),H a=some (.ins b e (evF n k)))\/(∃(p:Nat) (ts:List (Nat×Nat)),D7 c H a n p ts/\rZ p ts/\p<=1000/\ts.length=n)\/
 (∃(m:Int) (M:pw),TaP d H a n m M/\M.length<=8/\(∀x∈M,gk n 200 x)/\0<=m/\m<128)\/LiW cL H a n
def J2(a b c cL C:Addr):Prop:=C=a\/C=b\/C=c\/C=cL
theorem LiW.same(h:LiW C H p n)(s:Same H H'):LiW C H' p n:=by obtain⟨ms,a,b⟩:=h;show#[ms,a.same s,b]
theorem HoW.same(h:HoW cE cN cT cL H a n)(s:Same H H'):HoW cE cN cT cL H' a n:=by
 rcases h with ⟨c,k,h⟩|⟨p,ts,h,b⟩|⟨m,M,h,b⟩|h
 .exact .inl #[c,k,s.at h]
 .exact .inr (.inl #[p,ts,h.same s,b])
 .exact .inr (.inr (.inl #[m,M,h.same s,b]))
 .exact .inr (.inr (.inr (h.same s)))
theorem HoW.sees(h:HoW c cN cT cL H a n):∃C,J2 c cN cT cL C/\∃b fs,H a=some (.ins C b fs)/\fs.lookup (Ug:Str)=none/\fs.lookup (T9:Str)=none/\fs.lookup (TL:Str)=some (.int (n:Int)):=by
 rcases h with ⟨b,k,h⟩|⟨p,ts,⟨b,t,xs,h,_⟩,d⟩|⟨m,M,⟨b,t,xs,h,_⟩,d⟩|⟨ms,⟨b,t,h,_⟩,_⟩
 .show#[c, .inl rfl,b,_,h,Gp _ _,DG _ _,Gs _ _]
 .show#[cN, .inr (.inl rfl),b,_,h,Fz _ _ _,C3 _ _ _,FA _ _ _]
 .show#[cT, .inr (.inr (.inl rfl)),b,_,h,Em _ _ _,Cj _ _ _,Eo _ _ _]
 .show#[cL, .inr (.inr (.inr rfl)),b,_,h,FN _ _,Di _ _,FP _ _]
inductive Ht(cE cN cT cL C:Addr)(vs:List V)(H:Hp)(Q:VK):Prop
 |mk(a:Addr) (n s:Nat) (_:vs=[.ref a, .int (s:Int)]) (_:HoW cE cN cT cL H a n) (_:(∃dx fs,H a=some (.ins C dx fs))) (_:n<=8) (_:s<2^n) (_:∀(z:Int) H',Same H H'->Q (.int z) H'):Ht cE cN cT cL C vs H Q
def wF(a b c cL C:Addr):Sp:=λvs H Q _=>Ht a b c cL C vs H Q
theorem dq{H:Hp}(h:H a=some (.ins C dx fs))(h':H a=some (.ins C' dx' fs')):C=C':=by rw[h]at h';cases h';rfl
structure Four(cE cN cT cL:Addr):Prop where
 en:cE≠cN
 et:cE≠cT
 el:cE≠cL
 nt:cN≠cT
 nl:cN≠cL
 tl:cT≠cL
theorem MR(d:Four cE cN cT cL)(vs:List V)(H:Hp)(Q:VK)(E:XK)(h:wF cE cN cT cL cE vs H Q E):AV cE vs H Q E:=by
 obtain⟨a,n,s,rfl,f,⟨l,o,c⟩,i,g,k⟩:=h;have:=xG i g;rcases f with ⟨b,q,h⟩|⟨p,ts,⟨b,t,xs,h,_⟩,e⟩|⟨m,M,⟨b,t,xs,h,_⟩,e⟩|⟨ms,⟨b,t,h,_⟩,_⟩
 .show#[a,b,117,h,99,λH' j=>k _ H' j]
 .exact absurd (dq c h) d.en
 .exact absurd (dq c h) d.et
 .exact absurd (dq c h) d.el
theorem MP(d:Four cE cN cT cL)(vs:List V)(H:Hp)(Q:VK)(E:XK)(h:wF cE cN cT cL cN vs H Q E):AS cN vs H Q E:=by
 obtain⟨a,n,s,rfl,i,⟨o,q,b⟩,u,j,k⟩:=h;rcases i with ⟨c,r,h⟩|⟨p,ts,h,e,f,g⟩|⟨m,M,⟨c,t,xs,h,_⟩,e⟩|⟨ms,⟨c,t,h,_⟩,_⟩
 .exact absurd (dq h b) d.en
 .show#[a,_,p,s,ts,2,h,e,f,9,by rw[g];exact j,λH' l=>k _ H' l]
 .exact absurd (dq b h) d.nt
 .exact absurd (dq b h) d.nl
theorem MO(d:Four cE cN cT cL)(vs:List V)(H:Hp)(Q:VK)(E:XK)(h:wF cE cN cT cL cT vs H Q E):wG cT vs H Q E:=by
 obtain⟨a,n,s,rfl,j,⟨u,v,b⟩,o,l,k⟩:=h;rcases j with ⟨c,w,h⟩|⟨p,ts,⟨c,t,xs,h,_⟩,e⟩|⟨m,M,h,e,f,g,i⟩|⟨ms,⟨c,t,h,_⟩,_⟩
 .exact absurd (dq h b) d.et
 .exact absurd (dq h b) d.nt
 .show#[a,n,s,m,M,2,h,o,e,f,g,i,l,λr H' q=>k _ H' q]
 .exact absurd (dq b h) d.tl
theorem MQ(d:Four cE cN cT cL)(vs:List V)(H:Hp)(Q:VK)(E:XK)(h:wF cE cN cT cL cL vs H Q E):AU cL vs H Q E:=by
 obtain⟨a,n,s,rfl,g,⟨o,q,c⟩,j,i,k⟩:=h;have:=xG j i;rcases g with ⟨e,r,h⟩|⟨p,ts,⟨e,t,xs,h,_⟩,b⟩|⟨m,M,⟨e,t,xs,h,_⟩,b⟩|⟨ms,h,b,f⟩
 .exact absurd (dq h c) d.el
 .exact absurd (dq h c) d.nl
 .exact absurd (dq h c) d.tl
 .show#[a,11,ms,2,h,b,f,99,λH' l=>k _ H' l]
inductive uw(cE cN cT cL:Addr)(vs:List V)(H:Hp)(Q:VK):Prop
 |mk(a:Addr) (n:Nat) (_:vs=[.ref a]) (_:HoW cE cN cT cL H a n) (_:n<=8) (_:∀(z:Int) H',Same H H'->Q (.int z) H'):uw cE cN cT cL vs H Q
def Ew(a b c cL:Addr):Sp:=λvs H Q _=>uw a b c cL vs H Q
inductive uI(cE cN cT cL:Addr)(vs:List V)(H:Hp)(Q:VK):Prop
 |mk(a:Addr) (n:Nat) (_:vs=[.ref a]) (_:HoW cE cN cT cL H a n) (_:n<=8) (_:∀p (zs:sv) H',Same H H'->H' p=some (.lst (zs.map V.int))->zs.length<=256->(∀z∈zs,0<=z/\z<256)->Q (.ref p) H'):uI cE cN cT cL vs H Q
def wL(a b c cL:Addr):Sp:=λvs H Q _=>uI a b c cL vs H Q
def yP(z:Str)(a:List V)(H:Hp):Prop:=(z= Ui/\tD [] a H)\/(z= Uv/\w6 [] a H)\/(z= T5/\jy [] a H)\/((z= TX\/z= TY\/z= TZ)/\oH [] a H)
def bC(z:Str):Prop:=z= TX\/z= TY\/z= TZ
def iq(z:Str):Prop:=z= Ui\/z= Uv\/z= T5\/bC z
theorem yP.six(h:yP z ys H):iq z:=by
 rcases h with ⟨e,_⟩|⟨e,_⟩|⟨e,_⟩|⟨e,_⟩
 .exact .inl e
 .exact .inr (.inl e)
 .exact .inr (.inr (.inl e))
 .exact .inr (.inr (.inr e))
inductive Kx(cE cN cT cL Cx:Addr)(z:Str)(vs:List V)(H:Hp)(Q:VK)(E:XK):Prop
 |mk(hs:V) (g:Addr) (ys:List V) (_:vs=[hs, .ref g]) (_:H g=some (.lst ys)) (_:yP z ys H) (_:(∀p n H',Same H H'->HoW cE cN cT cL H' p n->n<=8->Q (.ref p) H')) (_:(bC z->∀ea H',Same H H'->E (.ref Cx) (some ea) H')):Kx cE cN cT cL Cx z vs H Q E
def wH(a b c cL Cx:Addr)(z:Str):Sp:=λvs H Q E=>Kx a b c cL Cx z vs H Q E
inductive Hw(cE cN cT cL Cx:Addr)(vs:List V)(H:Hp)(Q:VK)(E:XK):Prop
 |mk(z:Str) (hs:V) (g:Addr) (ys:List V) (_:vs=[.str z,hs, .ref g]) (_:H g=some (.lst ys)) (_:yP z ys H) (_:(∀p n H',Same H H'->HoW cE cN cT cL H' p n->n<=8->Q (.ref p) H')) (_:(bC z->∀ea H',Same H H'->E (.ref Cx) (some ea) H')):Hw cE cN cT cL Cx vs H Q E
def MI(a b c cL Cx:Addr):Sp:=λvs H Q E=>Hw a b c cL Cx vs H Q E
theorem Gb(h:yP Ui ys H):tD [] ys H:=by
 rcases h with ⟨_,h⟩|⟨e,_⟩|⟨e,_⟩|⟨e,_⟩
 .exact h
 .exact absurd e ∅
 .exact absurd e ∅
 .exact absurd e ∅
theorem JE(h:yP Uv ys H):w6 [] ys H:=by
 rcases h with ⟨e,_⟩|⟨_,h⟩|⟨e,_⟩|⟨e,_⟩
 .exact absurd e ∅
 .exact h
 .exact absurd e ∅
 .exact absurd e ∅
theorem Dx(h:yP T5 ys H):jy [] ys H:=by
 rcases h with ⟨e,_⟩|⟨e,_⟩|⟨_,h⟩|⟨e,_⟩
 .exact absurd e ∅
 .exact absurd e ∅
 .exact h
 .exact absurd e ∅
theorem rE(hz:bC z)(h:yP z ys H):oH [] ys H:=by
 rcases h with ⟨e,_⟩|⟨e,_⟩|⟨e,_⟩|⟨_,h⟩
 .subst e;exact absurd hz (by unfold bC;decide)
 .subst e;exact absurd hz (by unfold bC;decide)
 .subst e;exact absurd hz (by unfold bC;decide)
 .exact h
def dkF(d:Addr):List (Str×V):=aW "houses" (.ref d) []
theorem rK(d:Addr):(dkF d).lookup ("houses":Str)=some (.ref d):=aJ _ _ _
theorem Gw(d:Addr){m:Str}(h:¬m= "houses"):(dkF d).lookup m=none:=by unfold dkF;rw[aA _ _ h];rfl
def yQ(C:Addr)(H:Hp)(p d:Addr):Prop:=∃a,H p=some (.ins C a (dkF d))/\H d=some (.dK [])
theorem yQ.same(h:yQ C H p d)(s:Same H H'):yQ C H' p d:=by obtain⟨a,b,c⟩:=h;show#[a,s.at b,s.at c]
def SameBut(d:Addr)(H H':Hp):Prop:=∀b o,H b=some o->b≠d->H' b=some o
inductive uG(C:Addr)(vs:List V)(H:Hp)(Q:VK):Prop
 |mk(p dx:Addr) (_:vs=[.ref p]) (_:H p=some (.ins C dx [])) (_:∀d H',H d=none->SameBut p H H'->yQ C H' p d->Q .non H'):uG C vs H Q
def wK(C:Addr):Sp:=λvs H Q _=>uG C vs H Q
inductive uJ(C Cn:Addr)(vs:List V)(H:Hp)(Q:VK)(E:XK):Prop
 |mk(p d:Addr) (z:Str) (_:vs=[.ref p, .str z]) (_:yQ C H p d) (_:z.length<=61) (_:∀ea,H ea=none->E (.ref Cn) (some ea) H):uJ C Cn vs H Q E
def wN(C a:Addr):Sp:=λvs H Q E=>uJ C a vs H Q E
inductive Hs(C Cl Cn Cx:Addr)(vs:List V)(H:Hp)(Q:VK)(E:XK):Prop
 |mk(p d:Addr) (z:Str) (_:vs=[.ref p, .str z]) (_:yQ C H p d) (_:gj z) (_:(lnW (aB z)=0->Bad Cl E H)) (_:(lnW (aB z)=1->Bad Cn E H)) (_:(lnW (aB z)=3->Bad Cx E H)) (_:(2<=lnW (aB z)->∀H',SameBut d H H'->Q (.str "ok") H')):Hs C Cl Cn Cx vs H Q E
def Ka(C a b Cx:Addr):Sp:=λvs H Q E=>Hs C a b Cx vs H Q E
inductive B5(vs:List V)(H:Hp)(Q:VK):Prop
 |mk(p:Addr) (kvs:List (Key×V)) (b c t:Nat) (_:vs=[.ref p, .int (b:Int), .int (c:Int), .int (t:Int)]) (_:H p=some (.dK kvs)) (_:c<256) (_:t<8) (_:∀x H',Same H H'->Q (.bl x) H'):B5 vs H Q
def K8:Sp:=λvs H Q _=>B5 vs H Q
inductive HF(K:Frag)(vs:List V)(H:Hp)(Q:VK):Prop
 |mk(a:Addr) (bs:sk) (_:vs=[.ref a]) (_:SqL K H a ((a6 bs).map V.int)) (_:bs.length<=600) (_:(∀b∈bs,b<256)) (_:∀o v H',Same H H'->J3 H' o v->Q v H'):HF K vs H Q
def EI(K:Frag):Sp:=λvs H Q _=>HF K vs H Q
inductive Kz(K:Frag)(Z:List Nat->Prop)(vs:List V)(H:Hp)(Q:VK):Prop
 |mk(a:Addr) (n:Nat) (bs:sk) (_:vs=[.int (n:Int), .ref a]) (_:SqL K H a ((a6 bs).map V.int)) (_:n<=8) (_:bs.length<=600) (_:(∀b∈bs,b<2^n)) (_:∀o v H',Same H H'->J3 H' o v->(o=none->Z bs)->Q v H'):Kz K Z vs H Q
def Il(K:Frag)(Z:List Nat->Prop):Sp:=λvs H Q _=>Kz K Z vs H Q
theorem dU{i:Nat}(h:((a6 bs).map V.int)[i]?=some x):∃b:Nat,x= .int (b:Int)/\b∈bs:=by obtain⟨z,rfl,hz⟩:=bB h;obtain⟨b,hb,rfl⟩:=rg hz;show#[b,2,N5 hb]
theorem mE{s i:Nat}(h:((bits s).map V.int)[i]?=some x):∃t:Nat,x= .int (t:Int)/\t<8/\s.testBit t=true:=by obtain⟨z,rfl,hz⟩:=bB h;obtain⟨t,b,a,rfl⟩:=gc.mp (N5 hz);show#[t,2,b,a]
theorem le3:3<=sizeLine:=∅
theorem pU{R:Prop}(a:J3 H1 o v)(h0:o=none->v= .non->R)(b:∀p,v= .ref p->R):R:=by
 cases o with
 |none=>exact h0 rfl a
 |some t=>
  obtain⟨p,e,_⟩:=a;exact b p e
inductive Ky(p:List Nat->Bool)(vs:List V)(H:Hp)(Q:VK):Prop
 |mk(z:Str) (_:vs=[.str z]) (_:z.length<=2000) (_:Q (.bl (p (cp z))) H):Ky p vs H Q
def MJ(p:List Nat->Bool):Sp:=λvs H Q _=>Ky p vs H Q
inductive B3(vs:List V)(H:Hp)(Q:VK):Prop
 |mk(z:Str) (n:Nat) (_:vs=[.str z, .int (n:Int)]) (_:n<=8) (_:z.length<=2000) (_:∀H',Same H H'->Q (.bl (dJ n (cp z))) H'):B3 vs H Q
def K6:Sp:=λvs H Q _=>B3 vs H Q
inductive Hz(K:Frag)(vs:List V)(H:Hp)(Q:VK):Prop
 |mk(a:Addr) (ws:r9) (_:vs=[.ref a]) (_:SqL K H a (ws.map V.str)) (_:fw ws) (_:∀H',Same H H'->Q (.bl (ws.all λz=>de (cp z))) H'):Hz K vs H Q
def MK(K:Frag):Sp:=λvs H Q _=>Hz K vs H Q
def DL(o:Option Nat):Int:=match o with|some k=>(k:Int)|none=> -1
inductive yN(vs:List V)(H:Hp)(Q:VK):Prop
 |mk(z:Str) (m:Nat) (_:vs=[.str z, .int (m:Int)]) (_:m<=99) (_:Q (.int (DL (bj m (cp z)))) H):yN vs H Q
def Ik:Sp:=λvs H Q _=>yN vs H Q
theorem Cu(c:Nat):decide (c∈cp Tu)=decide (c∈pZ):=rfl
theorem JJ(c:Nat):decide (c∈cp Uk)=decide (c∈vJ):=rfl
theorem Jt(z:Str):decide (((z.length:Nat):Int)<9)=decide ((cp z).length<=8):=by rw[Ox,bh];lia
theorem vO{z:Str}{i c:Nat}(h:z.cps[i]?=some c):(cp z)[i]?=some c:=#[5,h]
theorem sQ{l:sk}(h:l[i]?=some c)(a:(l.take i).all p=true)(b:p c=true):(l.take (i+1)).all p=true:=by rw[Pk,h,List.all_append,a];simp[b]
theorem BL{l:sk}{i c:Nat}(h:l[i]?=some c)(a:p c=false):l.all p=false:=RE.mpr #[c,N5 h,by rw[a];decide]
theorem AR(k:Nat):cp ((toString ((k:Nat):Int):tT):Str)=decs k:=PySem.W.KIN.signs_num k
theorem yZ:decide (V.str z=V.str ((toString ((k:Nat):Int):tT):Str))=decide (cp z=decs k):=by
 rw[Ox];constructor
 .intro e;rw[V.str.inj e,AR]
 .intro e;rw[<-AR]at e;cases z with
  |mk a=>
   cases a with
   |mk l=>
    generalize ((toString ((k:Nat):Int):tT):Str)=y at e;cases y with
    |mk b=>
     cases b with
     |mk m=>
      have:l=m:=e;rw[this]
theorem De(h:k<2^1920):((k:Nat):Int).natAbs.log2<1920:=by
 rw[Int.natAbs_natCast];by_cases e:k=0
 .rw[e];decide
 .exact(RI e).mpr h
theorem JQ(a:k<=m)(e:L=decs k):DL (bj m L)=k:=by rw[jN.mpr #[a,e]];rfl
theorem GF(h:∀k,k<m+1->L≠decs k):DL (bj m L)= -1:=by
 cases e:bj m L with
 |none=>rfl
 |some k=>
  obtain⟨b,a⟩:=jN.mp e;exact absurd a (h k ())
theorem pW:decide (V.str z=V.str (tx l))=decide (cp z=l):=by rw[Ox];exact kF
theorem gh(z:Str)(k:Nat):cp (Txt.slice z none (some (k:Int)))=(cp z).take k:=by
 have e:=eq_of_beq (PyProof.Rows.slice_to_min_closes (x:=z) (n:=(k:Int)) (Pc k) rfl);rw[e];show List.take _ (List.drop 0 (cp z))=_;rw[Td];split
 .rename_i h;rw[PL (l:=cp z) (i:=k) (by rw[bh];lia),PL (by rw[bh];lia)]
 .rw[show((k:Int) -0).toNat=k by lia]
theorem GC(z:Str):cp (Txt.slice z none (some 1))=(cp z).take 1:=gh z 1
theorem Ej(L:sk)(c:Nat):L.take 1=[c]↔L.head?=some c:=by
 cases L with
 |nil=>simp
 |cons a r=>simp
def noM(L:sk):List Nat:=if L.head?=some 45/\L≠[45,48]then L.tail else L
theorem Fq(L:sk):de L=((noM L).all (λc=>decide (c∈vJ))&&(decide (noM L=[48])||(!decide (noM L=[])&& !decide ((noM L).head?=some 48)))):=by
 have d:∀M:List Nat,eR M=(M.all (λc=>decide (c∈vJ))&&(decide (M=[48])||(!decide (M=[])&& !decide (M.head?=some 48)))):=λM=>by
  unfold eR;cases M with
  |nil=>rfl
  |cons a r=>simp
 rw[<-d];unfold de noM;by_cases h:L.head?=some 45
 .rw[NZ h];by_cases b:L=[45,48]
  .rw[b,NW λh=>h.2 rfl];decide
  .rw[NZ #[h,b]];have:¬L.tail=[48]:=λe=>by
    cases L with
    |nil=>cases h
    |cons a r=>exact b (by rw[OA h,show r=[48]from e])
   rw[NX this];simp
 .rw[NW h,NW λb=>h b.1]
theorem LF:decide (V.str #[#v[c]]=V.str (tx [d]))=decide (c=d):=by rw[pW,Ox];show#[λe=>(RQ e).1,λe=>by rw[e]]
theorem Cw{n:Nat}(h:n<=8):cp (Txt.slice "abcdefgh" none (some (n:Int)))=(List.range n).map (97+ ·):=by
 rw[gh];have:∀n,n<=8->(cp "abcdefgh").take n=(List.range n).map (97+ ·):=∅
 exact this n h
theorem xM:∀ps:List Str,cp (Str.join "" ps)=(ps.map λx=>cp x).flatten
 | []=>rfl
 | [p]=>(OP _).symm
 |p::q::r=>by show cp ((p++("":Str))++Str.join "" (q::r))=_;unfold cp;rw[OH,OH];have:=xM (q::r);unfold cp at this;rw[this,show("":Str).cps.toList=[]from rfl,OP];rfl
theorem ua:∀l:List Nat,((l.map λc=>(#[#v[c]]:Str)).map λx=>cp x).flatten=l
 | []=>rfl
 |a::r=>OL (a:: ·) (ua r)
theorem rz(l:sk):Txt.join "" (l.map λc=>(#[#v[c]]:Str))=tx l:=by
 have e:cp (Txt.join "" (l.map λc=>(#[#v[c]]:Str)))=l:=by rw[show Txt.join "" (l.map λc=>(#[#v[c]]:Str))=Str.join "" (l.map λc=>(#[#v[c]]:Str))from StrLaws.glued_eq_join _ _];exact(xM _).trans (ua l)
 exact V.str.inj (kF.mpr e)
theorem Nu(c:Nat)(r:sk):atI (c::r) 0=some c:=bH (xs:=c::r) (j:=0) rfl
theorem LN:("abcdefgh":Str).length<=sizeLine:=by show 8<=sizeLine;decide
def om:V->Str
 | .str z=>z
 |_=> ""
theorem kY(p:Str->Bool)(f:Str->Str)(ws:r9):d5 (λv=>p (om v)) (λv=> .str (f (om v))) (ws.map V.str)=((ws.filter p).map f).map V.str:=by unfold d5;rw[Rt,OE,OE];rfl
theorem yp{ws:r9}:decide (V.int ((((ws.filter λz=> !p z).map λz=>z).map V.str).length:Nat)=V.int 0)=ws.all p:=by
 rw[List.map_id',My,O8,OB,O3];constructor
 .intro e z hz;have b:=V.int.inj e;have a:=RJ.mp (Pn.mp (show(ws.filter λz=> !p z).length=0 by lia)) z hz;cases h:p z with
  |true=>rfl
  |false=>rw[h]at a;exact absurd rfl a
 .intro h;rw[RJ.mpr λz hz=>by rw[h z hz];decide];rfl
theorem qN:∀l:List Nat,(l.map λ_=>1).sum=l.length
 | []=>rfl
 |a::r=>by rw[OI,List.sum_cons,qN r,Oa];lia
def gf(k:Nat):Str:=if k=0 then Uw else if k=1 then "name" else if k=2 then "ok" else "house"
inductive Kv(K:Frag)(ok:List Str->Bool)(y:Str)(vs:List V)(H:Hp)(Q:VK):Prop
 |mk(a:Addr) (ws:r9) (_:vs=[.ref a]) (_:SqL K H a (ws.map V.str)) (_:fw ws) (_:∀H',Same H H'->Q (.str (if ok ws=true then y else Uw)) H'):Kv K ok y vs H Q
def Ey(K:Frag)(ok:List Str->Bool)(y:Str):Sp:=λvs H Q _=>Kv K ok y vs H Q
theorem GH:decide (0<=DL (bj m L))=(bj m L).isSome:=by
 cases bj m L with
 |none=>rfl
 |some k=>exact N2 (Pc k)
theorem GG:decide (DL (bj m L)<0)= !(bj m L).isSome:=by
 cases bj m L with
 |none=>rfl
 |some k=>exact NX (λh=>absurd h (by show¬((k:Int)<0);lia))
theorem JM(h:bj 8 (cp x)=some n):kA [x,y]=(bj n (cp y)).isSome:=by show(match bj 8 (cp x)with|some n=>(bj n (cp y)).isSome|none=>false)=_;rw[h]
theorem JN(h:bj 8 (cp x)=none):kA [x,y]=false:=by show(match bj 8 (cp x)with|some n=>(bj n (cp y)).isSome|none=>false)=_;rw[h]
theorem uc{n:Nat}(h:n<=9)(c:Nat):decide (c∈cp (Txt.slice Uk none (some (n:Int))))=decide (48<=c/\c<48+n):=by
 rw[gh,Ox];have:∀n,n<=9->(cp Uk).take n=(List.range n).map (48+ ·):=∅
 rw[this n h,Of];constructor
 .rintro⟨j,a,rfl⟩;have:=OQ.mp a;lia
 .intro h;show#[c-48,OQ.mpr (),9]
theorem Kp:(Uk:Str).length<=sizeLine:=by show 10<=sizeLine;decide
theorem HR{L:sk}(h:¬L.length=2):ja p L=false:=by unfold ja;rw[NX h];rfl
theorem uP:ja p [a,b]=(decide (48<=a/\a<48+p)&&decide (48<=b/\b<48+p)):=by unfold ja;simp
theorem Ei{ws:r9}(h:ws[i]?=some z)(a:(ws.take i).all p=true)(b:p z=true):(ws.take (i+1)).all p=true:=by rw[Pk,h,List.all_append,a];simp[b]
theorem Cr{ws:r9}:decide (0<(((((ws.filter λz=> !p z).map λz=>z).map V.str).length:Nat):Int))= !ws.all p:=by
 have e:=yp (ws:=ws) (p:=p);rw[<-e];generalize ((((ws.filter λz=> !p z).map λz=>z).map V.str).length)=n;rw[O8,OB,Pb,Pl];constructor
 .intro h e;have:=V.int.inj e;lia
 .intro h;refine PV λa=>h ?_;rw[show n=0 by lia];rfl
theorem CF:∀m,m<=99->decide (m∈nopr)=(!decide (m=1)&&decide ((gw (λi=>decide (V.int ((m:Int) % (2+(i:Nat)))=V.int 0)) (λi=> .int (2+(i:Nat))) ((m:Int) -2).toNat).length=0)):=#[9]
theorem ml(n:Nat):decide (V.int (n:Int)=V.int 2)=decide (n=2):=hU n 2
theorem yX(h:bj 99 (cp x)=none):fK (x::y::r)=false:=by
 have:(eR (cp x)&&decide (NumText.digitsVal (cp x)∈nopr))=false:=by
  refine SD.mpr λe=> ?_;rw[Oz,OB]at e;have le:∀m∈nopr,m<=99:=∅
  unfold bj at h;rw[NZ #[e.1,le _ e.2]]at h;cases h
 rw[jc,this];rfl
theorem Cg(h:bj 8 (cp y)=none):fK (x::y::r)=false:=by rw[jc,h];exact OM _
theorem Ek{r:r9}(h:bj 99 (cp x)=some m)(a:bj 8 (cp y)=some n):fK (x::y::r)=(decide (m∈nopr)&&((r.all λx=>de (cp x))&&i3 n r.length)):=by obtain⟨c,b⟩:=jN.mp h;rw[jc,a,b,yb,yc,OO]
theorem uh(m:Nat):DL (some m)=(m:Int):=rfl
theorem EO(n m:Nat):i3 n m=(!decide (8*(n:Int)<(m:Int))&& !decide (0<(m:Int) % (if(n:Int)>1 then(n:Int)else 1))):=by
 unfold i3;by_cases h0:n=0
 .rw[NZ h0,h0,NW ∅,O8,Oz,Pb,Pb,OB,Pl,Pl];lia
 .have e:(if(n:Int)>1 then(n:Int)else 1)=n:=by split<;>lia
  rw[NW h0,e,O8,Oz,Oz,Pb,Pb,OB,OB,Pl,Pl];have a:((m:Int) % (n:Int))=((m % n:Nat):Int):=(Int.natCast_emod m n).symm;rw[a];lia
inductive Hm(K:Frag)(ln:Str->List Str->Nat)(vs:List V)(H:Hp)(Q:VK):Prop
 |mk(v:Str) (a:Addr) (ws:r9) (_:vs=[.str v, .ref a]) (_:SqL K H a (ws.map V.str)) (_:fw ws) (_:∀H',Same H H'->Q (.str (gf (ln v ws))) H'):Hm K ln vs H Q
def Ex(K:Frag)(ln:Str->List Str->Nat):Sp:=λvs H Q _=>Hm K ln vs H Q
inductive HE(vs:List V)(H:Hp)(Q:VK):Prop
 |mk(z:Str) (_:vs=[.str z]) (_:gj z) (_:∀H',Same H H'->Q (.str (gf (lnW (aB z)))) H'):HE vs H Q
def MM:Sp:=λvs H Q _=>HE vs H Q
theorem nY:decide (V.str v=V.str y)=decide (v=y):=by rw[Ox];show#[V.str.inj,λe=>by rw[e]]
theorem Bw(n:Nat):decide (V.int (n:Int)=V.int 1)=decide (n=1):=hU n 1
theorem Ju(n:Nat):decide (V.int (n:Int)=V.int 3)=decide (n=3):=hU n 3
theorem mq(b:Bool)(j:Nat):gf (if b=true then j else 0)=if b=true then gf j else Uw:=by cases b<;>rfl
theorem FZ(b:Bool):gf (if b=true then 1 else 0)=if b=true then("name":Str)else(Uw:Str):=mq b 1
theorem mw(z:Str)(ws:r9):inV (.str z) (ws.map V.str)=decide (z∈ws):=by
 unfold inV
 induction ws with
 |nil=>rfl
 |cons n r b=>
  rw[OI,QG,b];by_cases h:n=z
  .subst h;simp[eqV]
  .have a:¬z=n:=λe=>h e.symm;simp[eqV,h,a]
theorem j0(ws:r9):(ws.map V.str).all kz=true:=by rw[List.all_map];exact O3.mpr λ_ _=>rfl
def jL(v:Str)(ws:r9):Bool:=if v= Up then cw ws else if v= "side" then i9 ws else if v= "out"\/v= Uu then eQ ws else false
theorem FJ{v:Str}(a:¬v= Ui)(b:¬v= Uv)(c:¬v= T5)(d:¬(v= TX\/v= TY\/v= TZ)):lnM v ws=if jL v ws=true then 1 else 0:=by
 unfold lnM jL;rw[NW a,NW b,NW c,NW d];split
 .rfl
 .split
  .rfl
  .split
   .rfl
   .rfl
def oR(v:Str)(ws:r9):Bool:=if v∈fv then cw ws else if v= T4 then fq ws else if v= Ut then eU ws else if v= Ug\/v= Um then eQ ws else if v= "same"\/v= Us then i9 ws else false
theorem FL:lnA v ws=if oR v ws=true then 1 else 0:=by
 unfold lnA oR;split
 .rfl
 .split
  .rfl
  .split
   .rfl
   .split
    .rfl
    .split
     .rfl
     .rfl
theorem Ef:i9 [x,y]=(a9 (cp x)&&a9 (cp y)):=rfl
theorem vH{r:r9}:rD (x::r)=(a9 (cp x)&&r.all λx=>de (cp x)):=rfl
theorem JI(h:a9 (cp x)=false):oR v (x::r)=false:=by
 have a:cw (x::r)=false:=by
  unfold cw;split
  .rename_i e;rw[<-(RQ e).1,h]
  .rfl
 have b:rD (x::r)=false:=by rw[vH,h];rfl
 have c:eQ (x::r)=false:=by
  unfold eQ;split
  .rename_i e;rw[<-(RQ e).1,h];rfl
  .rfl
 have d:i9 (x::r)=false:=by
  unfold i9;split
  .rename_i e;rw[<-(RQ e).1,h];rfl
  .rfl
 unfold oR fq eU;rw[a,b,c,d,OM,OM];simp only[ite_self]
def fA1(v:Str)(ws:r9):Bool:=if v∈fv then decide (ws.length=1)else false
def fA2(v:Str)(ws:r9):Bool:=if v= T4 then(decide (ws.length<10)&&(ws.drop 1).all λz=>de (cp z))else fA1 v ws
def fA3(v:Str)(ws:r9):Bool:=if v= Ut then(decide (ws.length=3)&&(ws.drop 1).all λz=>de (cp z))else fA2 v ws
def fA4(v:Str)(ws:r9):Bool:=if v= Ug\/v= Um then(decide (ws.length=2)&&dJ 8 (cp (ws.getD 1 "")))else fA3 v ws
def fA5(v:Str)(ws:r9):Bool:=if v= "same"\/v= Us then(decide (ws.length=2)&&a9 (cp (ws.getD 1 "")))else fA4 v ws
theorem Ee(hx:a9 (cp x)=true)(p:Str->Bool)(f:List Str->Bool)(b:∀y,f [x,y]=(a9 (cp x)&&p y))(a:¬(x::r).length=2->f (x::r)=false):(decide ((x::r).length=2)&&p ((x::r).getD 1 ""))=f (x::r):=by
 cases r with
 |nil=>rw[a (by show¬1=2;decide)];rfl
 |cons y r=>
  cases r with
  |nil=>rw[b,hx];rfl
  |cons z r=>rw[a (by rw[Oa,Oa,Oa];lia),NX (by rw[Oa,Oa,Oa];lia)];rfl
theorem JK(hx:a9 (cp x)=true):fA5 v (x::r)=oR v (x::r):=by
 have f:decide ((x::r).length=1)=cw (x::r):=by
  cases r with
  |nil=>exact hx.symm
  |cons y r=>exact NX (by rw[Oa,Oa];lia)
 have g:(decide ((x::r).length<10)&&(List.drop 1 (x::r)).all λz=>de (cp z))=fq (x::r):=by unfold fq;rw[vH,hx,OO];congr 1;rw[Ox];lia
 have i:(decide ((x::r).length=3)&&(List.drop 1 (x::r)).all λz=>de (cp z))=eU (x::r):=by unfold eU;rw[vH,hx,OO];rfl
 have j:=Ee (r:=r) hx (λy=>dJ 8 (cp y)) eQ (λy=>rfl) rB;have k:=Ee (r:=r) hx (λy=>a9 (cp y)) i9 (λy=>rfl) uO;unfold fA5 fA4 fA3 fA2 fA1 oR;rw[f,g,i,j,k];by_cases b:v∈fv
 .have n:∀y:Str,y∉fv->¬v=y:=λy l e=>l (e▸b);rw[NW (λh=>h.elim (n _ ∅) (n _ ∅)),NW (λh=>h.elim (n _ ∅) (n _ ∅)),NW (n _ ∅),NW (n _ ∅),NZ b,NZ b]
 .rw[NW b,NW b];by_cases a:v= T4
  .rw[NZ a,NZ a,NW (by rw[a];decide),NW (by rw[a];decide),NW (by rw[a];decide)]
  .rw[NW a,NW a];by_cases c:v= Ut
   .rw[NZ c,NZ c,c,NW ∅,NW ∅]
   .rw[NW c,NW c];by_cases d:v= Ug\/v= Um
    .rw[NZ d,NZ d,NW (by rcases d with rfl|rfl<;>decide)]
    .rw[NW d,NW d]
theorem Km(b:Bool):atI [V.str Uw,V.str "name"] (if b=true then 1 else 0)=some (.str (if b=true then "name" else Uw)):=by
 cases b
 .exact bH (xs:=[V.str Uw,V.str "name"]) (j:=0) rfl
 .exact bH (xs:=[V.str Uw,V.str "name"]) (j:=1) rfl
def Xs(xs:sv):Prop:=xs.length=12/\∀x∈xs,0<=x/\x<2^27
theorem Xs.b{xs:sv}(h:Xs xs)(j:Nat):0<=xs.getD j 0/\xs.getD j 0<2^27:=by
 by_cases a:j<xs.length
 .refine h.2 _ ?_;rw[OD,Ob a];exact PD a
 .rw[OD,QB ()];decide
theorem Xs.a{xs:sv}(h:Xs xs){j:Nat}(b:j<12):atI (xs.map V.int) (j:Int)=some (.int (xs.getD j 0)):=dY (by rw[h.1];exact b)
inductive uy(vs:List V)(H:Hp)(Q:VK):Prop
 |mk(c:Int) (k:Nat) (_:vs=[.int c, .int (k:Int)]) (_:k<=63) (_:∀p xs H',Same H H'->H p=none->H' p=some (.lst (xs.map V.int))->Xs xs->Q (.ref p) H'):uy vs H Q
def EA:Sp:=λvs H Q _=>uy vs H Q
inductive HB(vs:List V)(H:Hp)(Q:VK):Prop
 |mk(x:Int) (_:vs=[.int x]) (_:0<=x) (_:∀(n:Nat) H',n<=8->Same H H'->Q (.int (n:Int)) H'):HB vs H Q
def ML:Sp:=λvs H Q _=>HB vs H Q
def Wm(m:Nat)(z:Str):Prop:=bP m z/\32∉cp z
structure Wd(z:Str):Prop where
 wk:Wk z
 six:uu (cp z)
 no:32∉cp z
theorem Wm.wd(h:Wm m z)(a:m<=60):Wd z:=#[h.1.mono (), .inl (by rw[bh];exact NV h.1.1 a),h.2]
theorem Wm.app(h:Wm m a)(h':Wm k b):Wm (m+k) (a++b):=#[h.1.app h'.1,λe=>by unfold cp at e;rw[OH]at e;exact(OS.mp e).elim h.2 h'.2]
theorem Wm.mono(h:Wm m z)(a:m<=k):Wm k z:=#[h.1.mono a,h.2]
def wmB(m:Nat)(L:sk):Bool:=decide (L.length<=m)&&L.all λc=>decide (c<128)&& !decide (c=32)
theorem nX(h:wmB m (cp z)=true):Wm m z:=by
 unfold wmB at h;rw[Oz,OB,bh,O3]at h;show#[#[h.1,λc a=> ?_],λe=> ?_]
 .have:=h.2 c a;rw[Oz,OB]at this;exact this.1
 .have:=h.2 32 e
  revert this
  decide
theorem KA(h:c<128)(a:¬c=32):Wm 1 #[#v[c]]:=#[bP.one h,λe=>a (Oj.mp e).symm]
theorem xu(z:Int):32∉cp ((toString z:tT):Str):=λe=>by
 have key:∀n:Nat,32∉ (Nat.toDigits 10 n).map Char.toNat:=λn h=>by
  have:=oU n 32 h
  revert this
  decide
 unfold cp at e;rw[md]at e;split at e
 .rcases N1.mp e with e|e
  .cases e
  .exact key _ e
 .exact key _ e
theorem eV{z:Int}(a:0<k)(h:z.natAbs<10^k):Wm (k+1) ((toString z:tT):Str):=#[#[vA a h,tN z],xu z]
theorem KC{z:Int}(h:z.natAbs<10^60):Wd ((toString z:tT):Str):=by
 show#[#[vA ∅ h,tN z],6,xu z];have a:=(Sv (b:=10) (n:=z.natAbs) ∅ (show 0<60 by decide)).mpr h;unfold cp;rw[md];split
 .refine .inr #[26];rw[Oa,My];lia
 .refine .inl ?_;rw[My];exact a
theorem pL(z:Int):nod ((toString z:tT):Str)=false:=by
 unfold nod pD;rw[Bool.not_eq_false',show cp ((toString z:tT):Str)=_ from md z];have key:((Nat.toDigits 10 z.natAbs).map Char.toNat).any isD=true:=by obtain⟨c,a⟩:=List.exists_mem_of_ne_nil _ (Nat.toDigits_ne_nil (n:=z.natAbs) (b:=10));refine QQ.mpr #[_,Of.mpr #[c,a,2],6];have:=PyProof.Rows.digit_range (Sm ∅ ∅ a);exact N2 ()
 split
 .rw[QG,key,Bool.or_true]
 .exact key
theorem cY{z:Int}(a:k<=61)(h:z.natAbs<10^k):z.natAbs.log2<1920:=by
 by_cases e:z.natAbs=0
 .rw[e];decide
 .refine(RI e).mpr (N7 h (NV (OG ∅ a) ?_));decide+kernel
inductive Hl(G:Str->Prop)(vs:List V)(H:Hp)(Q:VK):Prop
 |mk(x:Int) (_:vs=[.int x]) (_:0<=x) (_:∀z H',G z->Same H H'->Q (.str z) H'):Hl G vs H Q
def J9(G:Str->Prop):Sp:=λvs H Q _=>Hl G vs H Q
inductive Hj(vs:List V)(H:Hp)(Q:VK):Prop
 |mk(x:Int) (n:Nat) (_:vs=[.int x, .int (n:Int)]) (_:0<=x) (_:n<=8) (_:∀z H',Wm 8 z->Same H H'->Q (.str z) H'):Hj vs H Q
def MC:Sp:=λvs H Q _=>Hj vs H Q
inductive Hk(vs:List V)(H:Hp)(Q:VK):Prop
 |mk(x y:Int) (_:vs=[.int x, .int y]) (_:0<=x) (_:x<2^27) (_:0<=y) (_:y<2^27) (_:∀z H',Wd z->Same H H'->nod z=false->Q (.str z) H'):Hk vs H Q
def MD:Sp:=λvs H Q _=>Hk vs H Q
theorem D0(h:0<=x)(a:x<26):∃c,atI (cp Tu) x=some c/\c<128/\¬c=32:=by
 obtain⟨c,e,m⟩:=GQ (l:=cp Tu) h (by show x<((26:Nat):Int);lia);show#[c,e,6];have:∀c∈cp Tu,c<128/\¬c=32:=∅
 exact this c m
theorem Nh:(Tu:Str).length<=sizeLine:=by
 have:(Tu:Str).length=26:=#[9]
 rw[this];decide
theorem Dw{x y e:Int}(x0:0<=x)(x1:x<2^27)(g:0<=y)(h:y<2^27)(d:0<=e)(f:e<2):((x*10^Int.toNat 51+y*10^Int.toNat 25+x)*(1-2*e)).natAbs<10^60:=by
 have a:(10:Int)^Int.toNat 51=1000000000000000000000000000000000000000000000000000:=#[9]
 have b:(10:Int)^Int.toNat 25=10000000000000000000000000:=#[9]
 have c:(10:Nat)^60=1000000000000000000000000000000000000000000000000000000000000:=#[9]
 rw[a,b,c,Int.natAbs_mul];have:e=0\/e=1:=()
 rcases this with rfl|rfl
 .rw[show(1-2*0:Int).natAbs=1 from rfl,Tc];lia
 .rw[show(1-2*1:Int).natAbs=1 from rfl,Tc];lia
structure Wl(n:Nat)(ws:r9):Prop where
 le:ws.length<=n
 ok:∀z∈ws,Wd z
theorem Wl.push(h:Wl n ws)(hz:Wd z):Wl (n+1) (ws++[z]):=#[by rw[Od];exact QR h.le,λy a=>(OS.mp a).elim (h.ok y) λh=>by rw[Oj.mp h];exact hz]
theorem Wl.mono(h:Wl n ws)(a:n<=m):Wl m ws:=#[NV h.le a,h.ok]
theorem Wl.app(h:Wl n ws)(a:Wl m vs):Wl (n+m) (ws++vs):=#[by rw[Od];exact Nat.add_le_add h.le a.le,λy b=>(OS.mp b).elim (h.ok y) (a.ok y)]
inductive Hi(K:Frag)(vs:List V)(H:Hp)(Q:VK):Prop
 |mk(a:Addr) (xs:sv) (_:vs=[.ref a]) (_:SqL K H a (xs.map V.int)) (_:Xs xs) (_:∀p ws H',Same H H'->H p=none->H' p=some (.lst (ws.map V.str))->Wl 75 ws->Low 40 2 ws->2<=ws.length->Q (.ref p) H'):Hi K vs H Q
def J8(K:Frag):Sp:=λvs H Q _=>Hi K vs H Q
inductive Ku(K:Frag)(n:Nat)(vs:List V)(H:Hp)(Q:VK):Prop
 |mk(a:Addr) (xs:sv) (_:vs=[.ref a]) (_:SqL K H a (xs.map V.int)) (_:Xs xs) (_:∀p ws H',Same H H'->H p=none->H' p=some (.lst (ws.map V.str))->Wl n ws->2<=ws.length->Q (.ref p) H'):Ku K n vs H Q
def HX(K:Frag)(n:Nat):Sp:=λvs H Q _=>Ku K n vs H Q
theorem dG{ws:r9}{x:Int}(h0:0<=x)(b:x<(ws.length:Nat)):∃z,atI (ws.map V.str) x=some (.str z)/\z∈ws:=by
 obtain⟨j,rfl⟩:=OJ h0;have a:j<ws.length:=()
 show#[ws[j],aR (Ob a),PD a]
theorem bL{x m:Int}(h:0<m):0<=x % m/\x % m<m:=#[PU x (),Py x h]
theorem cR{ws:r9}:ws.map V.str++[V.str z]=(ws++[z]).map V.str:=by rw[O1];rfl
theorem bS(s:Same H H')(h:H' p=none):H p=none:=by
 cases e:H p with
 |none=>rfl
 |some o=>rw[s p o e]at h;cases h
theorem lr(h:0<=i)(a:i<2^30):HL i j:= .inl #[99]
theorem rM{x k:Int}(h:0<=x)(a:0<k):0<=x/k:=Int.ediv_nonneg h ()
theorem vK{x k:Int}(h:0<=x)(a:x<2^27)(b:0<k):x/k<2^27:=Int.lt_of_le_of_lt (Int.ediv_le_self k h) a
theorem cwd(h:wmB 60 (cp z)=true):Wd z:=(nX h).wd (N3 60)
theorem wl2(c:2<=n)(a:Wd x)(b:Wd y):Wl n [x,y]:=#[c,λz hz=>by
 rcases N1.mp hz with rfl|h
 .exact a
 .rw[Oj.mp h];exact b]
theorem wl3(d:3<=n)(a:Wd x)(b:Wd y)(c:Wd u):Wl n [x,y,u]:=#[d,λz hz=>by
 rcases N1.mp hz with rfl|h
 .exact a
 .exact(wl2 (N3 2) b c).ok z h]
theorem wl4(e:4<=n)(a:Wd x)(b:Wd y)(c:Wd u)(d:Wd t):Wl n [x,y,u,t]:=#[e,λz hz=>by
 rcases N1.mp hz with rfl|h
 .exact a
 .exact(wl3 (N3 3) b c d).ok z h]
theorem nZ(h:¬decide (V.int w=V.int m)=true):w≠m:=λe=>h (by rw[e];exact N2 rfl)
theorem bM(h:n<=100):n<=sizeLine:=NV h ∅
theorem Wm.w(h:Wm 8 z):Wd z:=h.wd ∅
def ifT:Stmt->Expr
 | .If t _ _ _=>t
 |_=> .Name "" #[0,0,0,0]
def ixT:Stmt->Expr
 | .If _ [.Return (some (.Subscript _ i _)) _] _ _=>i
 | .If _ [.Assign _ (.Subscript _ i _) _] _ _=>i
 | .Return (some (.Subscript _ i _)) _=>i
 | .Assign _ (.Subscript _ i _) _=>i
 |_=> .Name "" #[0,0,0,0]
theorem pY(c:Nat):∀L:List Nat,(br c L).length=L.count c+1
 | []=>rfl
 |d::r=>by
  have a:=pY c r;obtain⟨p,q,e⟩:=mO c r;by_cases h:d=c
  .rw[br,NZ h,Oa,a,h,List.count_cons_self]
  .rw[gq h r p q e,List.count_cons_of_ne h,Oa];rwa[e,Oa]at a
theorem Low.ins{ws us:r9}(h:Low 45 4 ws)(c:i<=j)(b:us=ws.take i\/∃z,us=ws.take i++[z]):Low 60 10 (us++ws.drop j):=by
 have s:(ws.take i++ws.drop j).Sublist ws:=by
  have:=(List.Sublist.refl (ws.take i)).append (List.drop_sublist_drop_left ws c)
  rwa [QC]at this
 have a:=h.sub s;rcases b with rfl|⟨z,rfl⟩
 .exact a.mono ∅ ∅
 .unfold Low at a⊢;have f1:=OW nod [z];simp only[P0,Od,Q8]at a f1⊢;lia
theorem Jp(h:Low 40 2 us):Low 42 4 ([x,y]++us):=by unfold Low at h⊢;have f1:=OW nod [x,y];rw[P0,Od,Od];simp only[Oa,Qp]at f1⊢;lia
theorem fH(c:Nat):∀(L p:sk),p∈br c L->p.length<=L.length/\∀d∈p,d∈L
 | [],p,h=>by rw[Oj.mp h];show#[N3 _,λd i=>i]
 |d::r,p,h=>by
  obtain⟨a,b,e⟩:=mO c r;by_cases j:d=c
  .rw[br,NZ j]at h;rcases N1.mp h with rfl|h
   .show#[Pw _,λd i=>nomatch i]
   .obtain⟨f,g⟩:=fH c r p h;show#[SG f,λx hx=>N4 _ (g x hx)]
  .rw[gq j r a b e]at h;rcases N1.mp h with rfl|h
   .obtain⟨f,g⟩:=fH c r a (by rw[e];exact N8);show#[QR f,λx hx=> ?_];rcases N1.mp hx with rfl|hx
    .exact N8
    .exact N4 _ (g x hx)
   .obtain⟨f,g⟩:=fH c r p (by rw[e];exact N4 _ h);show#[SG f,λx hx=>N4 _ (g x hx)]
theorem fG(z:Str):(aB z).map (λx=>cp x)=br 32 (cp z):=Co 32 z
theorem jS(z:Str):(aB z).length=(cp z).count 32+1:=by rw[<-pY,<-fG,My]
def nd:Bool->List Nat->Nat
 |b,[]=>if b=true then 0 else 1
 |b,c::r=>if c=32 then(if b=true then 0 else 1)+nd false r else nd (b||isD c) r
theorem Bs:∀L:List Nat,nd true L<=nd false L/\nd false L<=nd true L+1
 | []=>∅
 |c::r=>by
  have a:=Bs r;unfold nd;split
  .simp only[Sb,PZ,Tg];lia
  .rw[SY,Rk];cases isD c
   .exact a
   .lia
theorem rf:∀(b:Bool)(xs a:sk),nd b (xs++a)<=nd b xs+nd false a/\nd b xs+nd false a<=nd b (xs++a)+2
 |b,[],a=>by
  have:=Bs a;rw[List.nil_append];cases b
  .show _<=1+_/\1+_<=_;lia
  .show _<=0+_/\0+_<=_;lia
 |b,c::r,a=>by
  rw[SS,nd,nd];split
  .have:=rf false r a;lia
  .exact rf _ r a
theorem rb:∀(b:Bool)(L:sk),∃p q,br 32 L=p::q/\nd b L=(if(b||pD p)=true then 0 else 1)+(q.filter λx=> !pD x).length
 |b,[]=>#[[],[],2,by cases b<;>rfl]
 |b,c::r=>by
  by_cases h:c=32
  .obtain⟨p,q,e,a⟩:=rb false r;show#[[],br 32 r,by rw[br,NZ h],6];rw[nd,NZ h,a,e,Rk];cases d:pD p
   .rw[S3 (by rw[d];rfl),Oa];cases b<;>simp[pD]<;>lia
   .rw[QX (by rw[d];decide)];cases b<;>simp[pD]
  .obtain⟨p,q,e,a⟩:=rb (b||isD c) r;show#[c::p,q,gq h r p q e,6];rw[nd,NW h,a,show pD (c::p)=(isD c||pD p)from rfl,Bool.or_assoc]
theorem FC(z:Str):((aB z).filter nod).length=nd false (cp z):=by
 obtain⟨p,q,e,b⟩:=rb false (cp z);have:((aB z).filter nod).length=((br 32 (cp z)).filter λx=> !pD x).length:=by rw[<-fG,Rt,My];rfl
 rw[this,b,e,Rk];cases a:pD p
 .rw[S3 (by rw[a];rfl),Oa];simp;lia
 .rw[QX (by rw[a];decide)];simp
theorem mh:Low a b (aB z)↔((cp z).count 32+1<=a\/nd false (cp z)<=b):=by unfold Low;rw[FC,jS]
structure Ln(z:Str):Prop where
 pl:bP 10000 z
 few:(cp z).count 32<=400
 low:Low 60 10 (aB z)
theorem Ln.text(h:Ln z)(b:∀x∈aB z,x.length<=60):gj z:=by
 show#[6,#[6,λx hx=> ?_,h.low]]
 .have:=h.pl.1;exact NV (show z.length+2<=10002 by lia) ∅
 .rw[jS];have:=h.few;lia
 .have m:cp x∈br 32 (cp z):=by rw[<-fG];exact Of.mpr #[x,hx,2]
  have a:=(fH 32 (cp z) (cp x) m).2;have l:=b x hx;show#[#[NV l ∅,λc d=>h.pl.2 c (a c d)], .inl (by rw[bh];exact l)]
theorem oP(c:Nat):∀ps:List (List Nat),(∀p∈ps,c∉p)->(ku c ps).count c+1<=ps.length+1
 | [],_=>N3 1
 | [p],h=>by show p.count c+1<=1+1;rw[List.count_eq_zero.mpr (h p N8)];decide
 |p::q::r,h=>by have a:=oP c (q::r) λx hx=>h x (N4 _ hx);show(p++c::ku c (q::r)).count c+1<=_;rw[Qt,List.count_eq_zero.mpr (h p N8),List.count_cons_self,Oa];lia
theorem t4(c:Nat):∀ps:List (List Nat),∀d∈ku c ps,d=c\/∃p∈ps,d∈p
 | [],d,h=>nomatch h
 | [p],d,h=> .inr #[p,N8,h]
 |p::q::r,d,h=>by
  have h:d∈p++c::ku c (q::r):=h;rcases OS.mp h with h|h
  .exact .inr #[p,N8,h]
  .rcases N1.mp h with h|h
   .exact .inl h
   .rcases t4 c (q::r) d h with h|⟨x,hx,a⟩
    .exact .inl h
    .exact .inr #[x,N4 _ hx,a]
theorem lg(ws:r9):cp (Txt.join " " ws)=ku 32 (ws.map λx=>cp x):=by rw[show Txt.join " " ws=Str.join #[#v[32]] ws from StrLaws.glued_eq_join _ _];exact rq 32 ws
theorem Es(m:Nat):∀ws:List Str,(∀z∈ws,z.length<=m)->(ws.map (·.length)).sum<=ws.length*m
 | [],_=>by simp
 |z::r,h=>by have a:=Es m r λx hx=>h x (N4 _ hx);have hz:=h z N8;rw[OI,List.sum_cons,Oa,Nat.succ_mul];lia
theorem Wl.sum{ws:r9}(h:Wl n ws):(ws.map (·.length)).sum<=ws.length*61:=Es 61 ws λz hz=>(h.ok z hz).wk.1
theorem Wl.fits{ws:r9}(h:Wl n ws)(a:n<=100):(ws.map (·.length)).sum+ws.length*(" ":Str).length<=16777216:=by have:=h.sum;have l:=h.le;rw[show(" ":Str).length=1 from rfl];lia
theorem Wl.words{ws:r9}(h:Wl n ws)(h0:0<ws.length):aB (Txt.join " " ws)=ws:=by
 have e:=fG (Txt.join " " ws);rw[lg,je]at e
 .have inj:∀(xs c:r9),xs.map (λx=>cp x)=c.map (λx=>cp x)->xs=c:=by
   intro xs
   induction xs with
   |nil=>intro c h;cases c with
    |nil=>rfl
    |cons y r=>cases h
   |cons x r j=>intro c h;cases c with
    |nil=>cases h
    |cons y t=>
     rw[OI,OI]at h;obtain⟨f,g⟩:=RQ h;rw[j t g];have:x=y:=by
      cases x with
      |mk a=>cases y with
       |mk b=>
        have:a.toList=b.toList:=f;rw[Array.toList_inj.mp this]
     rw[this]
  exact inj _ _ e
 .intro d;rw[QU.mp d]at h0;exact absurd h0 ∅
 .intro p i;obtain⟨z,hz,rfl⟩:=Of.mp i;exact(h.ok z hz).no
theorem Wl.ln{ws:r9}(h:Wl n ws)(f:n<=100)(h0:0<ws.length)(e:Low 60 10 ws):Ln (Txt.join " " ws):=by
 show#[#[6,λc a=> ?_],6,by rw[h.words h0];exact e]
 .rw[show(Txt.join " " ws).length=(Builtin.Str.glued " " ws).length from rfl,size_glued,show(" ":Str).length=1 from rfl];have:=h.sum;have:=h.le;lia
 .have a:c∈cp (Txt.join " " ws):=a;rw[lg]at a;rcases t4 32 _ c a with rfl|⟨p,b,d⟩
  .decide
  .obtain⟨z,hz,rfl⟩:=Of.mp b;exact(h.ok z hz).wk.2 c d
 .rw[lg];have:=oP 32 (ws.map λx=>cp x) λp b=>by obtain⟨z,hz,rfl⟩:=Of.mp b;exact(h.ok z hz).no
  rw[My]at this;have:=h.le;lia
theorem Wl.text{ws:r9}(h:Wl n ws)(b:n<=100)(h0:0<ws.length)(a:Low 60 10 ws):gj (Txt.join " " ws):=by have l:=(h.ln b h0 a).pl.1;show#[NV (show(Txt.join " " ws).length+2<=10002 by lia) ∅,6];rw[h.words h0];show#[by have:=h.le;lia,λz hz=>#[(h.ok z hz).wk,(h.ok z hz).six],a]
structure Jn(z:Str):Prop where
 text:gj z
 pl:bP 9000 z
 few:(cp z).count 32<=150
 low:Low 45 4 (aB z)
theorem Wl.jn{ws:r9}(h:Wl n ws)(a:n<=100)(h0:0<ws.length)(b:Low 45 4 ws):Jn (Txt.join " " ws):=by
 have e:=b.mono (c:=60) (d:=10) ∅ ∅;show#[h.text a h0 e,#[6,(h.ln a h0 e).pl.2],6,by rw[h.words h0];exact b]
 .rw[show(Txt.join " " ws).length=(Builtin.Str.glued " " ws).length from rfl,size_glued,show(" ":Str).length=1 from rfl];have:=h.sum;have:=h.le;lia
 .have:=jS (Txt.join " " ws);rw[h.words h0]at this;have:=h.le;lia
inductive Ho(K:Frag)(vs:List V)(H:Hp)(Q:VK):Prop
 |mk(b:Addr) (ws:r9) (a:Addr) (xs:sv) (_:vs=[.ref b, .ref a]) (_:H b=some (.lst (ws.map V.str))) (_:Wl 80 ws) (_:Low 45 4 ws) (_:2<=ws.length) (_:SqL K H a (xs.map V.int)) (_:Xs xs) (_:∀p vs H',Same H H'->H' p=some (.lst (vs.map V.str))->Wl 90 vs->Low 60 10 vs->0<vs.length->Q (.ref p) H'):Ho K vs H Q
def MF(K:Frag):Sp:=λvs H Q _=>Ho K vs H Q
theorem mD(z:Str)(j:Nat):cp (Txt.slice z (some (j:Int)) none)=(cp z).drop j:=by
 by_cases h:j<=z.length
 .rw[Sw (b:=(z.length:Nat)) (Pc j) () rfl];show(List.take _ (List.drop ((j:Int).toNat) (cp z)))=_;rw[PL,N9];rw[OU,bh];lia
 .rw[PyProof.Rows.slice_from_beyond (),List.drop_of_length_le (by rw[bh];lia)]
theorem Jn.take(h:Jn z)(i:Nat):bP 9000 (Txt.slice z none (some (i:Int)))/\(cp (Txt.slice z none (some (i:Int)))).count 32<=150:=#[h.pl.cut _ _,by rw[gh];exact NV (List.Sublist.count_le _ (List.take_sublist i _)) h.few]
theorem Jn.drop(h:Jn z)(i:Nat):bP 9000 (Txt.slice z (some (i:Int)) none)/\(cp (Txt.slice z (some (i:Int)) none)).count 32<=150:=#[h.pl.cut _ _,by rw[mD];exact NV (List.Sublist.count_le _ (List.drop_sublist i _)) h.few]
theorem nP(a b:Str)(c:Nat):(cp (a++b)).count c=(cp a).count c+(cp b).count c:=by unfold cp;rw[OH,Qt]
theorem vE(a b:Str):(a++b).length=a.length+b.length:=by rw[<-bh,<-bh,<-bh];unfold cp;rw[OH,Od]
theorem mZ{a b:Str}(d:∀c∈cp a,c<128)(hb:∀c∈cp b,c<128)(h:a.length+b.length<=m):bP m (a++b):=#[by rw[vE];exact h,λc e=>by unfold cp at d hb;rw[OH]at e;exact(OS.mp e).elim (d c) (hb c)]
theorem mC{z:Str}{i j:Nat}(a:i<=j):(Txt.slice z none (some (i:Int))).length+(Txt.slice z (some (j:Int)) none).length<=z.length:=by rw[<-bh,<-bh,<-bh,gh,mD,Ow,OU];lia
theorem Jq(h:Low 45 4 (aB z))(d:i<=j):(((cp z).take i).count 32+((cp z).drop j).count 32+1<=45)\/(nd false ((cp z).take i)+nd false ((cp z).drop j)<=8):=by
 have e:=QC i (cp z);have a:(cp z).drop i=((cp z).drop i).take (j-i)++(cp z).drop j:=by have:=(QC (j-i) ((cp z).drop i)).symm;rwa[Tf,show i+(j-i)=j by lia]at this
 refine(mh.mp h).imp (λh=> ?_) λh=> ?_
 .rw[<-e,Qt]at h;rw[a,Qt]at h;lia
 .have b:=(rf false ((cp z).take i) ((cp z).drop i)).2;rw[e]at b;have c:=(rf false (((cp z).drop i).take (j-i)) ((cp z).drop j)).2;rw[<-a]at c;lia
theorem Ao(a b:Str):cp (a++b)=cp a++cp b:=OH a b
theorem Bv(h:Low 45 4 (aB z)){i j:Nat}(b:i<=j)(a:(cp s).length<=1):Low 60 10 (aB (Txt.slice z none (some (i:Int))++s++Txt.slice z (some (j:Int)) none))/\Low 60 10 (aB (Txt.slice z none (some (i:Int))++Txt.slice z (some (j:Int)) none)):=by
 have k:(cp s).count 32<=1:=NV R6 a;have m:nd false (cp s)<=2:=by
  cases e:cp s with
  |nil=>decide
  |cons c r=>
   have:r=[]:=by rw[e,Oa]at a;exact Pn.mp ()
   rw[this,nd];split
   .decide
   .cases (false||isD c)<;>decide
 have l:=Jq h b;have d:=(rf false ((cp z).take i++cp s) ((cp z).drop j)).1;have f:=(rf false ((cp z).take i) (cp s)).1;have g:=(rf false ((cp z).take i) ((cp z).drop j)).1;constructor
 .refine mh.mpr ?_;rw[Ao,Ao,gh,mD,Qt,Qt];lia
 .refine mh.mpr ?_;rw[Ao,gh,mD,Qt];lia
inductive Hq(K:Frag)(vs:List V)(H:Hp)(Q:VK):Prop
 |mk(z:Str) (a:Addr) (xs:sv) (_:vs=[.str z, .ref a]) (_:Jn z) (_:SqL K H a (xs.map V.int)) (_:Xs xs) (_:∀y,Ln y->Q (.str y) H):Hq K vs H Q
def MG(K:Frag):Sp:=λvs H Q _=>Hq K vs H Q
def uS:Str:= " =-0123456789abcdefghijxyz"
def zk:Str:= "!\"#$&'()*+,./:;<>?\x40[\\]^_{|}~ABCXYZ"
theorem EK{y:Str}(h:y=uS\/y=zk):0<y.length/\y.length<=100/\∀c∈cp y,c<128:=by
 rcases h with rfl|rfl
 .show#[#[9],#[9],#[9]]
 .show#[#[9],#[9],#[9]]
inductive B1(K:Frag)(vs:List V)(H:Hp)(Q:VK):Prop
 |mk(a:Addr) (xs:sv) (_:vs=[.ref a]) (_:SqL K H a (xs.map V.int)) (_:Xs xs) (_:∀z H',gj z->Same H H'->Q (.str z) H'):B1 K vs H Q
def K4(K:Frag):Sp:=λvs H Q _=>B1 K vs H Q
theorem Jn.ln(h:Jn z):Ln z:=#[h.pl.mono ∅,NV h.few ∅,h.low.mono ∅ ∅]
theorem Fn(h:bP 50 z):gj z:=by
 have l5:(cp z).count 32<=50:=NV R6 (by rw[bh];exact h.1);have l:Ln z:=#[h.mono ∅,9,mh.mpr (.inl ())];refine l.text λx hx=> ?_;have m:cp x∈br 32 (cp z):=by rw[<-fG];exact Of.mpr #[x,hx,2]
 have:=(fH 32 (cp z) (cp x) m).1;rw[bh,bh]at this;exact NV this (NV h.1 ∅)
def Fp:List Str:=[""," ","=","a =","a = "," a","none",TX]
theorem CU(h:z∈Fp):gj z:=by
 have:∀z∈Fp,(cp z).length<=50/\∀c∈cp z,c<128:=#[9]
 obtain⟨a,b⟩:=this z h;exact Fn #[by rw[<-bh];exact a,b]
theorem Ea(h:Ln z):∀x∈aB z,x.length<=10000:=λx hx=>by
 have m:cp x∈br 32 (cp z):=by rw[<-fG];exact Of.mpr #[x,hx,2]
 have:=(fH 32 (cp z) (cp x) m).1;rw[bh,bh]at this;exact NV this h.pl.1
def Ap(a b Cx:Addr)(k:Nat):Addr:=if k=0 then a else if k=1 then b else Cx
inductive BW(C Cl Cn Cx:Addr)(vs:List V)(H:Hp)(Q:VK):Prop
 |mk(p d:Addr) (z:Str) (_:vs=[.ref p, .str z]) (_:yQ C H p d) (_:gj z) (_:(∀ea t H',lnW (aB z)≠2->Same H H'->H' ea=some (jQ ea (.ref (Ap Cl Cn Cx (lnW (aB z)))))->H' t=some (.tup [.ref ea, .non])->Q (.ref t) H')) (_:(∀t H',2<=lnW (aB z)->SameBut d H H'->H' t=some (.tup [.non, .str "ok"])->Q (.ref t) H')):BW C Cl Cn Cx vs H Q
def K0(C a b Cx:Addr):Sp:=λvs H Q _=>BW C a b Cx vs H Q
inductive BU(Cl Cn Cx:Addr)(vs:List V)(H:Hp)(Q:VK):Prop
 |mk(ea:Addr) (k:Nat) (_:vs=[.ref ea]) (_:H ea=some (jQ ea (.ref (Ap Cl Cn Cx k)))) (_:k≠2) (_:∀H',Same H H'->Q (.str (gf k)) H'):BU Cl Cn Cx vs H Q
def KY(a b Cx:Addr):Sp:=λvs H Q _=>BU a b Cx vs H Q
inductive B4(C:Addr)(vs:List V)(H:Hp)(Q:VK):Prop
 |mk(p d:Addr) (z:Str) (_:vs=[.ref p, .str z, .str (gf (lnW (aB z)))]) (_:yQ C H p d) (_:gj z) (_:∀H',(lnW (aB z)<=1->Same H H')->SameBut d H H'->Q (.bl true) H'):B4 C vs H Q
def K7(C:Addr):Sp:=λvs H Q _=>B4 C vs H Q
theorem Me(s:Same H H'):SameBut d H H':=λb o e _=>s.at e
theorem SameBut.new(s:SameBut d H H')(n:H' t=none):SameBut d H (upd H' t o):=λb u e hb=>by have:=s b u e hb;rw[aj (ah this n)];exact this
def Nt:V->Bool
 | .bl b=>b
 |_=>false
theorem JV{bs:List Bool}{i:Nat}(h:(bs.map V.bl)[i]?=some x):∃b,x= .bl b:=by
 rw[Ot]at h;cases e:bs[i]? with
 |none=>rw[e]at h;cases h
 |some b=>rw[e]at h;cases h;show#[b,2]
structure yr(K:Frag)(C Cl Cn Cx Cf Cs:Addr)(a b c:Bool):Prop where
 ek:we K C
 v:kitOne K (.ref C) (.type Ub)=some true
 l:kitOne K (.ref C) (.ref Cl)=some a
 n:kitOne K (.ref C) (.ref Cn)=some b
 h:kitOne K (.ref C) (.ref Cx)=some c
 f:kitOne K (.ref C) (.ref Cf)=some false
 s:kitOne K (.ref C) (.ref Cs)=some false
def Bz:List Value->List Int->Bool
 | [],[]=>true
 | .int i _::us,j::a=>decide (i=j)&&Bz us a
 |_,_=>false
theorem gP:∀ {us:qR} {a:sv},Bz us a=true->Vals (a.map V.int) us
 | [],[],_=> .nil
 | .int i t::us,j::a,h=>by rw[Bz,Oz,OB]at h;exact .cons #[t,by rw[h.1]] (gP h.2)
theorem KG{K:Frag}{d n:Nat}{a:qs}(e:K.lookup d=some #[.type TN,od, .seq a n,b])(h:Bz a.toList (a6 nopr)=true)(H:Hp):SqT K H d ((a6 nopr).map V.int):=by have v:=gP h;refine .inr #[_,a,n,e,226,v];rw[<-Ou,<-v.length];decide+kernel
theorem mj{p:Str->Addr->Prop}:∀ {kvs:mm},(∀b∈kvs,p b.1 b.2)->∀z f,kvs.lookup z=some f->p z f
 | [],_,z,f,h=>nomatch h
 |(x,a)::r,c,z,f,h=>by
  by_cases e:z=x
  .subst e;rw[List.lookup_cons_self]at h;cases h;exact c _ N8
  .rw[Pr,P7.mpr e]at h;exact mj (λb d=>c b (N4 _ d)) z f h
def kvM(c a d e f b g:Addr):List (Str×Addr):=[(Ui,c),(TX,a),(TY,a),(TZ,a),(Uv,d),(T5,e),(Up,f),("out",b),(Uu,b),("side",g)]
def kvA(a b c d e:Addr):List (Str×Addr):=[(TX,a),(TY,a),(TZ,a),("frees",a),(Ug,b),(Um,b),("same",c),("two",a),("three",a),("all",a),(Us,c),(T4,d),("counts",a),(Ut,e)]
def kvD(b c d e f g h i j a:Addr):List (Str×Addr):=[(Ui,b),(TX,c),(TY,d),(TZ,e),(Uv,f),(T5,g),(Up,h),("out",i),(Uu,j),("side",a)]
def yq{b:Type}(R:b->Prop):List b->Prop
 | []=>True
 |a::l=>R a/\yq R l
theorem bY:∀ {l:List b},yq R l->∀ {i:Nat} {a:b},l[i]?=some a->R a
 | [],_,_,_,e=>nomatch e
 |_::_,h,0,_,e=>by cases e;exact h.1
 |_::_,h,_+1,_,e=>bY h.2 e
inductive HD(K:Frag)(n:Str)(st:Stmt):Prop
 |mk{f:Addr} {oc:Value} {od an:px} {sl:fx} {kV dc pm cd ct:Value} (a:nsIn K mainGlobals n=some (some (.ref f))) (l:K.lookup f=some ⟨oc,od, .func (fnOf n n (bW st) (aH st) (av st) .none kV dc pm an cd ct),sl⟩) (c:codeIn K cd n=true) (k:keepIn K (.ref f)=true):HD K n st
inductive HM(K:Frag)(C:Addr)(n q:Str)(st:Stmt)(f:Addr):Prop
 |mk{oc:Value} {od an:px} {sl:fx} {kV dc pm cd ct:Value} (a:findIn K (.ref C) n=some (some (.ref f))) (i:isFn K (.ref f)=true) (l:K.lookup f=some ⟨oc,od, .func (fnOf n q (bW st) (aH st) (av st) .none kV dc pm an cd ct),sl⟩) (c:codeIn K cd q=true) (k:keepIn K (.ref f)=true):HM K C n q st f
structure HC(K:Frag)(C:Addr):Prop extends Cls K C where
 mi:makesIn K C=true
 kc:keepIn K (.ref C)=true
abbrev dL:List (Str×Stmt):=("holds",uW)::("things",qk)::("size",zx)::("within",qf)::("parts",uV)::("less",zC)::("all_of",qy)::("exchanged",jo)::("set_of",qm)::("shown",uT)::("need",zA)::("made_of",mU)::("name_of",mT)::("number_of",jk)::("number_up_to",fO)::("signed_of",jg)::("read",zy)::("set_within",iw)::("tie_of",qj)::("rows_of",mQ)::("read_even",ji)::("read_house",iA)::("read_two_houses",dM)::("read_house_and_set",cP)::("read_house_and_numbers",b9)::("read_weights",fN)::("read_worth",iy)::("read_sets",jh)::("read_net",kI)::("read_table",iz)::("making_line",gE)::("asking_line",gF)::("line_of",mV)::("marked",qr)::("has_exchange",fP)::("broken_bases",fS)::("holds_ring",iD)::("ring_in_ring",fL)::("rings_without_third",cG)::("broken_rings",fQ)::("least_flat",iC)::("common_not_listed",c7)::("flats_that_meet",dN)::("broken_flats",fR)::("tied",zv)::("rests",uU)::("pivot_place",gD)::("cleared",mX)::("all_cleared",gG)::("rank_of",mR)::("whole_rank",iu)::("frees",uX)::("bases",uY)::("refuse",qo)::("house_of_frees",d8)::("is_free",mW)::("of_bases",kL)::("of_rings",kJ)::("of_flats",kK)::("made_even",jm)::("made_of_bases",eZ)::("made_of_rings",eX)::("made_of_flats",eY)::("made_net",kM)::("made_table",iB)::("made",zB)::("_law_is_name",fU)::("_law_count",iG)::("_law_is_number",ee)::("_law_is_set",gJ)::("_law_numbers",fT)::("_law_even_told",ef)::("_law_net_told",e8)::("_law_sets_told",d9)::("_law_table_told",dO)::("_law_making",gI)::("_law_question",e7)::("_law_due",kQ)::("_law_stream",gH)::("_law_few",fV)::("_law_name",jv)::("_law_set",kN)::("_law_great",iF)::("_law_sets",jt)::("_law_net",kP)::("_law_table",bT)::("_law_made",jw)::("_law_asked",cW)::("_law_odd_word",cF)::("_law_spoilt_words",c9)::("_law_spoilt_line",du)::("_law_line",cQ)::("_law_said",ju)::("_law_sort",jr)::("_law_holds",iE)::("law",qu)::[]
abbrev mL:List (Addr×Str×Str×Stmt×Addr):=(655,"__init__","Line.__init__",e9,652)::(269,"__init__","House.__init__",eh,252)::(269,"everything","House.everything",dy,266)::(297,"__init__","Even.__init__",fb,287)::(297,"rank","Even.rank",jx,294)::(321,"__init__","Listed.__init__",dQ,313)::(321,"rank","Listed.rank",gL,318)::(835,"__init__","Net.__init__",fW,818)::(835,"pieces","Net.pieces",iH,825)::(835,"rank","Net.rank",kT,832)::(901,"__init__","Tabled.__init__",dP,893)::(901,"rank","Tabled.rank",gK,898)::(200,"__init__","NoHouse.__init__",dw,197)::(1149,"__init__","Desk.__init__",fg,1134)::(1149,"house_called","Desk.house_called",da,1141)::(1149,"say","Desk.say",kU,1146)::[]
abbrev rL:List (Str×Value):=("House", .ref 269)::("Even", .ref 297)::("Net", .ref 835)::("Tabled", .ref 901)::("Listed", .ref 321)::("Line", .ref 655)::("Desk", .ref 1149)::("NoHouse", .ref 200)::("HouseError", .ref 168)::("NoSet", .ref 181)::("NoLine", .ref 212)::("NoName", .ref 224)::("NoFit", .ref 236)::("NOUGHT_AND_PRIMES", .ref 638)::("MAKING", .ref 779)::("ASKING", .ref 780)::("MADE", .ref 1105)::("read_even", .ref 725)::("read_sets", .ref 730)::("read_net", .ref 735)::("read_table", .ref 740)::("read_house", .ref 747)::("read_house_and_set", .ref 759)::("read_two_houses", .ref 752)::("read_weights", .ref 771)::("read_worth", .ref 778)::("made_even", .ref 931)::("made_of_bases", .ref 938)::("made_of_rings", .ref 945)::("made_of_flats", .ref 952)::("made_net", .ref 959)::("made_table", .ref 966)::("SMALL_LETTERS", .str cC 1040)::("FIGURES", .str jT 1042)::("LETTERS", .str d7 1016)::("EMPTY", .str AM 1018)::("MOST", .int gC 1044)::("MOST_POINTS", .int ke 1046)::[]
abbrev zL:List Str:=["len","range","isinstance","int","bool","list","max","min","tuple","sorted","any","all","dict","enumerate","str","set","ValueError","zip"]
abbrev aL:List (Addr×Str×Option Value):=(269,"many",none)::(297,"many",none)::(297,"most",none)::(297,"everything",some (.ref 266))::(835,"many",none)::(835,"points",none)::(835,"ties",none)::(835,"everything",some (.ref 266))::(901,"many",none)::(901,"prime",none)::(901,"rows",none)::(901,"everything",some (.ref 266))::(321,"many",none)::(321,"listed",none)::(321,"everything",some (.ref 266))::(655,"target",none)::(655,"verb",none)::(655,"asked",none)::(655,"given",none)::(1149,"houses",none)::(200,"one",none)::(200,"other",none)::(200,"thing",none)::[]
abbrev cL:List Addr:=[269,297,835,901,321,655,1149]
structure Cs(w:vu)(K:Frag):Prop where
 d:yq (λp=>HD K p.1 p.2) dL
 m:yq (λp=>HM K p.1 p.2.1 p.2.2.1 p.2.2.2.1 p.2.2.2.2) mL
 r:yq (λp=>nsIn K mainGlobals p.1=some (some p.2)) rL
 z:yq (λn=>nsIn K mainGlobals n=some none) zL
 a:yq (λp=>findIn K (.ref p.1) p.2.1=some p.2.2) aL
 l:yq (HC K) cL
 kII:kitOne K (.type "int") (.type "int")=some true
 kIB:kitOne K (.type "int") (.type "bool")=some false
 kLL:kitOne K (.type "list") (.type "list")=some true
 kSS:kitOne K (.type "str") (.type "str")=some true
 gaH:specialIn K (.ref 269) "__getattribute__"=some (some (.builtin "type.__getattribute__"))
 rdH:readsIn K 269 (.type "type")=true
 fcH:findCls K (.ref 269) (.type "type") "__init__"=some (.val (.ref 252))
 qH:Ak K 200 197 pF "ValueError.__new__"=true
 qNoSet:excIn K 181 pF "ValueError.__new__"=true
 qNoLine:excIn K 212 pF "ValueError.__new__"=true
 qNoName:excIn K 224 pF "ValueError.__new__"=true
 xF:D8 K 200
 xI:HG K 168
 xN:exmOne K (.ref 181) (.ref 181)=some true
 x1:exmOne K (.ref 212) (.ref 168)=some true
 x2:exmOne K (.ref 224) (.ref 168)=some true
 x3:exmOne K (.ref 200) (.ref 168)=some true
 k1:yr K 212 212 224 200 236 181 true false false
 k2:yr K 224 212 224 200 236 181 false true false
 k3:yr K 200 212 224 200 236 181 false false true
 lN:∀H,SqT K H 638 ((a6 nopr).map V.int)
 fM:∀P,nV P w K 779 (kvM 725 730 735 740 747 759 752)
 fA:∀P,nV P w K 780 (kvA 747 759 752 771 778)
 fD:∀P,nV P w K 1105 (kvD 931 938 945 952 959 966 973 980 987 994)
class Ct (P:outParam Program) (w:outParam World) (K:outParam Frag) (mg:outParam (Str->Option Value)) (base:outParam Heap):Prop where
 s:Cs w K
 X:K.In base
 G:base.Ns mainGlobals mg
section
seal L2.PE L2.PS L2.PSs L2.PA L2.PT L2.PW L2.PG L2.PI
theorem gN{A B:Prop}(a:v=y->A)(h0:¬v=y->B):if decide (V.str v=V.str y)=true then A else B:=by
 rw[nY];by_cases h:v=y
 .rw[N2 h];exact aP (a h)
 .rw[NX h];exact aS (h0 h)
theorem Gi:∃(a:Expr)(b c:Pos),aH fV=[.Return (some (.Subscript a (ixT ((aH fV).getD 0 (.Pass #[0,0,0,0]))) b)) c]/\jJ a=some [V.int 0,V.int 1,V.int 2,V.int 3,V.int 4,V.int 2,V.int 3,V.int 5,V.int 8]:=
 #[117,#[9]]
theorem yY:∃(a:Expr)(b c d e:Pos),aH bT=(aH bT).getD 0 (.Pass #[0,0,0,0]):: .If (ifT ((aH bT).getD 1 (.Pass #[0,0,0,0]))) [.Assign [.Name "_law_prime" b] (.Subscript a (ixT ((aH bT).getD 1 (.Pass #[0,0,0,0]))) c) d] [] e::(aH bT).drop 2/\jJ a=some [V.str "0",V.str "2",V.str "3",V.str "5",V.str "7",V.str "11",V.str "47",V.str "89",V.str "97"]:=
 #[11117,#[9]]
theorem AD:∃(a:Expr)(b c d:Pos),aH cW= .Assign [.Name "_law_word" b] (.Subscript a (ixT ((aH cW).getD 0 (.Pass #[0,0,0,0]))) c) d::(aH cW).drop 1/\jJ a=some [V.str "bases",V.str "rings",V.str "flats",V.str "frees",V.str "two",V.str "three",V.str "all",V.str "counts"]:=
 #[1117,#[9]]
def vz:List Str:=["","=","-","-0","00","9","10","0","1","8","99","4","+1","1_0","ba","aa","i","abcdefghi"]
def vy:List Str:=["A","even","net","table","none","other","sum","bases","rank","worth","common","01","-5"]
theorem Fo:∃(c:Pos)(a:Expr)(p1 d e:Pos)(b:Expr)(f p2:Pos),aH cF=[.Assign [.Name "_law_some" c] a p1, .Assign [.Name "_law_some" d] (.BinOp (.Name "_law_some" e) .Add b f) p2,(aH cF).getD 2 (.Pass #[0,0,0,0])]/\jJ a=some (vz.map V.str)/\jJ b=some (vy.map V.str)/\∀env,swapsWith a (some (.Name "_law_some" c)) p1.line env=pure false:=
 #[11111117,#[9],#[9],λ_=>rfl]
theorem Dh:∃(a:Expr)(b c d:Pos),aH cQ= .If (ifT ((aH cQ).getD 0 (.Pass #[0,0,0,0]))) [.Return (some (.Subscript a (ixT ((aH cQ).getD 0 (.Pass #[0,0,0,0]))) b)) c] [] d::(aH cQ).drop 1/\jJ a=some (Fp.map V.str):=
 #[1117,#[9]]
abbrev Ca{P:tj}{w:vu}{K:Frag}{mg:i2}{base:Heap}[Ct P w K mg base](k:Nat)(x:Str)(ps:r9)(sp:Sp):Prop:=Cal P w K mg base k x ps sp
abbrev Cb{P:tj}{w:vu}{K:Frag}{mg:i2}{base:Heap}[Ct P w K mg base](k:Nat)(x:Str)(ps:r9)(sp:Sp):Prop:=HI P w K mg base k x ps sp
variable{P:tj}{w:vu}{K:Frag}{mg:i2}{base:Heap}[cT:Ct P w K mg base]
include cT
theorem mn(i:Nat){n:Str}(h:zL[i]?=some n:=by rfl):mg n=none:=PySem.W.mg_none_of cT.X cT.G (bY cT.s.z h)
theorem hT:Tb K mg:=#[mn 0,mn 1,mn 2,mn 3,mn 4,mn 5,mn 6,mn 7,mn 8,mn 9,mn 10,mn 11,mn 12,mn 13,mn 14,mn 15,mn 16,mn 17,cT.s.kII,cT.s.kIB,cT.s.kLL,cT.s.kSS]
theorem gR(i:Nat){n:Str}{v:Value}(h:rL[i]?=some (n,v):=by rfl):mg n=some v:=RO cT.X cT.G (bY cT.s.r h)
theorem nA(i:Nat){C:Addr}{n:Str}{v:Option Value}(h:aL[i]?=some (C,n,v):=by rfl):findIn K (.ref C) n=some v:=bY cT.s.a h
theorem hC(C:Addr)(h:C∈cL:=by decide):HC K C:=by obtain⟨i,e⟩:=Pq h;exact bY cT.s.l e
theorem mM(i:Nat){C:Addr}{m x:Str}{st:Stmt}{f:Addr}(h:mL[i]?=some (C,m,x,st,f):=by rfl):Meth K C m f:=by obtain⟨a,b,_,_,k⟩:=bY cT.s.m h;show#[a,b,k]
theorem cl(i:Nat)(N:r9){x:Str}{st:Stmt}{ps:r9}{k:Nat}{sp:Sp}(hb:∀ {f:Addr} {g:Value} {A:vr} {n:ti} {s:tr} {vs:List V} (H:Hp) (Q:VK) (E:XK),N.Nodup->Room k (A.deeper (PyProof.Rows.envOfC x (av st) s.heap.objs.size f g))->sp vs H Q E->∃t,PSs (cJ CX0 P w K mg base N x (av st) f g A n s H E).nox (aH st) t/\t {nx:=λ_ H'=>Q .non H',rt:=Q} (start N vs) H)(h:dL[i]?=some (x,st):=by rfl)(S:bZ N ps (av st):=by exact qe)(b:∀(kV m o:Value)(an:px)(g j:Value)(us:qR),us.length=ps.length->bindArgs (fnOf x x (bW st) (aH st) (av st) .none kV m o an g j) #[us,[]]=pure (ps.zip us):=by intro _ _ _ _ _ _;first|exact Ae rfl|exact Ad λ_=>rfl|exact Ac λ_ _=>rfl|exact Ab λ_ _ _=>rfl|exact Aa λ_ _ _ _=>rfl|exact Dj λ_ _ _ _ _=>rfl)(len:∀vs H Q E,sp vs H Q E->vs.length=ps.length:=by intro _ _ _ _ h;cases h;subst_vars;rfl):Cal P w K mg base (k+1) x ps sp:=by obtain⟨a,l,c,e⟩:=bY cT.s.d h;exact(vM (st:=st) (ps:=ps) cT.X cT.G a l c e b).cal S (len:=len) λ_ _ _ _ _ H _ Q E r q=>hb H Q E S.nd r q
theorem clX(i:Nat)(N:r9){x:Str}{st:Stmt}{ps:r9}{k:Nat}{sp:Sp}(hb:∀ {f:Addr} {g:Value} {A:vr} {n:ti} {s:tr} {vs:List V} (H:Hp) (Q:VK) (E:XK),N.Nodup->Room k (A.deeper (PyProof.Rows.envOfC x (av st) s.heap.objs.size f g))->sp vs H Q E->∃t,PSs (cJ (CXe P w) P w K mg base N x (av st) f g A n s H E) (aH st) t/\t {nx:=λ_ H'=>Q .non H',rt:=Q} (start N vs) H)(h:dL[i]?=some (x,st):=by rfl)(S:bZ N ps (av st):=by exact qe)(b:∀(kV m o:Value)(an:px)(g j:Value)(us:qR),us.length=ps.length->bindArgs (fnOf x x (bW st) (aH st) (av st) .none kV m o an g j) #[us,[]]=pure (ps.zip us):=by intro _ _ _ _ _ _;first|exact Ae rfl|exact Ad λ_=>rfl|exact Ac λ_ _=>rfl|exact Ab λ_ _ _=>rfl|exact Aa λ_ _ _ _=>rfl|exact Dj λ_ _ _ _ _=>rfl)(len:∀vs H Q E,sp vs H Q E->vs.length=ps.length:=by intro _ _ _ _ h;cases h;subst_vars;rfl):HI P w K mg base (k+1) x ps sp:=by obtain⟨a,l,c,e⟩:=bY cT.s.d h;exact(vM (st:=st) (ps:=ps) cT.X cT.G a l c e b).calX S (len:=len) λ_ _ _ _ _ H _ Q E r q=>hb H Q E S.nd r q
theorem clD(i:Nat)(N:r9){x:Str}{st:Stmt}{ps:r9}{k:Nat}{sp:Sp}(hb:∀ {f:Addr} {g:Value} {A:vr} {n:ti} {s:tr} {vs:List V} (H:Hp) (Q:VK) (E:XK),N.Nodup->Room k (A.deeper (PyProof.Rows.envOfC x (av st) s.heap.objs.size f g))->sp vs H Q E->∃t,PSs (cJ (CXd P w) P w K mg base N x (av st) f g A n s H E) (aH st) t/\t {nx:=λ_ H'=>Q .non H',rt:=Q} (start N vs) H)(h:dL[i]?=some (x,st):=by rfl)(S:bZ N ps (av st):=by exact qe)(b:∀(kV m o:Value)(an:px)(g j:Value)(us:qR),us.length=ps.length->bindArgs (fnOf x x (bW st) (aH st) (av st) .none kV m o an g j) #[us,[]]=pure (ps.zip us):=by intro _ _ _ _ _ _;first|exact Ae rfl|exact Ad λ_=>rfl|exact Ac λ_ _=>rfl|exact Ab λ_ _ _=>rfl|exact Aa λ_ _ _ _=>rfl|exact Dj λ_ _ _ _ _=>rfl)(len:∀vs H Q E,sp vs H Q E->vs.length=ps.length:=by intro _ _ _ _ h;cases h;subst_vars;rfl):AI P w K mg base (k+1) x ps sp:=by obtain⟨a,l,c,e⟩:=bY cT.s.d h;exact(vM (st:=st) (ps:=ps) cT.X cT.G a l c e b).calD S (len:=len) λ_ _ _ _ _ H _ Q E r q=>hb H Q E S.nd r q
theorem clG(i:Nat)(N:r9){x:Str}{st:Stmt}{ps:r9}{k:Nat}{sp:Sp}(hb:∀ {f:Addr} {g:Value} {A:vr} {n:ti} {s:tr} {vs:List V} (H:Hp) (Q:VK) (E:XK),N.Nodup->Room k (A.deeper (PyProof.Rows.envOfC x (av st) s.heap.objs.size f g))->sp vs H Q E->∃t,PSs (cJ (CXg P w) P w K mg base N x (av st) f g A n s H E) (aH st) t/\t {nx:=λ_ H'=>Q .non H',rt:=Q} (start N vs) H)(h:dL[i]?=some (x,st):=by rfl)(S:bZ N ps (av st):=by exact qe)(b:∀(kV m o:Value)(an:px)(g j:Value)(us:qR),us.length=ps.length->bindArgs (fnOf x x (bW st) (aH st) (av st) .none kV m o an g j) #[us,[]]=pure (ps.zip us):=by intro _ _ _ _ _ _;first|exact Ae rfl|exact Ad λ_=>rfl|exact Ac λ_ _=>rfl|exact Ab λ_ _ _=>rfl|exact Aa λ_ _ _ _=>rfl|exact Dj λ_ _ _ _ _=>rfl)(len:∀vs H Q E,sp vs H Q E->vs.length=ps.length:=by intro _ _ _ _ h;cases h;subst_vars;rfl):HJ P w K mg base (k+1) x ps sp:=by obtain⟨a,l,c,e⟩:=bY cT.s.d h;exact(vM (st:=st) (ps:=ps) cT.X cT.G a l c e b).calG S (len:=len) λ_ _ _ _ _ H _ Q E r q=>hb H Q E S.nd r q
theorem fnA(i:Nat)(N:r9){C:Addr}{m x:Str}{st:Stmt}{f:Addr}{ps:r9}{k:Nat}{sp:Sp}(hb:∀ {a:Value} {A:vr} {j:ti} {s:tr} {vs:List V} (H:Hp) (Q:VK) (E:XK),N.Nodup->Room k (A.deeper (PyProof.Rows.envOfC x (av st) s.heap.objs.size f a))->sp vs H Q E->∃t,PSs (cJ CX0 P w K mg base N x (av st) f a A j s H E).nox (aH st) t/\t {nx:=λ_ H'=>Q .non H',rt:=Q} (start N vs) H)(h:mL[i]?=some (C,m,x,st,f):=by rfl)(S:bZ N ps (av st):=by exact qe)(b:∀(kV g n:Value)(an:px)(a d:Value)(us:qR),us.length=ps.length->bindArgs (fnOf m x (bW st) (aH st) (av st) .none kV g n an a d) #[us,[]]=pure (ps.zip us):=by intro _ _ _ _ _ _;first|exact Ae rfl|exact Ad λ_=>rfl|exact Ac λ_ _=>rfl|exact Ab λ_ _ _=>rfl|exact Aa λ_ _ _ _=>rfl|exact Dj λ_ _ _ _ _=>rfl)(len:∀vs H Q E,sp vs H Q E->vs.length=ps.length:=by intro _ _ _ _ h;cases h;subst_vars;rfl):dg P w K mg base (k+1) f ps sp:=by obtain⟨_,_,l,c,e⟩:=bY cT.s.m h;exact(FH (st:=st) (ps:=ps) l c e b).fn S (len:=len) λ_ _ _ _ H _ Q E r q=>hb H Q E S.nd r q
theorem fnB(i:Nat)(N:r9){C:Addr}{m x:Str}{st:Stmt}{f:Addr}{ps:r9}{k:Nat}{sp:Sp}(hb:∀ {a:Value} {A:vr} {j:ti} {s:tr} {vs:List V} (H:Hp) (Q:VK) (E:XK),N.Nodup->Room k (A.deeper (PyProof.Rows.envOfC x (av st) s.heap.objs.size f a))->sp vs H Q E->∃t,PSs (cJ (CXe P w) P w K mg base N x (av st) f a A j s H E) (aH st) t/\t {nx:=λ_ H'=>Q .non H',rt:=Q} (start N vs) H)(h:mL[i]?=some (C,m,x,st,f):=by rfl)(S:bZ N ps (av st):=by exact qe)(b:∀(kV g n:Value)(an:px)(a d:Value)(us:qR),us.length=ps.length->bindArgs (fnOf m x (bW st) (aH st) (av st) .none kV g n an a d) #[us,[]]=pure (ps.zip us):=by intro _ _ _ _ _ _;first|exact Ae rfl|exact Ad λ_=>rfl|exact Ac λ_ _=>rfl|exact Ab λ_ _ _=>rfl|exact Aa λ_ _ _ _=>rfl|exact Dj λ_ _ _ _ _=>rfl)(len:∀vs H Q E,sp vs H Q E->vs.length=ps.length:=by intro _ _ _ _ h;cases h;subst_vars;rfl):uL P w K mg base (k+1) f ps sp:=by obtain⟨_,_,l,c,e⟩:=bY cT.s.m h;exact(FH (st:=st) (ps:=ps) l c e b).fnX S (len:=len) λ_ _ _ _ H _ Q E r q=>hb H Q E S.nd r q
theorem nw(j i:Nat){C:Addr}{m x:Str}{st:Stmt}{f:Addr}{k:Nat}{ps:r9}{sp:Sp}(F:dg P w K mg base k f ps sp)(h:mL[j]?=some (C,("__init__":Str),x,st,f):=by rfl)(g:rL[i]?=some (m, .ref C):=by rfl)(e:C∈cL:=by decide):mJ P w K mg base k m C ps sp:=#[#[f,#[(hC C e).mi,(mM j h).at_,(mM j h).fn,(hC C e).kc],F],gR i g]
theorem cM(j:Nat){C:Addr}{m x:Str}{st:Stmt}{f:Addr}{k:Nat}{ps:r9}{sp:Sp}(F:dg P w K mg base k f ps sp)(h:mL[j]?=some (C,m,x,st,f):=by rfl)(e:C∈cL:=by decide):nW P w K mg base k C m ps sp:=#[(hC C e).toCls,f,mM j h,F]
theorem cMX(j:Nat){C:Addr}{m x:Str}{st:Stmt}{f:Addr}{k:Nat}{ps:r9}{sp:Sp}(F:uL P w K mg base k f ps sp)(h:mL[j]?=some (C,m,x,st,f):=by rfl)(e:C∈cL:=by decide):uM P w K mg base k C m ps sp:=#[(hC C e).toCls,f,mM j h,F]
theorem oNH:wc "NoHouse" 200 197 pF "ValueError.__new__" mg base:=LZ cT.X cT.G (bY cT.s.r (i:=7) rfl) cT.s.qH
theorem LH:PyProof.Rows.OwnCls "NoSet" 181 pF "ValueError.__new__" mg base:=zM cT.X cT.G (bY cT.s.r (i:=9) rfl) cT.s.qNoSet
theorem Bn:PyProof.Rows.OwnCls "NoLine" 212 pF "ValueError.__new__" mg base:=zM cT.X cT.G (bY cT.s.r (i:=10) rfl) cT.s.qNoLine
theorem Jd:PyProof.Rows.OwnCls "NoName" 224 pF "ValueError.__new__" mg base:=zM cT.X cT.G (bY cT.s.r (i:=11) rfl) cT.s.qNoName
theorem d4:Four 297 835 901 321:=#[444444]
theorem hck:∀C,J2 297 835 901 321 C->Cls K C/\gO K C "many":=λC h=>by rcases h with rfl|rfl|rfl|rfl;show#[(hC 297).toCls,nA 1];show#[(hC 835).toCls,nA 4];show#[(hC 901).toCls,nA 8];show#[(hC 321).toCls,nA 12]
theorem xn:Ca 1 "holds" ["s","thing"] Ij:=by refine cl 0 ["s","thing"] λH Q E nd b h=> ?_;obtain⟨s,t,rfl,h0,a,k⟩:=h;show#[_,(sret (wpe aG (ak aK (ak Fe (pv 0) (pv 1)) aa) aa)),6];show#[778,a,8,(by show(0:Int)<2;decide),26];show Q (.bl (decide (V.int (s/2^t.toNat % 2)=V.int 1))) H;rw[F7 h0];exact k
theorem cq:Ca 2 "things" ["s"] Ez:=by
 refine cl 1 ["s"] λH Q E nd j h=> ?_;obtain⟨s,rfl,h0,b,k⟩:=h;show#[_,(sret (dr ["thing"] ["s"] [0] (wrng hT.range_ (IX (K:=K) ⋯ PySem.F.plainAttrs_int PySem.F.slot_int_bit_length PySem.F.type_int_bit_length Jl (pv 0))) (wnY 0) (cH (cj (wcal xn j (pa2 (pv 1) (pv 0))))) (pv 0))),6];have hb:Builtin.Int.intBits s<=8:=by
  obtain⟨n,rfl⟩:=OJ h0;unfold Builtin.Int.intBits;split
  .lia
  .rename_i f;have g:n≠0:=by intro e;subst e;exact f rfl
   have:n.log2<8:=(RI g).mpr ();show(n:Int).natAbs.log2+1<=8;rw[Int.natAbs_natCast];lia
 show#[72727996];refine nH (λi=>s.toNat.testBit i) (λi=> .int (0+(i:Nat))) (by rw[N9];exact NV hb ∅) (λi vs H' R S m l a d=> ?_) λD H' c a hl=> ?_
 .obtain⟨v,rfl⟩:=aX l;show#[77,s,7,h0,976];have e:(0+(i:Int)).toNat=i:=()
  have q:=d [some (.int (0+(i:Nat)))] H' rfl (Same.refl _);rw[e];cases hb:s.toNat.testBit i with
  |true=>
   rw[hb,NZ rfl]at q;exact aP #[7,q]
  |false=>
   rw[hb,NW Oo]at q;exact aS q
 .rw[Ce h0 b]at hl;exact k D H' a c hl
theorem jY:Ca 3 "size" ["s"] KZ:=by refine cl 2 ["s"] λH Q E nd b h=> ?_;obtain⟨s,rfl,h0,a,k⟩:=h;show#[_,(sret (wlen K hT.len_ (wcal cq b (pa1 (pv 0))))),6];show#[7,s,2,h0,a,λp H' c d hl=>#[p,7, .inl (SqL.of hl),6]];have q:=k H' c;rwa[<-My (f:=V.int)]at q
theorem jX:Ca 1 "within" ["s","t"] Eu:=by
 refine cl 3 ["s","t"] λH Q E nd b h=> ?_;obtain⟨s,t,rfl,h0,a,k⟩:=h;show#[_,(sret (wpe aG (ak kZ (pv 0) (pv 1)) (pv 0))),6];show#[778726];show Q (.bl (decide (V.int (Builtin.bitAnd s t)=V.int s))) H;have e:decide (V.int (Builtin.bitAnd s t)=V.int s)=decide (s.toNat&&&t.toNat=s.toNat):=by
  rw[j2 h0 a];by_cases h:s.toNat&&&t.toNat=s.toNat
  .rw[N2 h,N2];rw[h];congr 1;lia
  .rw[NX h,NX];intro q;have:=V.int.inj q;lia
 rw[e];exact k
theorem qP:Ca 3 "parts" ["s"] Ih:=by
 refine cl 4 ["s","found","thing"] λH Q E nd hr h=> ?_;obtain⟨s,rfl,h0,M,k⟩:=h;show#[_,(ae (wset 1 nd (aZ (pa1 aa)))
   (ae (wfor (wil K (wcal cq hr (pa1 (pv 0)))) (wname 2 nd)
     (au (wset 1 nd (ak fZ (pv 1) (dr ["part"] ["thing"] [2] (wil K (pv 1)) (wnY 0) bb (ak xf (pv 0) (ak iJ aa (pv 1))))))))
   (sret (pv 1)))),6]
 show#[by show 1<=sizeLine;decide,λq0 B=> ?_];show#[7,s,2,h0,M,λp H1 G b4 r=>#[p,2,#[_,SqL.of r],6]];generalize hn:s.toNat=n at*;refine ba (K:=K) (a:=p) (xs:=(bits n).map V.int) (λi f b=>∃(q:Addr)(v:Option V),Same H b/\b p=some (.lst ((bits n).map V.int))/\H q=none/\b q=some (.lst ((((bits n).take i).foldl gp [0]).map V.int))/\f=[XZ s,XS q,v])
  #[q0,none,(Same.new B).trans G,r,B,G.at ag,2] (λi f b _ ⟨_,_,_,hp,_⟩=>SqL.of hp) ?_ ?_
 .rintro i y f b N ⟨q,v,m,u,A,c,rfl⟩;obtain⟨z,rfl,hz⟩:=bB N;have zr:=iV (N5 hz);have b2:i<(bits n).length:=(Oc.mp hz).1;have b1:=cV n;have U:(((bits n).take i).foldl gp [0]).length<=128:=by rw[t7,Ow];have h2:2^min i (bits n).length<=2^7:=OG () ();simp;lia
  have ab:∀x∈((bits n).take i).foldl gp [0],0<=x:=xS _ _ #[5];have L:((bits n).take (i+1)).foldl gp [0]=gp (((bits n).take i).foldl gp [0]) z:=by rw[Pk,hz,Q5];rfl
  rw[L];generalize ((bits n).take i).foldl gp [0]=g at*;show#[77,q,2,#[_,SqL.of c],6];refine bO (λx=>(λ_=>true) (cU x)) (λx=> .int ((λt:Int=>((t.toNat|||2^z.toNat:Nat):Int)) (cU x))) (SqL.of c) (by rw[My];exact NV U ∅) (λi x vs H' R S hx hv d O=> ?_) λD H' hD d hl=> ?_
  .obtain⟨v,rfl⟩:=aX hv;obtain⟨t,rfl,ht⟩:=bB hx;have t0:=ab t (N5 ht);have q:=O [some (.int t)] H' rfl (Same.refl _);rw[NZ rfl]at q;simp only[bK,eI,NZ];show#[778,#[zr.1,94],86];have e:Builtin.bitOr t (1*2^z.toNat)=((t.toNat|||2^z.toNat:Nat):Int):=by
    have J:((2:Int)^z.toNat)=((2^z.toNat:Nat):Int):=#[5]
    rw[rT t0 (by rw[RL];exact kD _),RL,J,N9]
   show R (.int (Builtin.bitOr t (1*2^z.toNat))) _ H';rw[e];exact q
  replace hl:=hl.trans (OL (λl=>some (HO.lst l)) (cb (λ_=>true) (λt:Int=>((t.toNat|||2^z.toNat:Nat):Int)) g));rw[O9.mpr (λ_ _=>rfl)]at hl;show#[q,D,8,d.at c,hl,6,λq3 j=> ?_]
  .rw[My,My,My];exact NV (show g.length+g.length<=256 by lia) ∅
  have o:Same H H':=m.trans d;show#[q3,some (.int z),o.upd (o.free j),6,o.free j,62]
  .have:=d.at u;rw[aj (ah this j)];exact this
  .rw[ag];unfold Bh.gp;rw[O1]
 .rintro f b ⟨q,v,m,u,A,c,rfl⟩;rw[My,OV]at c;show#[7,k q b m A c]
theorem iM:Ca 1 "less" ["s","t"] K5:=by
 refine cl 5 ["s","t"] λH Q E nd c h=> ?_;obtain⟨s,t,rfl,k⟩:=h;show#[_,(sret (ak LC (pv 0) (ak kZ (pv 0) (pv 1)))),6];show#[777886];show Q (.int (Builtin.bitXor (s:Int) (Builtin.bitAnd (s:Int) (t:Int)))) H;have e:Builtin.bitXor (s:Int) (Builtin.bitAnd (s:Int) (t:Int))=((dj s t:Nat):Int):=by
  unfold Builtin.bitXor;rw[gi,j1,gi];have h:=Js s t;have l:=jZ s t;have a:s||| (s&&&t)=s:=QJ λj=>by rw[Te,Qo];cases s.testBit j<;>simp
  have b:s&&& (s&&&t)=s&&&t:=QJ λj=>by rw[Qo,Qo];cases s.testBit j<;>simp
  have l2:s&&&t<=s:=S5;rw[a,b]at h⊢;lia
 rw[e];exact k
theorem eB:Ca 1 "all_of" ["n"] Im:=by refine cl 6 ["n"] λH Q E nd b h=> ?_;obtain⟨n,rfl,h0,a,k⟩:=h;show#[_,(sret (ak fj (ak iJ aa (pv 0)) aa)),6];show#[78,#[h0,94],8,k]
theorem vn:Ca 2 "exchanged" ["s","thing","y"] wM:=by
 refine cl 7 ["s","thing","y"] λH Q E nd a h=> ?_;obtain⟨s,t,y,rfl,b,c,k⟩:=h;show#[_,(sret (ak xf (wcal iM a (pa2 (pv 0) (ak iJ aa (pv 1)))) (ak iJ aa (pv 2)))),6];show#[778,#[994],s,2^t,66]
 ·(try dsimp only);rw[lC];rfl
 show#[78,#[994],86];show Q (.int (Builtin.bitOr ((dj s (2^t):Nat):Int) (1*2^((y:Nat):Int).toNat))) H;rw[lC,j1];exact k
theorem CS:Ca 1 "set_of" ["some"] (HZ K):=by
 refine cl 8 ["some","s","thing"] λH Q E nd m h=> ?_;obtain⟨a,ns,rfl,d,hz,k⟩:=h;show#[_,(ae (wset 1 nd aa)
   (ae (wfor (wil K (pv 0)) (wname 2 nd)
     (au (wset 1 nd (ak xf (pv 1) (ak iJ aa (pv 2))))))
   (sret (pv 1)))),6]
 show#[7,a,2,#[_,d],ba (K:=K) (a:=a) (xs:=ns.map V.int) (λi c b=>b=H/\∃v,c=[XS a,some (.int (((ns.take i).foldl (λ(s:Nat) (t:Int)=>s|||2^t.toNat) 0:Nat):Int)),v])
  #[2,none,2] (λi c b _ q=>by rw[q.1];exact d) ?_ ?_]
 .rintro i y c b j ⟨rfl,v,rfl⟩;obtain⟨z,rfl,f⟩:=bB j;obtain⟨l,n⟩:=hz z (N5 f);show#[778,#[l,94],86];show#[2,some (.int z),6];have e:Builtin.bitOr ((((ns.take i).foldl (λ(s:Nat) (t:Int)=>s|||2^t.toNat) 0:Nat):Int)) (1*2^z.toNat)=((((ns.take (i+1)).foldl (λ(s:Nat) (t:Int)=>s|||2^t.toNat) 0:Nat):Int)):=by
   rw[rT () (by rw[RL];exact kD _),Pk,f];have g:((2:Int)^z.toNat)=((2^z.toNat:Nat):Int):=#[5]
   rw[RL,g,N9,N9];simp only[Option.toList_some,Q5,Qn,List.foldl_nil]
  rw[<-e];rfl
 .rintro c b ⟨rfl,v,rfl⟩;show#[76];rw[My,OV];exact k
theorem Fi:Ca 3 "shown" ["s"] HY:=by
 refine cl 9 ["s"] λH Q E nd o h=> ?_;obtain⟨s,rfl,h0,j,k⟩:=h;show#[_,(ae (aC (wpt aG (pv 0) aa)
     (sret (a8 (v:= .str AM) ⋯ (gR 35) #[7]))
     ao)
   (sret (cz (K:=K) ⋯ O5 QD QE (jH (K:=K) ⋯) aw (pa1 (dr ["thing"] [] [] (wil K (wcal cq o (pa1 (pv 0)))) (wnY 0) bb (jB iQ (a8 (v:= .str d7) ⋯ (gR 34) #[7]) (pv 0) (λ_ _=>rfl))))))),6]
 obtain⟨n,rfl⟩:=OJ h0;rw[N9]at k;have d:n<256:=()
 show#[727,bJ (λb=> ?_) (λb=> ?_)]
 .have e:n=0:=by have:=V.int.inj (Ov b);lia
  subst e;exact k H (Same.refl _)
 .have hz:n≠0:=λe=>b (by subst e;rfl);show#[277,h0,j,λp H' u B hl=>#[p,2,#[_,SqL.of hl],6]];rw[N9]at hl;refine bO (λ_=>true) Ng (SqL.of hl) (by rw[My];exact NV (cV n) ∅) (λi x vs a R S hx r g l=> ?_) λD a A g c=> ?_
  .obtain⟨v,rfl⟩:=aX r;obtain⟨z,rfl,t⟩:=bB hx;obtain⟨y,G⟩:=iV (N5 t);obtain⟨m,rfl⟩:=OJ y;have q:=l [some (.int (m:Nat))] a rfl (Same.refl _);rw[NZ rfl]at q;simp only[bK,eI,NZ];show#[734,tX (k:=m) (),6];have f:R (V.str #[#v[97+(m:Int).toNat]]) _ a:=q;rwa[N9]at f
  .rw[CM]at c;show#[_,D,lets n,22,SqL.of c,FQ n d,6];rw[show(("":Str))=(#[#v[]]:Str)from rfl,Dq n d hz];exact k a (u.trans g)
theorem bw:Cb 1 "need" ["right","words"] (bt K 212):=by
 refine clX 10 ["right","words"] λH Q E nd a h=> ?_;obtain⟨b,x,rfl,k1,k2⟩:=h;show#[_,(au (aC (fi (cj (pv 0)))
     (au (qF rfl Bn PK ⋯ tq (pa1 (ve (K:=K) ⋯ a.gd a.units (pv 1)))))
     ao)),6]
 cases b with
 |true=>show#[77,aS (k1 rfl)]
 |false=>
  obtain⟨s,e⟩:=k2 rfl;show#[77,aP #[7,s,λy=>#[by show 1<=sizeLine;decide,λc d=>e c d]]]
theorem qS:Ca 1 "made_of" ["signs","word"] ED:=by
 refine cl 11 ["signs","word"] λH Q E nd n h=> ?_;obtain⟨x,z,rfl,hl,k⟩:=h;show#[_,(sret (dS (wpe i7 (pv 1) aw) (dz (aV (AA (K:=K) ⋯ ⋯) ⋯ hT.all_ PyProof.Rows.boot_all (pa1 (dr ["sign"] ["signs"] [0] (vd (pv 1)) (wnY 0) bb (jV ni (pv 0) (pv 1) ⋯))))))),6];show#[727,bJ (λb=> ?_) λb=> ?_]
 .have hz:cp z≠[]:=λe=>uk.mp b (jU.mpr e);show#[7,z,26];refine Bx (λ_=>true) (λc=> .bl (decide (c∈cp x))) (NV hl ∅) (λi c vs H' R S b j f g=> ?_) λD H' m f d=> ?_
  .obtain⟨v,rfl⟩:=aX j;have q:=g [some (.str #[#v[c]])] H' rfl (Same.refl _);rw[NZ rfl]at q;simp only[bK,eI,NZ];show#[7786];rw[lh];exact q
  .have e:i6 (λ_=>true) (λc=>V.bl (decide (c∈cp x))) (cp z)=((cp z).map λc=>decide (c∈cp x)).map V.bl:=by unfold i6;rw[O9.mpr (λ_ _=>rfl),OE];rfl
   rw[e]at d;show#[D,7,SqL.of d,6];have:=k H' f;rw[show(cp z).isEmpty=false by cases h:cp z with|nil=>exact absurd h hz|cons a l=>rfl]at this;rw[List.all_map];exact this
 .have hz:cp z=[]:=jU.mp (PV λe=>b (uk.mpr e));have:=k H (Same.refl _);rwa[hz]at this
theorem f9:Cb 2 "name_of" ["word"] (za 212 a9 V.str):=by
 refine clX 12 ["word"] λH Q E nd d h=> ?_;obtain⟨z,rfl,hz,k1,k2⟩:=h;show#[_,(ae (aM (aE bw d ∅ ⋯ aF (pa2 (dS (wcal qS d (pa2 (a8 (v:= .str cC) ⋯ (gR 32) #[7]) (pv 0))) (dz (wpe tK (aV bX ⋯ hT.len_ P5 (pa1 (pv 0))) aa))) (pv 0))))
   (sret (pv 0))),6]
 have f:z.length<=61:=hz.1;rw[FD]at k1 k2;show#[7,cC,z,29,λa b=>#[76]];cases hb:(!(cp z).isEmpty&&(cp z).all λc=>decide (c∈cp cC))with
 |true=>
  rw[hb]at k1 k2;refine aP #[7,z,2,hz.line,876];dsimp only;have e:decide ((z.length:Int)<=8)=decide ((cp z).length<=8):=by rw[Ox,bh];lia
  rw[e];show bt K 212 [.bl _, .str z] a _ E;exact a4 hz.shows (λh=>(k2 (by rw[h];rfl)).on b) λh=>#[7,k1 (by rw[h];rfl) a b]
 |false=>
  rw[hb]at k2;refine aS #[76];show bt K 212 [.bl _, .str z] a _ E;exact a4 hz.shows (λ_=>(k2 rfl).on b) λh=>by cases h
theorem fC:Cb 2 "number_of" ["word"] (za 212 eR λz=> .int (NumText.digitsVal (cp z):Nat)):=by
 refine clX 13 ["word"] λH Q E nd e h=> ?_;obtain⟨z,rfl,hz,k1,k2⟩:=h;show#[_,(ae (aM (aE bw e ∅ ⋯ aF (pa2 (wcal qS e (pa2 (a8 (v:= .str jT) ⋯ (gR 33) #[7]) (pv 0))) (pv 0))))
   (ae (aM (aE bw e ∅ ⋯ aF (pa2 (E4 (wpe aG (pv 0) aw) (dz (E5 (cz (K:=K) ⋯ O5 So Sq tU (pv 0) (pa1 aw))))) (pv 0))))
   (sret (aO DV ⋯ hT.int_ RT (pa1 (pv 0)))))),6]
 have o:z.length<=61:=hz.1;show#[7,jT,z,29,λa f=>#[76]];show bt K 212 [.bl _, .str z] a _ E;refine a4 hz.shows (λh=>(k2 (by rw[pR,h];rfl)).on f) λc=> ?_;have l:((decide (cp z=[48])|| !decide ((cp z).head?=some 48))=true->∀g,Same H g->Q (.int (NumText.digitsVal (cp z):Nat)) g):=λd=>k1 (by rw[pR,c,d];rfl);have i:(decide (cp z=[48])|| !decide ((cp z).head?=some 48))=false->Bad 212 E H:=λd=>k2 (by rw[pR,c,d];rfl);have b:∀hb:(decide (cp z=[48])|| !decide ((cp z).head?=some 48))=true,∃(x:Str)(n:Int),[V.str z]=[.str x]/\PySem.intText? x=some n/\x.length<=640/\Q (.int n) a:=λhb=>by
  have m:eR (cp z)=true:=by rw[pR,c,hb];rfl
  obtain⟨j,k,_⟩:=jO.mp m;show#[z,7,PySem.intText_digits k j (),9,l hb a f]
 show#[7276];rw[wD];cases h0:decide (cp z=[48])with
 |true=>
  rw[h0]at b;refine aP #[76];show bt K 212 [.bl _, .str z] a _ E;exact a4 hz.shows (λh=>by cases h) λ_=>#[7,b rfl]
 |false=>
  rw[h0]at b i;refine aS #[72,z,7276];rw[GP];show#[76];show bt K 212 [.bl _, .str z] a _ E;exact a4 hz.shows (λh=>(i (by rw[h];rfl)).on f) λh=>#[7,b (by rw[h];rfl)]
theorem bI:Cb 3 "number_up_to" ["most","word"] (KU 212):=by
 refine clX 14 ["most","word","number"] λH Q E nd c h=> ?_;obtain⟨m,z,rfl,hz,k1,k2⟩:=h;show#[_,(ae (wset 2 nd (aE fC c ∅ ⋯ aF (pa1 (pv 1))))
   (ae (aM (aE bw c ∅ ⋯ aF (pa2 (wpe tK (pv 2) (pv 0)) (pv 1))))
   (sret (pv 2)))),6]
 show#[7,z,2,hz,λa b d=> ?_,λa=>k2 λh=>by rw[a]at h;cases h.1];show#[77876];show bt K 212 [.bl _, .str z] b _ E;refine a4 hz.shows (λh=>(k2 λe=>OX h e.2).on d) λh=>#[7,k1 a (Ov h) b d]
theorem lW:Cb 3 "signed_of" ["word"] (za 212 de λz=> .int (xO (cp z))):=by
 refine clX 15 ["word","number"] λH Q E nd c h=> ?_;obtain⟨z,rfl,hz,k1,k2⟩:=h;show#[_,(ae (aC (fi (cj (cz (K:=K) ⋯ O5 So Sq tU (pv 0) (pa1 aw))))
     (sret (aE fC c ∅ ⋯ aF (pa1 (pv 0))))
     ao)
   (ae (wset 1 nd (aE fC c ∅ ⋯ aF (pa1 (aI eW (pv 0) (aQ aa) aU))))
   (ae (aM (aE bw c ∅ ⋯ aF (pa2 (wpe i7 (pv 1) aa) (pv 0))))
   (sret (lV ig (pv 1)))))),6]
 unfold de at k1 k2;unfold xO at k1;show#[72,z,7276];rw[GO];by_cases a:(cp z).head?=some 45
 .rw[N2 a];rw[NZ a]at k1 k2;rw[NZ a]at k1;have j:cp z≠[]:=λe=>by rw[e]at a;cases a
  have g:=yd j;refine aS #[77,z,2,hz.line,Txt.slice z (some 1) none,2,Mb hz _ _,66]
  rotate_left
  .intro b;rw[g]at b;exact k2 (by rw[b];rfl)
  intro b d i;rw[g]at b⊢;show#[7276];rw[b,OO]at k1 k2;show bt K 212 [.bl _, .str z] d _ E;have f:decide (V.int (NumText.digitsVal (cp z).tail:Nat)=V.int 0)=decide ((cp z).tail=[48]):=by
   rw[Ox,<-JT b];constructor
   .intro h;have:=V.int.inj h;lia
   .intro h;rw[h];rfl
  refine a4 hz.shows (λh=>(k2 (by rw[<-f];exact h)).on i) λh=>#[77,k1 (by rw[<-f];exact h) d i]
 .rw[NX a];rw[NW a]at k1 k2;rw[NW a]at k1;exact aP #[7,z,2,hz,k1,k2]
theorem Ja:HJ P w K mg base 4 "read" ["text"] (K3 181):=by
 refine clG 16 ["text","s"] λH Q E nd d h=> ?_;obtain⟨z,rfl,s,k1,k2⟩:=h;show#[_,(ae (wset 1 nd (wcal CS d (pa1 (dr ["thing","letter"] ["text"] [0] (E2 ⋯ hT.enumerate_ (pa1 (a8 (v:= .str d7) ⋯ (gR 34) #[7]))) (pJ (K:=K) (n:=2) ⋯ ⋯ (eM (wnY 0) (eM (wnY 1) pI))) (cH (dk ni (pv 1) (pv 2) ⋯)) (pv 0)))))
   (ae (aC (wpt i7 (wcal Fi d (pa1 (pv 1))) (pv 0))
     (au (qF rfl LH PK ⋯ zE (pa1 (ve (K:=K) ⋯ d.gd d.units (pv 0)))))
     ao)
   (sret (pv 1)))),6]
 show#[d7,26];refine Dl (λ_ c=>decide (c∈z.cps.toList)) (λi _=> .int (i:Nat)) ∅ (λi c t vs H' R S B x g u p=> ?_) λm H' A g hl=> ?_
 .obtain⟨v,l,rfl⟩:∃v l,vs=[v,l]:=by
   match vs,x with
   | [a,b],_=>show#[a,b,2]
  have q:=p [some (.int (i:Nat)),some (.str #[#v[c]])] H' rfl (Same.refl _);show#[t,7,SqT.of u,21786];show#[77876];rw[lh];cases hb:decide (c∈z.cps.toList)with
  |true=>
   rw[hb,NZ rfl]at q;exact aP #[7,q]
  |false=>
   rw[hb,NW Oo]at q;exact aS q
 .rw[CK]at hl;show#[m,bits (rdN z.cps.toList),2,SqL.of hl,λz hz=>iV hz,6];rw[Iv (qA _) (λz hz=>iV hz) (λz=>Iff.rfl)];have G:=qA z.cps.toList;show#[7799,λj k=> ?_];rw[N9];show#[7276];by_cases f:jf (rdN z.cps.toList)=z.cps.toList
  .refine Ni ((kF.mpr f.symm).symm) ?_;show#[7,k1 f j (g.trans k)]
  .have r:decide (V.str (tx (jf (rdN z.cps.toList)))=V.str z)=false:=NX λe=>f (kF.mp e.symm).symm;rw[r];refine aP #[7, .inl #[z,26],λy=>#[by show 1<=sizeLine;decide,λo _=>k2 f j o (g.trans k)]];have:=s.repr (N3 _);exact NV this ∅
theorem kl:Cb 5 "set_within" ["n","word"] (MH 212):=by
 refine clX 17 ["n","word","s"] λH Q E nd a h=> ?_;obtain⟨n,z,rfl,g,hz,k1,k2⟩:=h;show#[_,(ae (IG (i:=2) Ja a ∅ ⋯ nd ⋯ (PR rfl) ⋯ (gR 9) cT.s.xN rfl rfl Bn PK ⋯ zF (λ_=>(pa1 (pv 1))) (λ_=>(pa1 (ve (K:=K) ⋯ a.gd a.units (pv 1)))))
   (ae (aM (aE bw a ∅ ⋯ aF (pa2 (wcal jX a (pa2 (pv 2) (wcal eB a (pa1 (pv 0))))) (pv 1))))
   (sret (pv 2)))),6]
 unfold dJ at k1 k2;show#[7,z,2,bP.mono hz ∅,λd b c=> ?_,λd b j c=>#[27,hz.shows,λy=>#[by show 1<=sizeLine;decide,λf k=> ?_]]]
 .have lt:=qA (cp z);show#[77,(n:Int),2996];rw[eS];have p8:2^n<=2^8:=OG ∅ g;show#[17996];show#[76];show bt K 212 [.bl _, .str z] b _ E;rw[N2 d,OO]at k1 k2;have e:decide (((rdN (cp z):Nat):Int).toNat&&& ((2^n-1:Nat):Int).toNat=((rdN (cp z):Nat):Int).toNat)=decide (rdN (cp z)<2^n):=by rw[N9,N9,Ox];exact GS
  exact a4 hz.shows (λh=>(k2 (e.symm.trans h)).on c) λh=>#[7,k1 (e.symm.trans h) b c]
 .exact(k2 (by rw[NX d];rfl)) b f c
theorem CQ:Cb 4 "tie_of" ["points","word"] (ME 212):=by
 refine clX 18 ["points","word"] λH Q E nd f h=> ?_;obtain⟨p,z,rfl,p9,hz,k1,k2⟩:=h;show#[_,(ae (aM (aE bw f ∅ ⋯ aF (pa2 (wpe aG (aV bX ⋯ hT.len_ P5 (pa1 (pv 1))) aa) (pv 1))))
   (sret (cn (pa2 (aE bI f ∅ ⋯ aF (pa2 (ak fj (pv 0) aa) (jB iQ (pv 1) aa (λ_ _=>rfl)))) (aE bI f ∅ ⋯ aF (pa2 (ak fj (pv 0) aa) (jB iQ (pv 1) aa (λ_ _=>rfl)))))))),6]
 unfold ja at k1 k2;show#[7,z,2,hz.line,276];show bt K 212 [.bl _, .str z] H _ E;have i:decide (V.int (z.length:Int)=V.int 2)=decide ((cp z).length=2):=by
  rw[Ox,bh];constructor
  .intro h;have:=V.int.inj h;lia
  .intro h;rw[h];rfl
 refine a4 hz.shows (λh=>k2 (by rw[<-i,h];rfl)) λh=> ?_;have hl:(cp z).length=2:=Ov (i.symm.trans h);obtain⟨a,b,d⟩:∃a b,cp z=[a,b]:=by
  match q:cp z,hl with
  | [a,b],_=>show#[a,b,2]
 rw[d]at k1 k2;have x:a∈cp z:=by rw[d];exact N8
 have hb:b∈cp z:=by rw[d];exact N4 _ N8
 have m:atI (cp z) 0=some a:=bH (j:=0) (by rw[d];rfl);have n:atI (cp z) 1=some b:=bH (j:=1) (by rw[d];rfl);have ok:∀c:Nat,(eR [c]=true/\((NumText.digitsVal [c]:Nat):Int)<=(p:Int) -1)↔48<=c/\c<48+p:=λc=>by rw[JU,uN,OB];lia
 show#[787,z,_,a,22,hz.line,m,_,#[#v[a]],2,Eb hz x,λr s y g=> ?_,λh=>k2 ?_]
 rotate_left
 .have e:¬(48<=a/\a<48+p):=λq=>h ((ok a).mpr q);show(true&&(decide (48<=a/\a<48+p)&&_))=false;rw[NX e];rfl
 have a0:=(ok a).mp #[r,s];show#[787,z,_,b,22,hz.line,n,_,#[#v[b]],2,Eb hz hb,λu v A l=> ?_,λh=>(k2 ?_).on g]
 rotate_left
 .have e:¬(48<=b/\b<48+p):=λq=>h ((ok b).mpr q);show(true&&(_&&(decide (48<=b/\b<48+p)&&true)))=false;rw[NX e];simp
 have o:=(ok b).mp #[u,v];show#[by show 2<=sizeLine;decide,λt k=> ?_];refine k1 (by simp[a0,o]) t (a-48) (b-48) _ () () ((g.trans l).trans (Same.new k)) ((g.trans l).free k) ?_;rw[ag];show some (HO.tup [V.int ((NumText.digitsVal [a]:Nat):Int),V.int ((NumText.digitsVal [b]:Nat):Int)])=_;rw[uN,uN]
theorem zQ:Cb 2 "rows_of" ["n","numbers"] (K2 K 212):=by
 refine clX 19 ["n","numbers"] λH Q E nd hr h=> ?_;obtain⟨n,a,c,rfl,n8,f,hl,hz,k1,k2⟩:=h;show#[_,(ae (aC (wpt aG (pv 0) aa)
     (ae (aM (aE bw hr ∅ ⋯ aF (pa2 (wpe aG (wlen K hT.len_ (pv 1)) aa) (pv 1))))
     (sret (aZ aN)))
     ao)
   (ae (aM (aE bw hr ∅ ⋯ aF (pa2 (dS (wpe aG (ak aK (wlen K hT.len_ (pv 1)) (pv 0)) aa) (dz (wpe tK (wlen K hT.len_ (pv 1)) (ak dB (a8 (v:= .int gC) ⋯ (gR 36) #[7]) (pv 0))))) (pv 1))))
   (sret (dr ["start"] ["numbers","n"] [1,0] (CH ⋯ hT.range_ (ai aa (ai (wlen K hT.len_ (pv 1)) (ai (pv 0) aN)))) (wnY 0) bb (aI (a5 (K:=K) ⋯) (pv 1) (aQ (pv 0)) (aQ (ak bg (pv 0) (pv 2)))))))),6]
 have N:∀H',Same H H'->oZ K H' (.ref a):=λH' o=>zp (o.seq f) hl hz;unfold i3 at k1 k2;show#[727,bJ (λB=> ?_) λB=> ?_]
 .have e:n=0:=by have:=V.int.inj (Ov B);lia
  rw[NZ e]at k1 k2;show#[7,a,7, .inl f,276];rw[My];show bt K 212 [.bl _, .ref a] H _ E;have d:decide (V.int ((c.length:Nat):Int)=V.int 0)=decide (c.length=0):=by
   rw[Ox];constructor
   .intro h;have:=V.int.inj h;lia
   .intro h;rw[h];rfl
  refine a4 (N H (Same.refl _)) (λh=>k2 (d.symm.trans h)) λh=>#[by show 0<=sizeLine;decide,λq m=> ?_];exact k1 (d.symm.trans h) q [] [] _ (Same.new m) m ag #[2,λi r h=>by simp at h] ∅ λr L=>absurd L #[5]
 .have n0:n≠0:=λe=>B (N2 (by rw[e];rfl));rw[NW n0]at k1 k2;have np:0<n:=()
  show#[7,a,7, .inl f,78,(by show(0:Int)<n;lia),276];rw[My];have g:decide (V.int ((c.length:Nat) % (n:Int))=V.int 0)=decide (c.length % n=0):=by
   rw[Ox];constructor
   .intro h;have:=V.int.inj h;lia
   .intro h;have:((c.length:Nat):Int) % (n:Int)=0:=()
    rw[this]
  rw[g];cases J:decide (c.length % n=0)with
  |false=>
   rw[J]at k2;refine aS #[76];show bt K 212 [.bl _, .ref a] H _ E;exact a4 (N H (Same.refl _)) (λ_=>k2 rfl) λh=>by cases h
  |true=>
   rw[J,OO]at k1 k2;refine aP #[7,a,7, .inl f,78, .inl #[44],876];rw[My];show bt K 212 [.bl _, .ref a] H _ E;have d:decide (((c.length:Nat):Int)<=8*(n:Int))=decide (c.length<=8*n):=by rw[Ox];lia
   refine a4 (N H (Same.refl _)) (λh=>k2 (d.symm.trans h)) λh=> ?_;have hb:c.length<=8*n:=Ov (d.symm.trans h);replace k1:=k1 (d.symm.trans h);obtain⟨q,m⟩:∃q,c.length=n*q:=#[c.length/n,(Nat.mul_div_cancel' (Nat.dvd_of_mod_eq_zero (Ov J))).symm];have q8:q<=8:=Nat.le_of_mul_le_mul_left (show n*q<=n*8 by lia) np;show#[7,a,7, .inl f,7,n,q,6,#[np,99],6]
   .rw[My,m]
   refine LO (λi y G=>∃(b:Addr)(r:sv),y= .ref b/\G b=some (.lst (r.map V.int))/\gk n 200 r) (λi y G G' e h=>by obtain⟨b,r,u,x,h3⟩:=h;show#[b,r,u,e.at x,h3]) (NV q8 ∅) (λi vs D H' R S hi hv o A hk=> ?_) λD H' s A o a0 b0 hR=> ?_
   .obtain⟨v,rfl⟩:=aX hv;obtain⟨l,bN⟩:=A;simp only[bK,eI,NZ];have i1:n*i+n<=c.length:=by rw[m];have:n*(i+1)<=n*q:=Nat.mul_le_mul_left n hi;rwa[Nat.mul_add,Tc]at this
    have ei:(0:Int)+(i:Nat)*(n:Int)=((n*i:Nat):Int):=by rw[Nat.mul_comm n i];simp
    show#[7777787,a,7,o.seq f,λp U=> ?_];have ec:dE (c.map V.int) (some ((0:Int)+(i:Nat)*(n:Int))) (some ((0:Int)+(i:Nat)*(n:Int)+(n:Int)))=(((c.drop (n*i)).take n)).map V.int:=by rw[ei,show((n*i:Nat):Int)+(n:Int)=((n*i+n:Nat):Int) by lia,GD _ () (by rw[My];exact i1),Nat.add_sub_cancel_left,Tn,To]
    rw[ec];refine hk _ [some _] _ #[p,(c.drop (n*i)).take n,266,λz b3=>hz z (QL (Ri b3))] rfl (Same.new U)
    .rw[gA (ah bN U).symm,ag]
    .rw[Ow,OU];lia
   .obtain⟨M,k⟩:∃M:List (List Int),M.length=s.length/\∀(j:Nat)(r:sv)(y:V),M[j]?=some r->s[j]?=some y->∃b,y= .ref b/\H' b=some (.lst (r.map V.int))/\gk n 200 r:=Bc s λj y hy=>by obtain⟨b,r,g,d,t⟩:=hR j y hy;show#[b,r,g,dH.at d,t]
    refine k1 D s M H' o A a0 (bu.of k.1.symm λj r y u x=> ?_) (by rw[k.1,b0];exact q8) λr L=> ?_
    .obtain⟨b,g,d,_⟩:=k.2 j r y u x;show#[b,g,d]
    .obtain⟨j,O⟩:=Pq L;have jl:j<s.length:=by rw[<-k.1];exact(Oc.mp O).1
     obtain⟨b,_,_,t⟩:=k.2 j r _ O (Ob jl);exact t
theorem vk:Cb 4 "read_even" ["words"] (eJ K 212 kA tD):=by
 refine clX 20 ["words","n"] λH Q E nd d h=> ?_;obtain⟨a,ws,rfl,b,e,k1,k2⟩:=h;show#[_,(ae (aM (aE bw d ∅ ⋯ aF (pa2 (wpe aG (wlen K hT.len_ (pv 0)) aa) (pv 0))))
   (ae (wset 1 nd (aE bI d ∅ ⋯ aF (pa2 (a8 (v:= .int gC) ⋯ (gR 36) #[7]) (aD K (pv 0) aa))))
   (sret (cn (pa2 (aZ aN) (aZ (pa2 (pv 1) (aE bI d ∅ ⋯ aF (pa2 (pv 1) (aD K (pv 0) aa)))))))))),6]
 show#[7,a,7, .inl b,276];rw[My];show bt K 212 [.bl _, .ref a] H _ E;refine a4 (e.shows b) (λh=>k2 (xV (OX ((hU ws.length 2).symm.trans h)))) λh=> ?_;obtain⟨x,y,rfl⟩:=ik (Ov ((hU ws.length 2).symm.trans h));have hx:=e.head;have A:=e.tail.head;show#[7,a,3,b,aR (i:=0) rfl,(8:Int),x,2,hx.1,λk l B f=> ?_,λh=>k2 ?_]
 rotate_left
 .show(match bj 8 (cp x)with|some n=>(bj n (cp y)).isSome|none=>false)=false;rw[rP (m:=8) h]
 have ex:=rO (m:=8) k l;show#[by show 0<=sizeLine;decide,λq c=> ?_];show#[777,a,3,(f.trans (Same.new c)).seq b,aR (i:=1) rfl,((NumText.digitsVal (cp x):Nat):Int),y,2,A.1,λo p G j=> ?_,λh=>(k2 ?_).on (f.trans (Same.new c))]
 rotate_left
 .show(match bj 8 (cp x)with|some n=>(bj n (cp y)).isSome|none=>false)=false;rw[ex];show(bj _ (cp y)).isSome=false;rw[rP h];rfl
 show#[by show 2<=sizeLine;decide,λg u=>#[by show 2<=sizeLine;decide,λt z=> ?_]];obtain⟨f1,f2,r,s⟩:=kW ((f.trans (Same.new c)).trans j) (j.at ag) u z;refine k1 ?_ t q g _ _ _ f1 f2 r s #[217,fF ex];show(match bj 8 (cp x)with|some n=>(bj n (cp y)).isSome|none=>false)=true;rw[ex];show(bj _ (cp y)).isSome=true;rw[rO o p];rfl
theorem kn:Cb 3 "read_house" ["words"] (eJ K 212 cw jz):=by
 refine clX 21 ["words"] λH Q E nd c h=> ?_;obtain⟨a,ws,rfl,b,d,k1,k2⟩:=h;show#[_,(ae (aM (aE bw c ∅ ⋯ aF (pa2 (wpe aG (wlen K hT.len_ (pv 0)) aa) (pv 0))))
   (sret (cn (pa2 (aZ (pa1 (aE f9 c ∅ ⋯ aF (pa1 (aD K (pv 0) aa))))) (aZ aN))))),6]
 show#[7,a,7, .inl b,276];rw[My];show bt K 212 [.bl _, .ref a] H _ E;refine a4 (d.shows b) (λh=>k2 (t6 (OX ((hU ws.length 1).symm.trans h)))) λh=> ?_;obtain⟨x,rfl⟩:=RK.mp (Ov ((hU ws.length 1).symm.trans h));have hx:=d.head;show#[7,a,3,b,aR (i:=0) rfl,x,2,hx.1,λe o n=> ?_,λh=>k2 h];show#[by show 1<=sizeLine;decide,λq l=>#[by show 0<=sizeLine;decide,λg k=>#[by show 2<=sizeLine;decide,λt m=> ?_]]];obtain⟨f1,f2,f,j⟩:=kW (n.trans (Same.new l)) ag k m;exact k1 e t q g _ _ _ f1 f2 f j #[x,[],24,v8 hx.1]
theorem dC:Cb 3 "read_two_houses" ["words"] (eJ K 212 i9 jz):=by
 refine clX 22 ["words"] λH Q E nd k h=> ?_;obtain⟨a,ws,rfl,d,b,k1,k2⟩:=h;show#[_,(ae (aM (aE bw k ∅ ⋯ aF (pa2 (wpe aG (wlen K hT.len_ (pv 0)) aa) (pv 0))))
   (sret (cn (pa2 (ng (.inr #[222,jW]) (vars:=["word"]) (frn:=[]) (fr:=[]) rfl ⋯ ⋯ ⋯ ⋯ Og (wil K (pv 0)) (λ_ _ _ _=>(gu (i:=0) (show List.Nodup (["word"]:List PySem.Str) by decide+kernel) ⋯ (PR rfl))) (λ_ _ _ _=>bb) (λ_ _ _ _=>(aE f9 k ∅ ⋯ er (pa1 (pv 0))))) (aZ aN))))),6]
 show#[7,a,7, .inl d,276];rw[My];show bt K 212 [.bl _, .ref a] H _ E;refine a4 (b.shows d) (λh=>k2 (uO (OX ((hU ws.length 2).symm.trans h)))) λh=> ?_;obtain⟨x,y,rfl⟩:=ik (Ov ((hU ws.length 2).symm.trans h));have hx:=b.head;have O:=b.tail.head;show#[7,a,2,#[_,d],6];refine hW (λv=>∃z,v= .str z/\a9 (cp z)=true) id d (by show 2<=sizeLine;decide) (λi v vs H' R S l L f G=> ?_) λq H' N f hl j=> ?_
 .obtain⟨U,rfl⟩:=aX L;simp only[bK,eI,NZ];rw[Ot]at l;obtain⟨z,hz,rfl⟩:=Q3.mp l;have m:=N5 hz;show#[7,z,2,(b.ok z m).1,λc n M=>G #[z,2,c] [some (.str z)] n rfl M,λc=>(k2 ?_).on f];show(a9 (cp x)&&a9 (cp y))=false;rcases N1.mp m with e|e
  .rw[<-e,c];rfl
  .rw[<-Oj.mp e,c,OM]
 .rw[Si]at hl;show#[by show 0<=sizeLine;decide,λg B=>#[by show 2<=sizeLine;decide,λt J=> ?_]];obtain⟨f1,f2,u,A⟩:=kW f hl B J;refine k1 ?_ t q g _ _ _ f1 f2 u A #[x,[y],2,QF 1 9,λz hz=>(b.ok z hz).1.1];obtain⟨_,r,o⟩:=j (.str x) N8;obtain⟨_,s,p⟩:=j (.str y) (N4 _ N8);cases r;cases s;show(a9 (cp x)&&a9 (cp y))=true;rw[o,p];rfl
theorem bQ:Cb 6 "read_house_and_set" ["words"] (eJ K 212 eQ jz):=by
 refine clX 23 ["words"] λH Q E nd d h=> ?_;obtain⟨a,ws,rfl,b,e,k1,k2⟩:=h;show#[_,(ae (aM (aE bw d ∅ ⋯ aF (pa2 (wpe aG (wlen K hT.len_ (pv 0)) aa) (pv 0))))
   (sret (cn (pa2 (aZ (pa1 (aE f9 d ∅ ⋯ aF (pa1 (aD K (pv 0) aa))))) (aZ (pa1 (aE kl d ∅ ⋯ aF (pa2 (a8 (v:= .int gC) ⋯ (gR 36) #[7]) (aD K (pv 0) aa))))))))),6]
 show#[7,a,7, .inl b,276];rw[My];show bt K 212 [.bl _, .ref a] H _ E;refine a4 (e.shows b) (λh=>k2 (rB (OX ((hU ws.length 2).symm.trans h)))) λh=> ?_;obtain⟨x,y,rfl⟩:=ik (Ov ((hU ws.length 2).symm.trans h));have hx:=e.head;have r:=e.tail.head;rw[vG]at k1 k2;show#[7,a,3,b,aR (i:=0) rfl,x,2,hx.1,λk s f=> ?_,λh=>k2 (by rw[h];rfl)];rw[k,OO]at k1 k2;show#[by show 1<=sizeLine;decide,λq c=> ?_];show#[7,a,3,(f.trans (Same.new c)).seq b,aR (i:=1) rfl,(8),y,24,r.1,λl u j=> ?_,λh=>(k2 h).on (f.trans (Same.new c))];show#[by show 1<=sizeLine;decide,λg o=>#[by show 2<=sizeLine;decide,λt p=> ?_]];obtain⟨f1,f2,m,n⟩:=kW ((f.trans (Same.new c)).trans j) (j.at ag) o p;exact k1 l t q g _ _ _ f1 f2 m n #[x,[],24,v8 hx.1]
theorem c6:Cb 4 "read_house_and_numbers" ["words"] (eJ K 212 rD jz):=by
 refine clX 24 ["words"] λH Q E nd j h=> ?_;obtain⟨a,ws,rfl,b,d,k1,k2⟩:=h;show#[_,(ae (aM (aE bw j ∅ ⋯ aF (pa2 (wpe xg (wlen K hT.len_ (pv 0)) aa) (pv 0))))
   (sret (cn (pa2 (aZ (pa1 (aE f9 j ∅ ⋯ aF (pa1 (aD K (pv 0) aa))))) (ng (.inr #[222,jW]) (vars:=["word"]) (frn:=[]) (fr:=[]) rfl ⋯ ⋯ ⋯ ⋯ Og (wil K (aI (a5 (K:=K) ⋯) (pv 0) (aQ aa) aU)) (λ_ _ _ _=>(gu (i:=0) (show List.Nodup (["word"]:List PySem.Str) by decide+kernel) ⋯ (PR rfl))) (λ_ _ _ _=>bb) (λ_ _ _ _=>(aE lW j ∅ ⋯ er (pa1 (pv 0))))))))),6]
 show#[7,a,7, .inl b,876];rw[My];show bt K 212 [.bl _, .ref a] H _ E;cases ws with
 |nil=>exact a4 (d.shows b) (λ_=>k2 rfl) λh=>by cases h
 |cons x r=>
  refine a4 (d.shows b) (λh=>absurd (OX h) (by simp;lia)) λ_=> ?_;have hx:=d.head;show#[7,a,3,b,aR (i:=0) rfl,x,2,hx.1,λJ m y=> ?_,λh=>k2 (by show(a9 (cp x)&&_)=false;rw[h];rfl)];show#[by show 1<=sizeLine;decide,λq s=> ?_];show#[77,a,7,(y.trans (Same.new s)).seq b,λp n=> ?_];have L:dE ((x::r).map V.str) (some 1) none=r.map V.str:=bG _ 1;rw[L];have A:=(y.trans (Same.new s)).trans (Same.new (o:= .lst (r.map V.str)) n);have q2:upd (upd m q (.lst [.str x])) p (.lst (r.map V.str)) q=some (.lst [.str x]):=(Same.new n).at ag;have p2:upd (upd m q (.lst [.str x])) p (.lst (r.map V.str)) p=some (.lst (r.map V.str)):=ag;show#[p,2,#[_,SqL.of p2],6];refine hW (λv=>∃z,v= .str z/\de (cp z)=true) (λv=>match v with| .str z=> .int (xO (cp z))|v=>v) (SqL.of p2) (by rw[My];exact NV d.tail.few ∅) (λi v vs H' R S U O f N=> ?_) λg H' hg f hl M=> ?_
  .obtain⟨v0,rfl⟩:=aX O;simp only[bK,eI,NZ];obtain⟨z,rfl,hz⟩:=dI U;have B:=N5 hz;show#[7,z,2,(d.tail.ok z B).1,λc G af=>N #[z,2,c] [some (.str z)] G rfl af,λc=>(k2 ?_).on (A.trans f)];show(a9 (cp x)&&r.all λx=>de (cp x))=false;rw[(RE (l:=r) (p:=λx=>de (cp x))).mpr #[z,B,by rw[c];decide],OM]
  .show#[by show 2<=sizeLine;decide,λt k=> ?_];have u:H' q=some (.lst [.str x]):=f.at q2;refine k1 ?_ t q g [.str x] _ _ ((A.trans f).trans (Same.new k)) ag (by rw[aj (ah u k),u]) (by rw[aj (ah hl k),hl]) #[x,[],24,v8 hx.1];show(a9 (cp x)&&r.all λx=>de (cp x))=true;rw[J,OO,O3];intro z hz;obtain⟨_,e,c⟩:=M (.str z) (Of.mpr #[z,hz,2]);cases e;exact c
theorem o5:Cb 5 "read_weights" ["words"] (eJ K 212 fq jz):=by
 refine clX 25 ["words"] λH Q E nd d h=> ?_;obtain⟨a,ws,rfl,b,f,k1,k2⟩:=h;show#[_,(ae (aM (aE bw d ∅ ⋯ aF (pa2 (wpe tK (wlen K hT.len_ (pv 0)) (ak bg aa (a8 (v:= .int gC) ⋯ (gR 36) #[7]))) (pv 0))))
   (sret (aE c6 d ∅ ⋯ aF (pa1 (pv 0))))),6]
 show#[7,a,7, .inl b,8876];rw[My];show bt K 212 [.bl _, .ref a] H _ E;have e:decide (((ws.length:Nat):Int)<=1+gC)=decide (ws.length<=9):=by rw[Ox];show((ws.length:Nat):Int)<=1+8↔_;lia
 refine a4 (f.shows b) (λh=>k2 (by unfold fq;rw[<-e,h];rfl)) λh=> ?_;have g:=e.symm.trans h;show#[7,a,ws,2,b,f,λc=>k1 (by unfold fq;rw[g,c];rfl),λc=>k2 (by unfold fq;rw[c,OM])]
theorem sr:Cb 5 "read_worth" ["words"] (eJ K 212 eU jz):=by
 refine clX 26 ["words"] λH Q E nd d h=> ?_;obtain⟨a,ws,rfl,b,e,k1,k2⟩:=h;show#[_,(ae (aM (aE bw d ∅ ⋯ aF (pa2 (wpe aG (wlen K hT.len_ (pv 0)) aa) (pv 0))))
   (sret (aE c6 d ∅ ⋯ aF (pa1 (pv 0))))),6]
 show#[7,a,7, .inl b,276];rw[My];show bt K 212 [.bl _, .ref a] H _ E;refine a4 (e.shows b) (λh=>k2 (by unfold eU;rw[<-hU,show V.int ((3:Nat):Int)=V.int 3 from rfl,h];rfl)) λh=> ?_;have f:=(hU ws.length 3).symm.trans h;show#[7,a,ws,2,b,e,λc=>k1 (by unfold eU;rw[f,c];rfl),λc=>k2 (by unfold eU;rw[c,OM])]
theorem iL:Cb 6 "read_sets" ["words"] (eJ K 212 kf oH):=by
 refine clX 27 ["words","n"] λH Q E nd G h=> ?_;obtain⟨a,ws,rfl,j,f,k1,k2⟩:=h;show#[_,(ae (aM (aE bw G ∅ ⋯ aF (pa2 (wpe xg (wlen K hT.len_ (pv 0)) aa) (pv 0))))
   (ae (wset 1 nd (aE bI G ∅ ⋯ aF (pa2 (a8 (v:= .int gC) ⋯ (gR 36) #[7]) (aD K (pv 0) aa))))
   (sret (cn (pa2 (aZ aN) (aZ (pa2 (pv 1) (aV (yj (P:=P) (w:=w) ⋯ ⋯ ⋯) ⋯ hT.sorted_ S1 (ai (aO (Av (K:=K) (P:=P) (w:=w) ⋯ ⋯ ⋯ ⋯) ⋯ hT.set_ PyProof.Rows.boot_set (pa1 (ng (.inr #[222,jW]) (vars:=["word"]) (frn:=["n"]) (fr:=[1]) rfl ⋯ ⋯ ⋯ ⋯ #[#[⋯,PR ⋯,PR ⋯],Og] (wil K (aI (a5 (K:=K) ⋯) (pv 0) (aQ aa) aU)) (λ_ _ _ _=>(gu (i:=0) (show List.Nodup (["word","n"]:List PySem.Str) by decide+kernel) ⋯ (PR rfl))) (λ_ _ _ _=>bb) (λ_ _ _ _=>(aE kl G ∅ ⋯ er (pa2 (pv 1) (pv 0))))))) aN))))))))),6]
 show#[7,a,7, .inl j,876];rw[My];show bt K 212 [.bl _, .ref a] H _ E;cases ws with
 |nil=>exact a4 (f.shows j) (λ_=>k2 rfl) λh=>by cases h
 |cons x r=>
  refine a4 (f.shows j) (λh=>absurd (OX h) (by simp;lia)) λ_=> ?_;have hx:=f.head;show#[7,a,3,j,aR (i:=0) rfl,(8:Int),x,2,hx.1,λc1 c2 A ar=> ?_,λh=>k2 (A3 (rP (m:=8) h))];have ex:=rO (m:=8) c1 c2;have L:=fF ex;rw[A2 ex]at k1 k2;generalize NumText.digitsVal (cp x)=n at*;show#[by show 0<=sizeLine;decide,λq hq=> ?_];show#[777,a,7,(ar.trans (Same.new hq)).seq j,λp O=> ?_];have ec:dE ((x::r).map V.str) (some 1) none=r.map V.str:=bG _ 1;rw[ec];have ax:=(ar.trans (Same.new hq)).trans (Same.new (o:= .lst (r.map V.str)) O);have q2:upd (upd A q (.lst [])) p (.lst (r.map V.str)) q=some (.lst []):=(Same.new O).at ag;have p2:upd (upd A q (.lst [])) p (.lst (r.map V.str)) p=some (.lst (r.map V.str)):=ag;generalize upd (upd A q (.lst [])) p (.lst (r.map V.str))=H2 at*;show#[p,2,#[_,SqL.of p2],6];refine hW (λv=>∃z,v= .str z/\dJ n (cp z)=true) (λv=> .int (match v with| .str z=>((rdN (cp z):Nat):Int)|_=>0)) (SqL.of p2) (by rw[My];exact NV f.tail.few ∅) (λi v vs H' R S b7 hv u hk=> ?_) λg H' hg u hl B=> ?_
  .obtain⟨v0,rfl⟩:=aX hv;simp only[bK,eI,NZ];obtain⟨z,rfl,hz⟩:=dI b7;have zm:=N5 hz;show#[77,n,z,2,L,(f.tail.ok z zm).1,λc H3 cN=>hk #[z,2,c] [some (.str z)] H3 rfl cN,λc=>(k2 (v9 zm c)).on (ax.trans u)]
  .have cE:r.length<=60:=by
    rcases f.tail.low with h|h
    .exact h
    .rw[O9.mpr λz hz=> ?_]at h
     .lia
     .obtain⟨_,e,c⟩:=B (.str z) (Of.mpr #[z,hz,2]);cases e;exact Iq c
   have el:∃d:List Int,(r.map V.str).map (λv=>V.int (match v with| .str z=>((rdN (cp z):Nat):Int)|_=>0))=d.map V.int/\d.length<=60/\∀z∈d,0<=z/\z.toNat<2^n:=by show#[r.map λz=>((rdN (cp z):Nat):Int),by rw[OE,OE];rfl,by rw[My];exact cE,λy hy=> ?_];obtain⟨z,hz,rfl⟩:=Of.mp hy;obtain⟨_,e,c⟩:=B (.str z) (Of.mpr #[z,hz,2]);cases e;show#[9,by rw[N9];exact Iu c]
   obtain⟨d,eg,gl,gm⟩:=el;rw[eg]at hl;obtain⟨f1,f2⟩:=xC d d.length (N3 _);show#[g,d,2,SqL.of hl,9,λl N=> ?_];have nd:=tV (λi=>d.getD i 0) d.length;show#[l,7,ag,nd,9,λb ms hb U _=> ?_];have k:∀z∈ms,0<=z/\z.toNat<2^n:=λz hz=>gm z (f2 z (U.mem_iff.mp hz));have nb:=zY ms λz hz=>(k z hz).1;have zl:(ms.map Int.toNat).length<=256:=by
    refine NV (CW (2^n) _ ?_ λs J=> ?_) (tF L)
    .exact tP ms (U.nodup_iff.mpr nd) λz hz=>(k z hz).1
    .obtain⟨z,hz,rfl⟩:=Of.mp J;exact(k z hz).2
   show#[by show 2<=sizeLine;decide,λg2 M=>#[by show 2<=sizeLine;decide,λt ht=> ?_]];have c3:=(((ax.trans u).trans (Same.new (o:=yt P w l (PyProof.Rows.firstMet (λi=>d.getD i 0) d.length)) N)).trans (Same.new (o:= .lst (ms.map V.int)) hb));have q5:=(((u.trans (Same.new (o:=yt P w l (PyProof.Rows.firstMet (λi=>d.getD i 0) d.length)) N)).trans (Same.new (o:= .lst (ms.map V.int)) hb))).at q2;obtain⟨h1,h2,h3,h4⟩:=kW c3 q5 M ht;refine k1 ?_ t q g2 _ _ _ h1 h2 h3 h4 #[2,n,b,ms.map Int.toNat,2,L,6,zl,λs J=> ?_]
   .rw[O3];intro z hz;obtain⟨_,e,c⟩:=B (.str z) (Of.mpr #[z,hz,2]);cases e;exact c
   .rw[nb];exact((Same.new M).trans (Same.new ht)).at ag
   .obtain⟨z,hz,rfl⟩:=Of.mp J;exact(k z hz).2
theorem xi:Cb 5 "read_net" ["words"] (eJ K 212 sE w6):=by
 refine clX 28 ["words","points"] λH Q E nd N h=> ?_;obtain⟨a,ws,rfl,f,k,k1,k2⟩:=h;show#[_,(ae (aM (aE bw N ∅ ⋯ aF (pa2 (Fb tK tK aa (wlen K hT.len_ (pv 0)) (ak bg aa (a8 (v:= .int gC) ⋯ (gR 36) #[7]))) (pv 0))))
   (ae (wset 1 nd (aE bI N ∅ ⋯ aF (pa2 (a8 (v:= .int ke) ⋯ (gR 37) #[7]) (aD K (pv 0) aa))))
   (sret (cn (pa2 (aZ aN) (aZ (pa2 (pv 1) (ng (.inr #[222,jW]) (vars:=["word"]) (frn:=["points"]) (fr:=[1]) rfl ⋯ ⋯ ⋯ ⋯ #[#[⋯,PR ⋯,PR ⋯],Og] (wil K (aI (a5 (K:=K) ⋯) (pv 0) (aQ aa) aU)) (λ_ _ _ _=>(gu (i:=0) (show List.Nodup (["word","points"]:List PySem.Str) by decide+kernel) ⋯ (PR rfl))) (λ_ _ _ _=>bb) (λ_ _ _ _=>(aE CQ N ∅ ⋯ er (pa2 (pv 1) (pv 0)))))))))))),6]
 show#[7,a,7, .inl f,876];rw[My];cases ws with
 |nil=>
  refine aS #[76];show bt K 212 [.bl _, .ref a] H _ E;exact a4 (k.shows f) (λ_=>k2 rfl) λh=>by cases h
 |cons x r=>
  have hx:=k.head;rw[N2 (show(1:Int)<=(((x::r).length:Nat):Int) by rw[Oa];lia)];refine aP #[8876];show bt K 212 [.bl _, .ref a] H _ E;have e:decide ((((x::r).length:Nat):Int)<=1+gC)=decide (r.length<=8):=by rw[Ox,Oa];show((r.length+1:Nat):Int)<=1+8↔_;lia
  refine a4 (k.shows f) (λh=>k2 (xA (OX (e.symm.trans h)))) λh=> ?_;have r8:r.length<=8:=Ov (e.symm.trans h);show#[7,a,3,f,aR (i:=0) rfl,(9:Int),x,2,hx.1,λc1 c2 u bp=> ?_,λh=>k2 (Fx (rP (m:=9) h))];have ex:=rO (m:=9) c1 c2;have n9:=fF ex;rw[Fw ex,N2 r8,OO]at k1 k2;generalize NumText.digitsVal (cp x)=n at*;show#[by show 0<=sizeLine;decide,λq hq=> ?_];show#[777,a,7,(bp.trans (Same.new hq)).seq f,λp hp=> ?_];have ec:dE ((x::r).map V.str) (some 1) none=r.map V.str:=bG _ 1;rw[ec];have bN:=(bp.trans (Same.new hq)).trans (Same.new (o:= .lst (r.map V.str)) hp);have q2:upd (upd u q (.lst [])) p (.lst (r.map V.str)) q=some (.lst []):=(Same.new hp).at ag;have p2:upd (upd u q (.lst [])) p (.lst (r.map V.str)) p=some (.lst (r.map V.str)):=ag;generalize upd (upd u q (.lst [])) p (.lst (r.map V.str))=H2 at*;show#[p,2,#[_,SqL.of p2],6];refine hV (λv y G=>∃(z:Str)(b:Addr)(i j:Nat),v= .str z/\y= .ref b/\G b=some (.tup [.int (i:Int), .int (j:Int)])/\(i<n/\j<n)/\ja n (cp z)=true) (λv y G G' e h=>by obtain⟨z,b,i,j,A,B,J,L⟩:=h;show#[z,b,i,j,A,B,e.at J,L]) (SqL.of p2) (by rw[My];exact NV k.tail.few ∅) (λi v vs D H' R S c4 hv s hD hk=> ?_) λg H' U hg s hl M hR=> ?_
  .obtain⟨v0,rfl⟩:=aX hv;simp only[bK,eI,NZ];obtain⟨z,rfl,hz⟩:=dI c4;obtain⟨l,cN⟩:=hD;have zm:=N5 hz;show#[77,n,z,2,n9,(k.tail.ok z zm).1,λc b i j H3 d hj dh hb ct=> ?_,λc=>(k2 (v9 zm c)).on (bN.trans s)];refine hk _ [some (.str z)] H3 #[z,b,i,j,226,#[d,hj],c] rfl dh;rw[gA (ah cN hb).symm];exact ct
  .show#[by show 2<=sizeLine;decide,λg2 ar=>#[by show 2<=sizeLine;decide,λt ht=> ?_]];obtain⟨J,L,h3,h4⟩:=kW (bN.trans s) (s.at q2) ar ht;have b0:=(Same.new (o:= .lst [V.int (n:Int),V.ref g]) ar).trans (Same.new (o:= .tup [.ref q, .ref g2]) ht);rw[My]at M;obtain⟨ts,t1,t2,t3⟩:=xc (H:=upd (upd H' g2 (.lst [V.int (n:Int),V.ref g])) t (.tup [.ref q, .ref g2])) (p:=n) U λy hy=>by
    obtain⟨i,d⟩:=Pq hy;have O:i<(r.map V.str).length:=by rw[My,<-M];exact(Oc.mp d).1
    obtain⟨z,b,i',j',_,B,e3,e4,_⟩:=hR i _ y (Ob O) d;show#[b,i',j',B,b0.at (dH.at e3),e4.1,e4.2]
   refine k1 ?_ t q g2 _ _ _ J L h3 h4 #[2,n,g,U,ts,2,n9,b0.at hl,t1,t2,9];rw[O3];intro z hz;obtain⟨i,d⟩:=Pq hz;have O:i<U.length:=by rw[M];exact(Oc.mp d).1
   obtain⟨z',b,i',j',A,_,_,_,c⟩:=hR i (.str z) _ (by rw[Ot,d];rfl) (Ob O);cases A;exact c
theorem su:Cb 4 "read_table" ["words"] (eJ K 212 fK jy):=by
 refine clX 29 ["words","prime","n"] λH Q E nd d h=> ?_;obtain⟨a,ws,rfl,b,f,k1,k2⟩:=h;show#[_,(ae (aM (aE bw d ∅ ⋯ aF (pa2 (wpe xg (wlen K hT.len_ (pv 0)) aa) (pv 0))))
   (ae (wset 1 nd (aE fC d ∅ ⋯ aF (pa1 (aD K (pv 0) aa))))
   (ae (aM (aE bw d ∅ ⋯ aF (pa2 (jV (eu (K:=K) ⋯) (pv 1) (a8 (v:= .ref 638) ⋯ (gR 13) rfl) ⋯) (pv 0))))
   (ae (wset 2 nd (aE bI d ∅ ⋯ aF (pa2 (a8 (v:= .int gC) ⋯ (gR 36) #[7]) (aD K (pv 0) aa))))
   (sret (cn (pa2 (aZ aN) (aZ (ai (pv 1) (ai (pv 2) (ai (aE zQ d ∅ ⋯ aF (pa2 (pv 2) (ng (.inr #[222,jW]) (vars:=["word"]) (frn:=[]) (fr:=[]) rfl ⋯ ⋯ ⋯ ⋯ Og (wil K (aI (a5 (K:=K) ⋯) (pv 0) (aQ aa) aU)) (λ_ _ _ _=>(gu (i:=0) (show List.Nodup (["word"]:List PySem.Str) by decide+kernel) ⋯ (PR rfl))) (λ_ _ _ _=>bb) (λ_ _ _ _=>(aE lW d ∅ ⋯ er (pa1 (pv 0))))))) aN))))))))))),6]
 show#[7,a,7, .inl b,876];rw[My];show bt K 212 [.bl _, .ref a] H _ E;have L:decide ((2:Int)<=((ws.length:Nat):Int))=decide (2<=ws.length):=by rw[Ox];lia
 refine a4 (f.shows b) (λh=>k2 (sR (OX (L.symm.trans h)))) λh=> ?_;have cv:2<=ws.length:=Ov (L.symm.trans h);obtain⟨x,y,r,rfl⟩:=wA cv;have hx:=f.head;have l:=f.tail.head;rw[jc]at k1 k2;show#[7,a,3,b,aR (i:=0) rfl,x,2,hx.1,λc1 H1 j=> ?_,λh=>k2 (by rw[h];rfl)];rw[c1,OO]at k1 k2;show#[7,(638),7, .inr (cT.s.lN _),2,nK _,76];rw[NW Oo,xQ,C7];show bt K 212 [.bl _, .ref a] H1 _ E;refine a4 (f.shows (j.seq b)) (λh=>(k2 (by rw[h];rfl)).on j) λU=> ?_;rw[U,OO]at k1 k2;generalize hm:NumText.digitsVal (cp x)=m at*;show#[7,a,3,j.seq b,aR (i:=1) rfl,(8:Int),y,2,l.1,λc3 c4 G dd=> ?_,λh=>(k2 (by rw[rP (m:=8) h])).on j];have N:=rO (m:=8) c3 c4;have n8:=fF N;rw[N]at k1 k2;generalize NumText.digitsVal (cp y)=n at*;show#[by show 0<=sizeLine;decide,λq hq=> ?_];have a0:=(j.trans dd).trans (Same.new (o:= .lst []) hq);show#[77777,a,7,a0.seq b,λp ab=> ?_];have ec:dE ((x::y::r).map V.str) (some 2) none=r.map V.str:=bG _ 2;rw[ec];have B:=a0.trans (Same.new (o:= .lst (r.map V.str)) ab);have q2:upd (upd G q (.lst [])) p (.lst (r.map V.str)) q=some (.lst []):=(Same.new ab).at ag;have p2:upd (upd G q (.lst [])) p (.lst (r.map V.str)) p=some (.lst (r.map V.str)):=ag;generalize upd (upd G q (.lst [])) p (.lst (r.map V.str))=J at*;show#[p,2,#[_,SqL.of p2],6];have k:=f.tail.tail;refine hW (λv=>∃z,v= .str z/\de (cp z)=true) (λv=> .int (match v with| .str z=>xO (cp z)|_=>0)) (SqL.of p2) (by rw[My];exact NV k.few ∅) (λi v vs H' R S c8 hv A hk=> ?_) λg H' hg A hl hG=> ?_
 .obtain⟨v0,rfl⟩:=aX hv;simp only[bK,eI,NZ];obtain⟨z,rfl,hz⟩:=dI c8;have zm:=N5 hz;show#[7,z,2,(k.ok z zm).1,λc J B=>hk #[z,2,c] [some (.str z)] J rfl B,λc=>(k2 (by show((r.all λx=>de (cp x))&&_)=false;rw[v9 (p:=λx=>de (cp x)) zm c];rfl)).on (B.trans A)]
 .have all:(r.all λx=>de (cp x))=true:=by rw[O3];intro z hz;obtain⟨_,e,c⟩:=hG (.str z) (Of.mpr #[z,hz,2]);cases e;exact c
  replace k1:=λ(h:i3 n r.length=true)=>k1 (show((r.all λx=>de (cp x))&&i3 n r.length)=true by rw[all,h];rfl);replace k2:=λ(h:i3 n r.length=false)=>k2 (show((r.all λx=>de (cp x))&&i3 n r.length)=false by rw[h,OM]);have eg:(r.map V.str).map (λv=>V.int (match v with| .str z=>xO (cp z)|_=>0))=(r.map λz=>xO (cp z)).map V.int:=by rw[OE,OE];rfl
  rw[eg]at hl;have ax:=B.trans A;show#[n,g,7,n8,SqL.of hl,by rw[My];exact k.few,λz hz=> ?_,66]
  .obtain⟨y,l,rfl⟩:=Of.mp hz;exact F4 (O3.mp all y l) (k.ok y l).2
  rotate_left
  .rw[My];exact λh=>(k2 h).on ax
  rw[My];intro h u us M H5 ay hu cN hM m8 hB;show#[by show 3<=sizeLine;decide,λg2 O=>#[by show 2<=sizeLine;decide,λt ht=> ?_]];obtain⟨h1,h2,h3,h4⟩:=kW (ax.trans ay) (ay.at (A.at q2)) O ht;have az:=(Same.new (o:= .lst [V.int (m:Int),V.int (n:Int),V.ref u]) O).trans (Same.new (o:= .tup [.ref q, .ref g2]) ht);exact k1 h t q g2 _ _ _ h1 h2 h3 h4 #[2,m,n,u,us,M,2,Ov U,n8,az.at cN,hM.same az,m8,hB]
theorem nC:dg P w K mg base 1 652 ["self","target","verb","asked","given"] (wJ 655):=by
 refine fnA 0 ["self","target","verb","asked","given"] λH Q E nd d h=> ?_;obtain⟨p,b,t,v,a,g,rfl,c,k⟩:=h;show#[_,(ae (wsf K (pv 0) (pv 1))
   (ae (wsf K (pv 0) (pv 2))
   (ae (wsf K (pv 0) (pv 3))
   (au (wsf K (pv 0) (pv 4)))))),6]
 show#[77,p,(655),b,7,c,(hC 655).toCls,(nA 15),by show 0<1000;decide,6];show#[77,p,(655),b,7,ag,(hC 655).toCls,(nA 16),by show 1<1000;decide,6];rw[eC];show#[77,p,(655),b,7,ag,(hC 655).toCls,(nA 17),by show 2<1000;decide,6];rw[eC];show#[77,p,(655),b,7,ag,(hC 655).toCls,(nA 18),by show 3<1000;decide,6];rw[eC];exact k
theorem nLn:mJ P w K mg base 1 "Line" 655 ["self","target","verb","asked","given"] (wJ 655):=nw 0 5 nC
theorem Nv:∀z f,True->(kvM 725 730 735 740 747 759 752).lookup z=some f->∃a,c5 P w K mg base (CXe P w) 6 f a ["words"] (uQ K 212 z)/\cx K a ["words"] []/\keepIn K (.ref f)=true:=by refine λz f _ h=>mj (p:=λz f=>∃a,c5 P w K mg base (CXe P w) 6 f a ["words"] (uQ K 212 z)/\cx K a ["words"] []/\keepIn K (.ref f)=true) ?_ z f h;unfold kvM;simp only[R7];have d:=bq (k:=6) bQ (gR 22) ∅ (FF (K:=K) (C:=212) (.inl rfl));have b:=bq (k:=6) bQ (gR 22) ∅ (FF (K:=K) (C:=212) (.inr rfl));show#[bq vk (gR 17) ∅ Jo,bq iL (gR 18) ∅ (vB (.inl rfl)),bq iL (gR 18) ∅ (vB (.inr (.inl rfl))),bq iL (gR 18) ∅ (vB (.inr (.inr rfl))),bq xi (gR 19) ∅ LJ,bq su (gR 20) ∅ FE,bq kn (gR 21) ∅ FG,d,b,bq dC (gR 23) ∅ Jm,λe c=>nomatch c]
theorem Nx:∀z f,True->(kvA 747 759 752 771 778).lookup z=some f->∃a,c5 P w K mg base (CXe P w) 6 f a ["words"] (wO K 212 z)/\cx K a ["words"] []/\keepIn K (.ref f)=true:=by refine λz f _ h=>mj (p:=λz f=>∃a,c5 P w K mg base (CXe P w) 6 f a ["words"] (wO K 212 z)/\cx K a ["words"] []/\keepIn K (.ref f)=true) ?_ z f h;unfold kvA;simp only[R7];have b:∀z,z∈fv->∃a,c5 P w K mg base (CXe P w) 6 747 a ["words"] (wO K 212 z)/\cx K a ["words"] []/\keepIn K (.ref 747)=true:=λz hz=>bq kn (gR 21) ∅ (GX hz);show#[b _ ∅,b _ ∅,b _ ∅,b _ ∅,bq bQ (gR 22) ∅ (GW (.inl rfl)),bq bQ (gR 22) ∅ (GW (.inr rfl)),bq dC (gR 23) ∅ (GV (.inl rfl)),b _ ∅,b _ ∅,b _ ∅,bq dC (gR 23) ∅ (GV (.inr rfl)),bq o5 (gR 24) ∅ GY,b _ ∅,bq sr (gR 25) ∅ GU,λd c=>nomatch c]
theorem qQ:Cb 7 "making_line" ["words"] (EE K 212 655 (λws=>2<ws.length) λws=>if a9 (cp (ws.getD 0 ""))=true then lnM (ws.getD 2 "") (ws.drop 3)else 0):=by
 refine clX 30 ["words","target","verb","found"] λH Q E nd b h=> ?_;obtain⟨a,ws,rfl,u,d,hl,k1,k2⟩:=h;show#[_,(ae (wset 1 nd (aE f9 b ∅ ⋯ aF (pa1 (aD K (pv 0) aa))))
   (ae (wset 2 nd (aD K (pv 0) aa))
   (ae (aM (aE bw b ∅ ⋯ aF (pa2 (jV (Bm (P:=P) (w:=w) (K:=K) ⋯ ⋯ ⋯) (pv 2) (a8 (v:= .ref 779) ⋯ (gR 14) rfl) ⋯) (pv 0))))
   (ae (wset 3 nd (qJ (cT.s.fM P) ⋯ (gR 14) (pv 2) (by intro _ _;rfl) Nv (b.mono ∅) aF (pa1 (aI (a5 (K:=K) ⋯) (pv 0) (aQ aa) aU))))
   (sret (jA nLn b ∅ ⋯ (ai (pv 1) (ai (pv 2) (ai (mK K (pv 3) aa) (ai (mK K (pv 3) aa) aN)))))))))),6]
 obtain⟨x,e,z,r,rfl⟩:=BA hl;have hx:=d.head;have hz:=d.tail.tail.head;have U:=d.tail.tail.tail;show#[7,a,3,u,aR (i:=0) rfl,x,2,hx.1,λm G l=> ?_,λh=>k2 (NW (by rw[show(x::e::z::r).getD 0 ""=x from rfl,h];decide))];replace k1:=λh=>k1 (by rw[NZ (show a9 (cp ((x::e::z::r).getD 0 ""))=true from m)];exact h);rw[NZ (show a9 (cp ((x::e::z::r).getD 0 ""))=true from m)]at k1 k2;replace k1:lnM z r≠0->_:=k1;replace k2:lnM z r=0->_:=k2;have k:=l.seq u;show#[7,a,3,k,aR (i:=2) rfl,6];show#[7,z,(779),(kvM 725 730 735 740 747 759 752),22,(cT.s.fM P),76];rw[hJ rfl];show bt K 212 [.bl _, .ref a] G _ E;refine a4 (d.shows k) (λh=>(k2 (LL (OX h))).on l) λh=> ?_;show#[7,z,2,trivial,by rw[hJ rfl];exact h,77,a,7,k,λp N=> ?_];have J:dE ((x::e::z::r).map V.str) (some 3) none=r.map V.str:=bG _ 3;rw[J];have B:=l.trans (Same.new (o:= .lst (r.map V.str)) N);show#[p,r,2,SqL.of ag,U,λc t q g xs ys H3 ar y O M L=> ?_,λc=>(k2 (PV λn=>OX c n)).on B];have h0:lnM z r≠0:=Ov c;show#[777,t,3,SqT.of y,27,t,3,SqT.of y,26];refine λA j af ab az=>#[A,j,1117,ag,26];have f:=k9 (C:=655) (o:=HO.ins 655 j (lnF (.str x) (.str z) (.ref q) (.ref g))) af ab;exact k1 h0 A (.str x) z xs ys _ ((B.trans ar).trans f) #[j,q,g,ag,f.at O,f.at M] (Iw h0 (CA f L))
theorem qT:Cb 7 "asking_line" ["words"] (EE K 212 655 (λws=>0<ws.length) λws=>lnA (ws.getD 0 "") (ws.drop 1)):=by
 refine clX 31 ["words","verb","found"] λH Q E nd e h=> ?_;obtain⟨a,ws,rfl,d,k,hl,k1,k2⟩:=h;show#[_,(ae (wset 1 nd (aD K (pv 0) aa))
   (ae (aM (aE bw e ∅ ⋯ aF (pa2 (jV (Bm (P:=P) (w:=w) (K:=K) ⋯ ⋯ ⋯) (pv 1) (a8 (v:= .ref 780) ⋯ (gR 15) rfl) ⋯) (pv 0))))
   (ae (wset 2 nd (qJ (cT.s.fA P) ⋯ (gR 15) (pv 1) (by intro _ _;rfl) Nx (e.mono ∅) aF (pa1 (aI (a5 (K:=K) ⋯) (pv 0) (aQ aa) aU))))
   (sret (jA nLn e ∅ ⋯ (ai dA (ai (pv 1) (ai (mK K (pv 2) aa) (ai (mK K (pv 2) aa) aN))))))))),6]
 obtain⟨z,r,rfl⟩:=List.exists_cons_of_length_pos hl;have G:=k.tail;replace k1:lnA z r≠0->_:=k1;replace k2:lnA z r=0->_:=k2;show#[7,a,3,d,aR (i:=0) rfl,6];show#[7,z,(780),(kvA 747 759 752 771 778),22,(cT.s.fA P),76];rw[hJ rfl];show bt K 212 [.bl _, .ref a] H _ E;refine a4 (k.shows d) (λh=>k2 (LM (OX h))) λh=> ?_;show#[7,z,2,trivial,by rw[hJ rfl];exact h,77,a,7,d,λp A=> ?_];have u:dE ((z::r).map V.str) (some 1) none=r.map V.str:=bG _ 1;rw[u];have m:=Same.new (o:= .lst (r.map V.str)) A;show#[p,r,2,SqL.of ag,G,λc t q g xs N O M j B y x=> ?_,λc=>(k2 (PV λn=>OX c n)).on m];have h0:lnA z r≠0:=Ov c;show#[77,t,3,SqT.of j,27,t,3,SqT.of j,26];refine λl b L J U=>#[l,b,1117,ag,26];have f:=k9 (C:=655) (o:=HO.ins 655 b (lnF .non (.str z) (.ref q) (.ref g))) L J;exact k1 h0 l .non z xs N _ ((m.trans M).trans f) #[b,q,g,ag,f.at B,f.at y] (.inl #[Jr h0,x])
theorem zS:Cb 8 "line_of" ["text"] (EF K 212 655):=by
 refine clX 32 ["text","words"] λH Q E nd k h=> ?_;obtain⟨z,rfl,hz,k1,k2⟩:=h;show#[_,(ae (wset 1 nd (cz (K:=K) ⋯ O5 RM RN rh (pv 0) (pa1 aw)))
   (ae (aC (PW.pt (fX (wpt gX (wlen K hT.len_ (pv 1)) aa) (dR (wpt aG (aD K (pv 1) aa) aw))))
     (sret (aE qQ k ∅ ⋯ aF (pa1 (pv 1))))
     ao)
   (sret (aE qT k ∅ ⋯ aF (pa1 (pv 1)))))),6]
 have pos:0<(aB z).length:=RH z " ";show#[72,z,722,hz.len,λp r=> ?_];have d:=Same.new (o:= .lst ((aB z).map V.str)) r;have b:upd H p (.lst ((aB z).map V.str)) p=some (.lst ((aB z).map V.str)):=ag;have l:=hz.ws;show KH _ _ _ _ (upd H p (.lst ((aB z).map V.str)));generalize upd H p (.lst ((aB z).map V.str))=m at*;unfold lnW at k1 k2;generalize aB z=ws at*;show#[7,p,7, .inl (SqL.of b),876];rw[My];have ask:¬(2<ws.length/\ws.getD 1 ""= "=")->EE K 212 655 (λws=>0<ws.length) (λws=>lnA (ws.getD 0 "") (ws.drop 1)) [.ref p] m Q E:=λn=>by rw[NW n]at k1 k2;show#[p,ws,2,SqL.of b,l,pos,λc q t v xs j H' s=>k1 c q t v xs j H' (d.trans s),λc=>(k2 c).on d]
 by_cases g:2<ws.length
 .have f:decide ((2:Int)<((ws.length:Nat):Int))=true:=N2 ();rw[f];have g1:ws[1]?=some (ws.getD 1 ""):=by rw[OD,Ob ()];rfl
  refine aP #[7,p,3,SqL.of b,aR (i:=1) g1,276];by_cases a:ws.getD 1 ""= "="
  .rw[N2 (show V.str (ws.getD 1 "")=V.str "=" by rw[a])];rw[NZ #[g,a]]at k1 k2;exact aP #[7,p,ws,2,SqL.of b,l,g,λc q t v xs j H' s=>k1 c q t v xs j H' (d.trans s),λc=>(k2 c).on d]
  .rw[NX (λe=>a (V.str.inj e))];exact aS #[7,ask λn=>a n.2]
 .have f:decide ((2:Int)<((ws.length:Nat):Int))=false:=NX ();rw[f];exact aS (aS #[7,ask λn=>g n.1])
theorem tM:Ca 2 "marked" ["sets"] (EC K):=by
 refine cl 33 ["sets"] λH Q E nd hr h=> ?_;obtain⟨a,bs,rfl,m,J,k⟩:=h;show#[_,(sret (aO (ym ⋯) ⋯ hT.dict_ PyProof.Rows.boot_dict (pa1 (dr ["s"] [] [] (wil K (pv 0)) (wnY 0) bb (cn (pa2 (pv 0) i5)))))),6];show#[7,a,2,#[_,m],6];refine hV (λx y G=>∃t,y= .ref t/\G t=some (.tup [x, .bl true])) (λx y G O e h=>by obtain⟨t,g,g1⟩:=h;show#[t,g,e.at g1]) m (by rw[My,fE];exact NV J ∅) (λj x vs D H' R S af M sm z B=> ?_) λq i f U u L hl A=> ?_
 .obtain⟨v,rfl⟩:=aX M;obtain⟨l,hl⟩:=z;simp only[bK,eI,NZ];show#[7,by show 2<=sizeLine;decide,λpt s=>B (.ref pt) [some x] _ #[pt,26] rfl (Same.new s)];rw[gA (ah hl s).symm];exact ag
 have r:f.length=bs.length:=by rw[hl,My,fE]
 show#[q,f,bs.map λb:Nat=>((Sum.inl (b:Int):Key),V.bl true),2,L,by rw[My,r],by rw[My];lia,λj p c=> ?_,λd n=> ?_]
 .rw[Ot]at c;cases hb:bs[j]? with
  |none=>rw[hb]at c;cases c
  |some b=>
   rw[hb]at c;cases c;have o:j<f.length:=by rw[r];exact(Oc.mp hb).1
   obtain⟨t,g,g1⟩:=A j (.int (b:Int)) f[j] (by unfold a6;rw[Ot,Ot,hb];rfl) (Ob o);show#[t,by rw[Ob o,g],dH.at g1]
 .have N:Same i (upd i d (.dK (kX [] (bs.map λb:Nat=>((Sum.inl (b:Int):Key),V.bl true))))):=Same.new n;exact k d _ (u.trans N) (u.free n) #[_,ag,λj=>by rw[oJ];rfl]
theorem o7:Ca 3 "has_exchange" ["listed","one","other","thing"] K8:=by
 refine cl 34 ["listed","one","other","thing","y"] λH Q E nd g h=> ?_;obtain⟨p,kvs,b,c,t,rfl,u,r,v,k⟩:=h;show#[_,(ae (wfor (wil K (wcal cq g (pa1 (wcal iM g (pa2 (pv 2) (pv 1)))))) (wname 4 nd)
     (au (aC (zH (LB (Om (P9 ∅ _) g.units) (wcal vn g (ai (pv 1) (ai (pv 3) (ai (pv 4) aN)))) (pv 0)))
       (sret i5)
       ao)))
   (sret i5)),6]
 have l8:dj c b<256:=Om (jZ c b) r;show#[77,c,b,2799,λq o l A n=>#[q,2,#[_,SqL.of n],6]];refine ba (K:=K) (a:=q) (λi j d=>Same o d/\∃m,j=[XS p,XQ b,XQ c,XQ t,m]) #[Same.refl _,none,2] (λi j d _ q=>SqL.of (q.1.at n)) ?_ λj d ⟨f,m,e⟩=>by subst e;exact k _ d (l.trans f)
 rintro i x j d s ⟨f,m,rfl⟩;obtain⟨y,rfl,z,_⟩:=mE s;show#[777,b,t,y,2,v,z,7,p,7,pH.k (k:=Sum.inl ((Kt b t y:Nat):Int)) ((l.trans f).at u),7,bJ (λ_=>k _ d (l.trans f)) λ_=>#[f,7]]
theorem pb:Ca 4 "broken_bases" ["n","bases"] (Il K λbs=>bs≠[]):=by
 refine cl 35 ["n","bases","listed","one","other","thing"] λH Q E nd r h=> ?_;obtain⟨a,n,bs,rfl,A,n8,b2,N,k⟩:=h;show#[_,(ae (aC (wpt aG (wlen K hT.len_ (pv 1)) aa)
     (sret (cn (ai aa (ai aa (ai (lV ig aa) aN)))))
     ao)
   (ae (wset 2 nd (wcal tM r (pa1 (pv 1))))
   (ae (wfor (wil K (pv 1)) (wname 3 nd)
     (au (wfor (wil K (pv 1)) (wname 4 nd)
       (au (wfor (wil K (wcal cq r (pa1 (wcal iM r (pa2 (pv 3) (pv 4)))))) (wname 5 nd)
         (au (aC (fi (cj (wcal o7 r (ai (pv 2) (ai (pv 3) (ai (pv 4) (ai (pv 5) aN)))))))
           (sret (cn (ai (pv 3) (ai (pv 4) (ai (pv 5) aN)))))
           ao)))))))
   (sret dA)))),6]
 have p8:=IK n8;show#[7,a,7, .inl A,276];refine bJ (λO=>#[7,le3,λG B=>k (some (0,0,-1)) _ _ (Same.new B) #[G,2,ag] nofun]) λO=> ?_;have h0:bs≠[]:=λe=>O (by rw[e];rfl);show#[7,a,bs,2,A,9,λp M J hp ⟨kvs,hm,_⟩=> ?_];have o:=J.seq A;show#[7,a,2,#[_,o],6];refine ba (K:=K) (a:=a) (λi d m=>Same M m/\∃L g f,d=[XQ n,XS a,XS p,L,g,f]) #[Same.refl _,none,none,none,2] (λi d m _ q=>q.1.seq o) ?_ λd m ⟨s,L,g,f,e⟩=>by subst e;exact k none _ _ (J.trans s) rfl λ_=>h0
 rintro i x d m hi ⟨s,L,g,f,rfl⟩;obtain⟨b,rfl,bm⟩:=dU hi;show#[7,a,2,#[_,s.seq o],6];refine ba (K:=K) (a:=a) (λi d y=>Same M y/\∃g f,d=[XQ n,XS a,XS p,XQ b,g,f]) #[s,g,f,2] (λi d m _ q=>q.1.seq o) ?_ λd y ⟨u,g,f,e⟩=>by subst e;show#[u,117]
 rintro j x d y hj ⟨u,g,f,rfl⟩;obtain⟨c,rfl,cm⟩:=dU hj;have b8:=N b bm;have c8:=N c cm;have l8:=jZ b c;show#[77,b,c,2799,λq H4 af hq U=>#[q,2,#[_,SqL.of U],6]];refine ba (K:=K) (a:=q) (λi d z=>Same H4 z/\∃f,d=[XQ n,XS a,XS p,XQ b,XQ c,f]) #[Same.refl _,f,2] (λi d m _ q=>SqL.of (q.1.at U)) ?_ λd z ⟨v,f,e⟩=>by subst e;show#[u.trans (af.trans v),17]
 rintro l x d z hl ⟨v,f,rfl⟩;obtain⟨t,rfl,t8,_⟩:=mE hl;have s5:=u.trans (af.trans v);show#[7777,p,kvs,b,c,t,2,s5.at hm,9,t8,λx H6 ar=>#[x,26]];cases x with
 |true=>exact aS #[v.trans ar,7]
 |false=>exact aP #[777,le3,λG B=>k (some (b,c,t)) _ _ (J.trans (s5.trans (ar.trans (Same.new B)))) #[G,2,ag] nofun]
theorem kq:Ca 2 "holds_ring" ["rings","s"] (EH K):=by
 refine cl 36 ["rings","s","ring"] λH Q E nd p h=> ?_;obtain⟨a,j,s,rfl,m,k⟩:=h;show#[_,(ae (wfor (wil K (pv 0)) (wname 2 nd)
     (au (aC (cj (wcal jX p (pa2 (pv 2) (pv 1))))
       (sret i5)
       ao)))
   (sret i5)),6]
 show#[7,a,2,#[_,m],6];refine ba (K:=K) (a:=a) (xs:=(a6 j).map V.int) (λi f b=>H=b/\(j.take i).any (λc=>decide (c&&&s=c))=false/\∃l,f=[XS a,XQ s,l]) #[22,none,2] (λi f b _ q=>q.1▸m) ?_ ?_
 .rintro i y f b o ⟨rfl,d,l,rfl⟩;obtain⟨z,rfl,hz⟩:=bB o;obtain⟨c,n,rfl⟩:=rg hz;show#[77179976];rw[N9,N9];refine bJ (λg=> ?_) λg=> ?_
  .have e:j.any (λc=>decide (c&&&s=c))=true:=QQ.mpr #[c,N5 n,g];rwa[e]at k
  .show#[267];rw[sP n,List.any_append,d];show(decide (c&&&s=c)||false)=false;rw[Ti];simpa using g
 .rintro f b ⟨rfl,d,l,rfl⟩;rw[My,fE,OV]at d;rwa[d]at k
theorem o4:Ca 2 "ring_in_ring" ["rings"] (EI K):=by
 refine cl 37 ["rings","one","other"] λH Q E nd s h=> ?_;obtain⟨a,u,rfl,l,_,_,k⟩:=h;show#[_,(ae (wfor (wil K (pv 0)) (wname 1 nd)
     (au (wfor (wil K (pv 0)) (wname 2 nd)
       (au (aC (PW.pt (fX (wpt i7 (pv 1) (pv 2)) (dR (cj (wcal jX s (pa2 (pv 1) (pv 2)))))))
         (sret (cn (ai (pv 1) (ai (pv 2) (ai (lV ig aa) aN)))))
         ao)))))
   (sret dA)),6]
 show#[7,a,2,#[_,l],6];refine ba (K:=K) (a:=a) (λi f b=>H=b/\∃n g,f=[XS a,n,g]) #[2,none,none,2] (λi f b _ q=>q.1▸l) ?_ λf b ⟨m,n,g,e⟩=>by subst m e;exact k none _ _ (Same.refl _) rfl
 rintro i y f b o ⟨rfl,n,g,rfl⟩;obtain⟨c,rfl,_⟩:=dU o;show#[7,a,2,#[_,l],6];refine ba (K:=K) (a:=a) (λj f b=>H=b/\∃g,f=[XS a,XQ c,g]) #[2,g,2] (λi f b _ q=>q.1▸l) ?_ λf b ⟨m,g,e⟩=>by subst m e;show#[217]
 rintro j y f b p ⟨rfl,g,rfl⟩;obtain⟨d,rfl,_⟩:=dU p;show#[7727,bJ (λ_=> ?_) λ_=>aS #[27]];show#[7717997,bJ (λ_=>#[777,le3,λt r=>k (some (c,d,-1)) _ _ (Same.new r) #[t,2,ag]]) λ_=>#[27]]
theorem iK:Ca 3 "rings_without_third" ["rings"] (EI K):=by
 refine cl 38 ["rings","one","other","thing"] λH Q E nd s h=> ?_;obtain⟨a,rs,rfl,o,_,M,k⟩:=h;show#[_,(ae (wfor (wil K (pv 0)) (wname 1 nd)
     (au (wfor (wil K (pv 0)) (wname 2 nd)
       (au (aC (wpt fY (pv 1) (pv 2))
         (au (wfor (wil K (wcal cq s (pa1 (ak kZ (pv 1) (pv 2))))) (wname 3 nd)
           (au (aC (fi (cj (wcal kq s (pa2 (pv 0) (wcal iM s (pa2 (ak xf (pv 1) (pv 2)) (ak iJ aa (pv 3))))))))
             (sret (cn (ai (pv 1) (ai (pv 2) (ai (pv 3) aN)))))
             ao))))
         ao)))))
   (sret dA)),6]
 show#[7,a,2,#[_,o],6];refine ba (K:=K) (a:=a) (λi b g=>Same H g/\∃v m f,b=[XS a,v,m,f]) #[Same.refl _,none,none,none,2] (λi b g _ q=>q.1.seq o) ?_ λb g ⟨n,v,m,f,e⟩=>by subst e;exact k none _ _ n rfl
 rintro i y b H1 N ⟨z,v,m,f,rfl⟩;obtain⟨c,rfl,L⟩:=dU N;show#[7,a,2,#[_,z.seq o],6];refine ba (K:=K) (a:=a) (λj b g=>Same H g/\∃m f,b=[XS a,XQ c,m,f]) #[z,m,f,2] (λi b g _ q=>q.1.seq o) ?_ λb g ⟨n,m,f,e⟩=>by subst e;show#[n,117]
 rintro j y b g O ⟨u,m,f,rfl⟩;obtain⟨d,rfl,dm⟩:=dU O;show#[7787,bJ (λ_=> ?_) λ_=>#[u,17]];have J:=M c L;have ax:c&&&d<256:=Om S5 J;show#[778,((c&&&d:Nat):Int),by rw[<-gi];rfl,99,λp B A hp x=>#[p,2,#[_,SqL.of x],6]];refine ba (K:=K) (a:=p) (λl b g=>Same B g/\∃f,b=[XS a,XQ c,XQ d,f]) #[Same.refl _,f,2] (λl b g _ q=>SqL.of (q.1.at x)) ?_ λb G ⟨r,f,e⟩=>by subst e;show#[u.trans (A.trans r),17]
 rintro l y b G hl ⟨r,f,rfl⟩;obtain⟨t,rfl,t8,_⟩:=mE hl;have n:=u.trans (A.trans r);show#[777878,#[994],c|||d,2^t,66]
 ·(try dsimp only);rw[lC,<-j1];rfl
 show#[a,rs,7,n.seq o,7,bJ (λ_=>#[777,le3,λpr U=>k (some (c,d,t)) _ _ (n.trans (Same.new U)) #[pr,2,ag]]) λ_=>#[r,7]]
theorem o8:Ca 4 "broken_rings" ["n","rings"] (Il K λc=>0∉c):=by
 refine cl 39 ["n","rings","found"] λH Q E nd j h=> ?_;obtain⟨a,n,c,rfl,f,r,hl,q,k⟩:=h;show#[_,(ae (aC (dk (eu (K:=K) ⋯) aa (pv 1) ⋯)
     (sret (cn (ai aa (ai aa (ai (lV ig aa) aN)))))
     ao)
   (ae (wset 2 nd (wcal o4 j (pa1 (pv 1))))
   (ae (aC (wpt zP (pv 2) dA)
     (au (wset 2 nd (wcal iK j (pa1 (pv 1)))))
     ao)
   (sret (pv 2))))),6]
 have i:∀b∈c,b<256:=λb hb=>N7 (q b hb) (IK r);show#[7,a,7, .inl f,2,nK _,76];show if inV (V.int 0) ((a6 c).map V.int)=true then _ else _;rw[JD];refine bJ (λ_=>#[7,le3,λt s=>k (some (0,0,-1)) _ _ (Same.new s) #[t,2,ag] nofun]) λhz=> ?_;have h0:0∉c:=λh=>hz (N2 h);show#[7,a,c,2,f,hl,i,λo v l g d=>pU d (λ_ e=> ?_) λp e=> ?_]
 .subst e;show#[727,aP #[7,a,c,2,g.seq f,hl,i,λo v m u d=>#[7,k o v m (g.trans u) d λ_=>h0]]]
 .subst e;show#[727,aS #[7,k o _ l g d λ_=>h0]]
theorem ko:Ca 2 "least_flat" ["n","flats","s"] (EG K):=by
 refine cl 40 ["n","flats","s","least","flat"] λH Q E nd l h=> ?_;obtain⟨a,n,s,fs,rfl,p,j,k⟩:=h;show#[_,(ae (wset 3 nd (wcal eB l (pa1 (pv 0))))
   (ae (wfor (wil K (pv 1)) (wname 4 nd)
     (au (aC (cj (wcal jX l (pa2 (pv 2) (pv 4))))
       (au (wset 3 nd (ak kZ (pv 3) (pv 4))))
       ao)))
   (sret (pv 3)))),6]
 show#[7,(n:Int),2996];rw[eS];show#[7,a,2,#[_,j],6];refine ba (K:=K) (a:=a) (xs:=(a6 fs).map V.int) (λi d b=>H=b/\∃g,d=[XQ n,XS a,XQ s,some (.int (cu n (fs.take i) s:Nat)),g]) #[2,none,2] (λi d b _ q=>q.1▸j) ?_ ?_
 .rintro i y d b o ⟨rfl,g,rfl⟩;obtain⟨z,rfl,hz⟩:=bB o;obtain⟨c,m,rfl⟩:=rg hz;show#[77179976];rw[N9,N9];have e:cu n (fs.take (i+1)) s=if s&&&c=s then cu n (fs.take i) s&&&c else cu n (fs.take i) s:=by rw[sP m];unfold cu;rw[Q5];rfl
  refine bJ (λf=> ?_) λf=> ?_
  .rw[NZ (Ov f)]at e;show#[778,#[2,some (.int (c:Int)),6]];rw[e,<-gi];rfl
  .rw[NW λh=>f (N2 h)]at e;show#[2,some (.int (c:Int)),6];rw[e];rfl
 .rintro d b ⟨rfl,g,rfl⟩;rw[My,fE,OV];show#[7,k]
theorem jC:Ca 3 "common_not_listed" ["flats"] (EI K):=by
 refine cl 41 ["flats","listed","one","other"] λH Q E nd u h=> ?_;obtain⟨a,fs,rfl,t,G,_,k⟩:=h;show#[_,(ae (wset 1 nd (wcal tM u (pa1 (pv 0))))
   (ae (wfor (wil K (pv 0)) (wname 2 nd)
     (au (wfor (wil K (pv 0)) (wname 3 nd)
       (au (aC (PW.pt (fX (wpt fY (pv 2) (pv 3)) (dR (zH (tG (Om (P9 ∅ _) u.units) (ak kZ (pv 2) (pv 3)) (pv 1))))))
         (sret (cn (ai (pv 2) (ai (pv 3) (ai (lV ig aa) aN)))))
         ao)))))
   (sret dA))),6]
 show#[7,a,fs,2,t,9,λp s o J ⟨kvs,v,_⟩=> ?_];have m:=o.seq t;show#[7,a,2,#[_,m],6];refine ba (K:=K) (a:=a) (λi f d=>s=d/\∃r l,f=[XS a,XS p,r,l]) #[2,none,none,2] (λi f d _ q=>q.1▸m) ?_ λf d ⟨n,r,l,e⟩=>by subst n e;exact k none _ _ o rfl
 rintro i x f d y ⟨rfl,r,l,rfl⟩;obtain⟨b,rfl,_⟩:=dU y;show#[7,a,2,#[_,m],6];refine ba (K:=K) (a:=a) (λi f d=>s=d/\∃l,f=[XS a,XS p,XQ b,l]) #[2,l,2] (λi f d _ q=>q.1▸m) ?_ λf d ⟨n,l,e⟩=>by subst n e;show#[217]
 rintro j x f d z ⟨rfl,l,rfl⟩;obtain⟨c,rfl,_⟩:=dU z;show#[7787,bJ (λ_=> ?_) λ_=>aS #[27]];show#[7787,p,eG kvs (Sum.inl ((b&&&c:Nat):Int)),2676]
 .have g:=pH.k (k:=Sum.inl ((b&&&c:Nat):Int)) v;(try dsimp only);rw[gi];exact g
 exact bJ (λ_=>#[777,le3,λB A=>k (some (b,c,-1)) _ _ (o.trans (Same.new A)) #[B,2,ag]]) λ_=>#[27]
theorem k6:Ca 4 "flats_that_meet" ["n","flats"] (Il K λ_=>True):=by
 refine cl 42 ["n","flats","one","over","thing","other"] λH Q E nd s h=> ?_;obtain⟨a,n,fs,rfl,U,n8,ei,c4,k⟩:=h;show#[_,(ae (wfor (wil K (pv 1)) (wname 2 nd)
     (ae (wset 3 nd xa)
     (ae (wfor (wil K (wcal cq s (pa1 (wcal iM s (pa2 (wcal eB s (pa1 (pv 0))) (pv 2)))))) (wname 4 nd)
       (au (Bg (Om (P9 ∅ _) s.units) (pv 3) (pv 4) (wcal ko s (ai (pv 0) (ai (pv 1) (ai (ak xf (pv 2) (ak iJ aa (pv 4))) aN)))) ⋯)))
     (au (wfor (wil K (aV (As ⋯) ⋯ hT.sorted_ S1 (ai (E9 (pv 3)) aN))) (wname 5 nd)
       (au (wfor (wil K (wcal cq s (pa1 (wcal iM s (pa2 (pv 5) (pv 2)))))) (wname 4 nd)
         (au (aC (wpt i7 (Bj (Om (P9 ∅ _) s.units) (pv 3) (pv 4) (by intro _ _;rfl)) (pv 5))
           (sret (cn (ai (pv 2) (ai (pv 5) (ai (pv 4) aN)))))
           ao)))))))))
   (sret dA)),6]
 have p8:=IK n8;show#[7,a,2,#[_,U],6];refine ba (K:=K) (a:=a) (λi d u=>Same H u/\∃v2 v3 f g,d=[XQ n,XS a,v2,v3,f,g]) #[Same.refl _,none,none,none,none,2] (λi d u _ q=>q.1.seq U) ?_ λd u ⟨sm,v2,v3,f,g,e⟩=>by subst e;exact k none _ _ sm rfl λ_=>trivial
 rintro i x d u hi ⟨b5,v2,v3,f,g,rfl⟩;obtain⟨b,rfl,bm⟩:=dU hi;have hF:=c4 b bm;intro p hp;have c3:H p=none:=b5.free hp;have d6:Same H (upd u p (.dK [])):=b5.trans (Same.new hp);have bk:upd u p (.dK []) p=some (.dK []):=ag;generalize upd u p (.dK [])=H3 at*;have lb:=jZ (2^n-1) b;show#[7,(n:Int),2996];rw[eS];show#[7,2^n-1,b,2799,λq H4 b6 hq ab=>#[q,2,#[_,SqL.of ab],6]];rw[N9]at ab;have d0:q≠p:=(ah bk hq).symm;refine ba (K:=K) (a:=q) (xs:=(bits (dj (2^n-1) b)).map V.int) (λi d r=>Same H r/\r q=some (.lst ((bits (dj (2^n-1) b)).map V.int))/\∃(kvs:List (Key×V)) (f g:Option V),Hc r p i (λz=>∃y:Nat,y<2^n/\z=(y:Int)) kvs/\
  (∀t:Nat,(t:Int)∈(bits (dj (2^n-1) b)).take i->∃y:Int,eG kvs (Sum.inl (t:Int))=some (.int y))/\d=[XQ n,XS a,XQ b,XS p,f,g])
  #[d6.trans b6,ab,[],f,g,#[b6.at bk,Pw _,λq hq=>nomatch hq],(λt ht=>nomatch ht),2] (λi d r _ q=>SqL.of q.2.1) ?_ ?_
 .rintro l x d r hl ⟨B,bp,kvs,f,g,⟨hd,dh,dm⟩,M,rfl⟩;obtain⟨z,rfl,hz⟩:=bB hl;obtain⟨t,t8,L,rfl⟩:=gc.mp (N5 hz);have eo:Builtin.bitOr (b:Int) (1*2^((t:Nat):Int).toNat)=((b|||2^t:Nat):Int):=by rw[lC,j1]
  have ll:l<8:=N7 (Oc.mp hz).1 (cV _);have lc:=FT n fs (b|||2^t);show#[77778,#[994],8,a,n,b|||2^t,fs,6,n8,B.seq U,6]
  ·(try dsimp only);rw[eo];rfl
  generalize cu n fs (b|||2^t)=y at*;show#[77,p,upd r p (.dK (gV kvs (Sum.inl (t:Int)) (.int (y:Int)))),2, .inl #[kvs,Sum.inl (t:Int),hd,2,Om dh (PJ ll ∅),2],6];show#[λc o e=> ?_,611,g,#[ag,66],λt' bN=> ?_,2]
  .rw[aj (ah e c3)];exact B.at e
  .rw[aj d0];exact bp
  .have:=gz kvs (Sum.inl (t:Int):Key) (.int (y:Int));lia
  .exact EW (Pv:=λv=>∃z:Int,v= .int z/\∃y:Nat,y<2^n/\z=(y:Int)) dm #[7,y,lc,2]
  .rw[wm];by_cases e:(Sum.inl (t':Int):Key)=Sum.inl (t:Int)
   .rw[NZ e];show#[7]
   .rw[NW e];refine M t' ?_;rw[Pk,hz]at bN;rcases OS.mp bN with h|h
    .exact h
    .exact absurd (OL Sum.inl (Oj.mp h)) e
 rintro d r ⟨B,bp,kvs,f,g,A,M,rfl⟩;rw[My,OV]at M;obtain⟨ns,cN,dV,dp⟩:=A.list;rw[My]at dV;have b8:(bits (dj (2^n-1) b)).length<=8:=cV _;show#[7,p,kvs,2,A.1,λv hv=> ?_];show#[v,p,kvs,ns,2,ag,by rw[aj (ah A.1 hv)];exact A.1,cN,9,λl ms hl dt _=> ?_];have b7:Same r (upd (upd r v (nR v p)) l (.lst (ms.map V.int))):=(Same.new hv).trans (Same.new hl);have a0:upd (upd r v (nR v p)) l (.lst (ms.map V.int)) l=some (.lst (ms.map V.int)):=ag;generalize upd (upd r v (nR v p)) l (.lst (ms.map V.int))=H6 at*;show#[l,2,#[_,SqL.of a0],6];refine ba (K:=K) (a:=l) (λi d G=>Same H6 G/\∃f g,d=[XQ n,XS a,XQ b,XS p,f,g]) #[Same.refl _,f,g,2] (λi d G _ q=>SqL.of (q.1.at a0)) ?_ λd G ⟨N,f,g,e⟩=>by subst e;show#[B.trans (b7.trans N),1117]
 rintro j x d G hj ⟨N,f,g,rfl⟩;obtain⟨z,rfl,hz⟩:=bB hj;obtain⟨o,lc,rfl⟩:=dp z (dt.mem_iff.mp (N5 hz));have ll:=jZ o b;show#[77,o,b,2799,λq8 H8 cm ej af=>#[q8,2,#[_,SqL.of af],6]];rw[N9]at af;refine ba (K:=K) (a:=q8) (λi d J=>Same H8 J/\∃f,d=[XQ n,XS a,XQ b,XS p,f,some (.int (o:Nat))]) #[Same.refl _,f,2] (λi d J _ q=>SqL.of (q.1.at af)) ?_ λd J ⟨O,f,e⟩=>by subst e;show#[N.trans (cm.trans O),17]
 rintro m y d J hm ⟨O,f,rfl⟩;obtain⟨t,rfl,t8,L⟩:=mE hm;rw[xH,Oz,Pb]at L;have tn:=DZ lc L.1;obtain⟨y,ev⟩:=M t (gc.mpr #[t,t8,by rw[rj,N2 tn,L.2];rfl,2]);have s9:=b7.trans (N.trans (cm.trans O));show#[77,p, .int y,2, .inl #[kvs,Sum.inl (t:Int), .inl (s9.at A.1),2,ev.symm],727,bJ (λ_=>#[777,le3,λpr dv=>k (some (b,o,t)) _ _ (B.trans (s9.trans (Same.new dv))) #[pr,2,ag] nofun]) λ_=>#[O,7]]
theorem o9:Ca 6 "broken_flats" ["n","flats"] (Il K λ_=>True):=by
 refine cl 43 ["n","flats","everything","found"] λH Q E nd f h=> ?_;obtain⟨a,n,fs,rfl,d,j,hl,i,k⟩:=h;show#[_,(ae (wset 2 nd (wcal eB f (pa1 (pv 0))))
   (ae (aC (dk (so (K:=K) ⋯) (pv 2) (pv 1) ⋯)
     (sret (cn (ai (pv 2) (ai (pv 2) (ai (lV ig aa) aN)))))
     ao)
   (ae (wset 3 nd (wcal jC f (pa1 (pv 1))))
   (ae (aC (wpt zP (pv 3) dA)
     (au (wset 3 nd (wcal k6 f (pa2 (pv 0) (pv 1)))))
     ao)
   (sret (pv 3)))))),6]
 show#[7,(n:Int),2996];rw[eS];show#[77,a,7, .inl d,2,nK _,7,bJ (λ_=>#[777,le3,λr q=>k (some (((2^n-1:Nat):Int),((2^n-1:Nat):Int),-1)) _ _ (Same.new q) #[r,2,ag] nofun]) λ_=> ?_];show#[7,a,fs,2,d,hl,λb hb=>N7 (i b hb) (IK j),λo v l g c=>pU c (λ_ e=> ?_) λp e=> ?_]
 .subst e;show#[727,aP #[77,a,n,fs,2,g.seq d,j,hl,i,λo v m s c _=>#[7,k o v m (g.trans s) c λ_=>trivial]]]
 .subst e;show#[727,aS #[7,k o _ l g c λ_=>trivial]]
theorem ma:dg P w K mg base 1 252 ["self","n"] (AZ K):=by refine fnA 1 ["self","n"] λH Q E nd d h=> ?_;obtain⟨p,C,a,n,rfl,b,cl,c,k⟩:=h;show#[_,(au (wsf K (pv 0) (pv 1))),6];show#[77,p,C,a,7,b,cl,c,(by show 0<1000;decide),k]
theorem kH:NA P w K mg base 1 269 "__init__" ["self","n"] (AZ K):=#[#[_,ma,cT.s.fcH],cT.s.gaH,cT.s.rdH]
theorem cg:dg P w K mg base 2 266 ["self"] (A1 K):=by refine fnA 2 ["self"] λH Q E nd d h=> ?_;obtain⟨a,C,b,fs,n,rfl,c,cl,g,lk,e,f,k⟩:=h;show#[_,(sret (wcal eB d (pa1 (wfld K (pv 0))))),6];show#[7,a,C,b,fs,7,c,cl,g,lk,n,2,e,f,k]
theorem nD:dg P w K mg base 2 287 ["self","n","k"] (A0 297):=by
 refine fnA 3 ["self","n","k"] λH Q E nd c h=> ?_;obtain⟨p,a,n,d,rfl,b,k⟩:=h;show#[_,(ae (aM (pK kH c ∅ (a8 (v:= .ref 269) ⋯ (gR 0) rfl) (pa2 (pv 0) (pv 1))))
   (au (wsf K (pv 0) (pv 2)))),6]
 show#[277,p,(297),a,7,b,(hC 297).toCls,(nA 1),6];show#[77,p,(297),a,7,ag,(hC 297).toCls,(nA 2),66]
 .exact Om (bA _ _ _) (by show 0+1<1000;decide)
 rw[eC];exact k
theorem vx:dg P w K mg base 4 294 ["self","s"] (AV 297):=by refine fnA 4 ["self","s"] λH Q E nd f h=> ?_;obtain⟨a,d,n,j,s,rfl,e,g,i,k⟩:=h;show#[_,(sret (aV (ui ⋯) ⋯ hT.min_ PyProof.Rows.boot_min (pa2 (wcal jY f (pa1 (pv 1))) (wfld K (pv 0))))),6];show#[7,s,2,g,i,λc b=> ?_];show#[7,a,(297),d,17,b.at e,(hC 297).toCls,(nA 2),Gr _ _,17,k c b]
theorem k8:dg P w K mg base 2 313 ["self","n","some"] (AY K 321):=by
 refine fnA 5 ["self","n","some"] λH Q E nd r h=> ?_;obtain⟨p,c,a,n,ms,rfl,f,l,hl,k⟩:=h;show#[_,(ae (aM (pK kH r ∅ (a8 (v:= .ref 269) ⋯ (gR 0) rfl) (pa2 (pv 0) (pv 1))))
   (au (wsf K (pv 0) (aO (dX (K:=K) ⋯) ⋯ hT.tuple_ QY (pa1 (pv 2)))))),6]
 show#[277,p,(321),c,7,f,(hC 321).toCls,(nA 12),6];have q:upd H p (.ins 321 c (aW "many" (.int n) [])) p=some (.ins 321 c (aW "many" (.int n) [])):=ag;have g:∀b o,H b=some o->b≠p->upd H p (.ins 321 c (aW "many" (.int n) [])) b=some o:=λb o e hb=>by rw[aj hb];exact e
 have m:SqL K (upd H p (.ins 321 c (aW "many" (.int n) []))) a (ms.map V.int):=by
  rcases l with (h|⟨o,h⟩)|h
  .exact .inl (.inl (g _ _ h (jG h f (by intro z;cases z))))
  .exact .inl (.inr #[o,g _ _ h (jG h f (by intro z;cases z))])
  .exact .inr h
 show#[7,a,7, .inl #[m,λt d=> ?_]];have i:t≠p:=λe=>by rw[e,ag]at d;cases d
 have j:H t=none:=by rwa[aj i]at d
 show#[7,p,(321),c,7,(by rw[aj i.symm];exact q),(hC 321).toCls,(nA 13),66]
 .exact Om (bA _ _ _) (by show 0+1<1000;decide)
 refine k t _ j (λb o e hb=> ?_) ag ?_
 .rw[aj hb,aj (ah e j)];exact g b o e hb
 .rw[aj i,ag]
theorem qW:dg P w K mg base 4 318 ["self","s"] (AU 321):=by
 refine fnA 6 ["self","s"] λH Q E nd J h=> ?_;obtain⟨a,n,s,ms,rfl,⟨j,t,p,d,hl⟩,G,B,N,s1,k⟩:=h;show#[_,(sret (aV (rR (K:=K) ⋯ ⋯) ⋯ hT.max_ RU (pa1 (dr ["one"] ["s"] [1] (wit K (wfld K (pv 0))) (wnY 0) bb (wcal jY J (pa1 (ak kZ (pv 1) (pv 0)))))))),6];show#[7,a,(321),j,17,p,(hC 321).toCls,(nA 13),z7 _ _,t,2,#[_,SqT.of d],6];have O:s.toNat<256:=()
 refine Jx (λx=>(λ_=>true) (cU x)) (λx=> .int ((λm:Int=>((sz (s.toNat&&&m.toNat):Nat):Int)) (cU x))) d (by rw[My];exact NV hl ∅) (λi x vs H' R S hx L f u=> ?_) λD H' hD f hl=> ?_
 .obtain⟨v,rfl⟩:=aX L;obtain⟨m,rfl,c⟩:=bB hx;obtain⟨m0,m1⟩:=B m (N5 c);simp only[bK,eI,NZ];have b:Builtin.bitAnd s m=((s.toNat&&&m.toNat:Nat):Int):=j2 N m0;have la:s.toNat&&&m.toNat<256:=Mg O;show#[778,Builtin.bitAnd s m,2,(by rw[b];lia),(by rw[b];lia),λg U=> ?_];rw[b,N9];have q:=u [some (.int m)] g rfl U;rwa[NZ rfl]at q
 replace hl:=hl.trans (OL (λl=>some (HO.lst l)) (cb (λ_=>true) (λm:Int=>((sz (s.toNat&&&m.toNat):Nat):Int)) ms));rw[O9.mpr (λ_ _=>rfl)]at hl;show#[D,7,SqL.of hl,6,λz hz A=> ?_]
 .intro e;rw[QU]at e;exact G e
 have o:z=((qB ms s.toNat:Nat):Int):=by obtain⟨m,c,rfl⟩:=Of.mp hz;rw[wZ (ms:=ms) (s:=s.toNat) (r:=sz (s.toNat&&&m.toNat)) #[m,c,2] λM y=> ?_];have:=A _ (Of.mpr #[M,y,2]);lia
 rw[o];exact k H' f
theorem I0:Ca 1 "tied" ["marks","tie"] (KW K):=by
 refine cl 44 ["marks","tie","old","new"] λH Q E nd G h=> ?_;obtain⟨a,b,ms,t,rfl,c,hb,hx,y,hl,k⟩:=h;show#[_,(ae (wset 2 nd (aD K (pv 0) (mK K (pv 1) aa)))
   (ae (wset 3 nd (aD K (pv 0) (mK K (pv 1) aa)))
   (sret (dr ["mark"] ["new","old"] [3,2] (wil K (pv 0)) (wnY 0) bb (E8 (wpt aG (pv 0) (pv 2)) (pv 1) (pv 0)))))),6]
 have z:atI [V.int (t.1:Int),V.int (t.2:Int)] 0=some (.int t.1):=bH (j:=0) rfl;have A:atI [V.int (t.1:Int),V.int (t.2:Int)] 1=some (.int t.2):=bH (j:=1) rfl;have n:atI (ms.map V.int) (t.1:Int)=some (.int (ms.getD t.1 0)):=dY hx;have o:atI (ms.map V.int) (t.2:Int)=some (.int (ms.getD t.2 0)):=dY y;show#[77,b,3,SqT.of hb,z,a,3,c,n,6];show#[77,b,3,SqT.of hb,A,a,3,c,o,6];show#[7,a,2,#[_,c],6];refine bO (λx=>(λ_=>true) (cU x)) (λv=> .int ((λm:Int=>if m=ms.getD t.1 0 then ms.getD t.2 0 else m) (cU v))) c (by rw[My];exact NV hl ∅) (λi v vs H' R S u s g r=> ?_) λD H' p g d=> ?_
 .obtain⟨v,rfl⟩:=aX s;obtain⟨m,rfl,B⟩:=bB u;have q:=r [some (.int m)] H' rfl (Same.refl _);rw[NZ rfl]at q;simp only[bK,eI,NZ];show#[77276];rw[Gx];refine bJ (λf=> ?_) λf=> ?_
  .have e:=Ov f;replace q:R (V.int (if m=ms.getD t.1 0 then ms.getD t.2 0 else m)) _ _:=q;rw[NZ e]at q;show#[7,q]
  .have e:=OX (SD.mpr f);replace q:R (V.int (if m=ms.getD t.1 0 then ms.getD t.2 0 else m)) _ _:=q;rw[NW e]at q;show#[7,q]
 replace d:=d.trans (OL (λl=>some (HO.lst l)) (cb (λ_=>true) (λm:Int=>if m=ms.getD t.1 0 then ms.getD t.2 0 else m) ms));rw[O9.mpr (λ_ _=>rfl)]at d;exact k D H' g p d
theorem pq:dg P w K mg base 2 818 ["self","n","points","ties"] (AX K 835):=by
 refine fnA 7 ["self","n","points","ties"] λH Q E nd hr h=> ?_;obtain⟨p,d,a,n,pt,xs,ts,rfl,s,ha,hx,hl,k⟩:=h;show#[_,(ae (aM (pK kH hr ∅ (a8 (v:= .ref 269) ⋯ (gR 0) rfl) (pa2 (pv 0) (pv 1))))
   (ae (wsf K (pv 0) (pv 2))
   (au (wsf K (pv 0) (aO (dX (K:=K) ⋯) ⋯ hT.tuple_ QY (pa1 (dr ["tie"] [] [] (wil K (pv 3)) (wnY 0) bb (cn (pa2 (mK K (pv 0) aa) (mK K (pv 0) aa)))))))))),6]
 show#[277,p,(835),d,7,s,(hC 835).toCls,(nA 4),6];have bN:upd H p (.ins 835 d (aW "many" (.int n) [])) p=some (.ins 835 d (aW "many" (.int n) [])):=ag;show#[77,p,(835),d,7,bN,(hC 835).toCls,(nA 5),Om (bA _ _ _) (by show 0+1<1000;decide),6];rw[eC];have b0:upd H p (.ins 835 d (aW "points" (.int pt) (aW "many" (.int n) []))) p=some (.ins 835 d (aW "points" (.int pt) (aW "many" (.int n) []))):=ag;have u:∀b o,H b=some o->b≠p->upd H p (.ins 835 d (aW "points" (.int pt) (aW "many" (.int n) []))) b=some o:=λb o e hb=>by rw[aj hb];exact e
 have nn:∀b,upd H p (.ins 835 d (aW "points" (.int pt) (aW "many" (.int n) []))) b=none->b≠p/\H b=none:=λb hb=>by
  have bp:b≠p:=λe=>by rw[e,ag]at hb;cases hb
  rw[aj bp]at hb;show#[bp,hb]
 have ct:ic H (upd H p (.ins 835 d (aW "points" (.int pt) (aW "many" (.int n) [])))):=λb g e=>u b _ e (jG e s (by intro z;cases z));have af:SqL K (upd H p (.ins 835 d (aW "points" (.int pt) (aW "many" (.int n) [])))) a xs:=by
  rcases ha with (h|⟨o,h⟩)|h
  .exact .inl (.inl (u _ _ h (jG h s (by intro z;cases z))))
  .exact .inl (.inr #[o,u _ _ h (jG h s (by intro z;cases z))])
  .exact .inr h
 have N:=hx.ts ct;generalize upd H p (.ins 835 d (aW "points" (.int pt) (aW "many" (.int n) [])))=U at*;show#[7,a,2,#[_,af],6];refine FV (λx y G=>∃(b c:Addr)(t:Nat×Nat),x= .ref b/\y= .ref c/\G b=some (.tup [.int t.1, .int t.2])/\G c=some (.tup [.int t.1, .int t.2])) (λx y G G' e h=>by obtain⟨b,c,t,l,B,r,J⟩:=h;show#[b,c,t,l,B,e _ _ r,e _ _ J]) af (NV hl ∅) (λi v vs H' R S b4 hv m hk=> ?_) λD A g hD m az ax hR=> ?_
 .obtain⟨v,rfl⟩:=aX hv;obtain⟨b,t,f,rfl,hb⟩:=N.at b4;have L:=m.at hb;have t0:atI [V.int (t.1:Int),V.int (t.2:Int)] 0=some (.int t.1):=bH (j:=0) rfl;have t1:atI [V.int (t.1:Int),V.int (t.2:Int)] 1=some (.int t.2):=bH (j:=1) rfl;simp only[bK,eI,NZ];show#[7,b,3,SqT.of L,t0,7,b,3,SqT.of L,t1,by show 2<=sizeLine;decide,λq hq=> ?_];exact hk _ [some (.ref b)] _ #[b,q,t,22,(Same.new hq).at L,ag] rfl (Same.new hq)
 have b5:dZ A g ts:=by
  show#[by rw[ax];exact N.1,λi t f=> ?_];obtain⟨b,r,J⟩:=N.2 i t f;have hi:i<g.length:=by rw[ax];exact(Oc.mp r).1
  obtain⟨b',c,t',l,B,g1,g2⟩:=hR i _ _ r (Ob hi);cases l;have g3:=m.at J;rw[g1]at g3;show#[c,by rw[Ob hi,B],6];rw[g2];exact g3
 show#[D,g,2, .inl #[SqL.of az,λt f=> ?_]];have M:=m.at b0;have O:t≠p:=λe=>by rw[e,M]at f;cases f
 have cm:U t=none:=by
  cases e:U t with
  |none=>rfl
  |some o=>rw[m.at e]at f;cases f
 show#[7,p,(835),d,7,(by rw[aj O.symm];exact M),(hC 835).toCls,(nA 6),66]
 .exact Om (bA _ _ _) (Om (QR (bA _ _ _)) (by show 0+1+1<1000;decide))
 have b1:upd A t (.tup g) p=some (.ins 835 d (aW "points" (.int pt) (aW "many" (.int n) []))):=by rw[aj O.symm];exact M
 refine k t g _ (nn t cm).2 (λb o e hb=> ?_) ag ?_ ?_
 .have l:=m.at (u b o e hb);rw[aj hb,aj (ah l f)];exact l
 .rw[aj O,ag]
 .refine(b5.ts (H':=upd A t (.tup g)) (ic.new f)).ts λb zs e=> ?_;rw[aj (jG e b1 (by intro z;cases z))];exact e
theorem sC:dg P w K mg base 3 825 ["self","s"] (Kb 835):=by
 refine fnA 8 ["self","s","marks","thing"] λH Q E nd L h=> ?_;obtain⟨a,n,p,s,ts,rfl,hN,bp,J,h8,M,k⟩:=h;show#[_,(ae (wset 2 nd (aO (Ax ⋯) ⋯ hT.list_ PyProof.Rows.boot_list (pa1 (Lu ⋯ hT.range_ (pa1 (wfld K (pv 0)))))))
   (ae (wfor (wil K (wcal cq L (pa1 (pv 1)))) (wname 3 nd)
     (au (wset 2 nd (wcal I0 L (pa2 (pv 2) (mK K (wfld K (pv 0)) (pv 3)))))))
   (sret (aV Ay ⋯ hT.len_ P5 (pa1 (aO (Aw (K:=K) ⋯ ⋯) ⋯ hT.set_ PyProof.Rows.boot_set (pa1 (pv 2)))))))),6]
 obtain⟨A,t,xs,B,ht,hx⟩:=id hN;show#[7,a,(835),A,17,B,(hC 835).toCls,(nA 5),qZ _ _ _,7,λr bN=>#[r,p,2,ag,J,λm hm=> ?_]];have N:Same H (upd (upd H r (.rng 0 p)) m (.lst ((Bh.start p).map V.int))):=(Same.new bN).trans (Same.new hm);have bk:upd (upd H r (.rng 0 p)) m (.lst ((Bh.start p).map V.int)) m=some (.lst ((Bh.start p).map V.int)):=ag;have b7:s<256:=N7 M (OG (n:=2) () h8);show bK _ _ _ (upd (upd H r (.rng 0 p)) m (.lst ((Bh.start p).map V.int))) _;generalize upd (upd H r (.rng 0 p)) m (.lst ((Bh.start p).map V.int))=H1 at*;show#[7,(s:Int),299,λq U o hq hl=> ?_];rw[N9]at hl;show#[q,2,#[_,SqL.of hl],6];refine ba (K:=K) (a:=q) (xs:=(bits s).map V.int) (λi f H'=>Same U H'/\∃m v,H' m=some (.lst ((z3 p ts ((bits s).take i)).map V.int))/\f=[XS a,XQ s,XS m,v]) #[Same.refl _,m,none,o.at bk,2] (λi f H' _ z=>SqL.of (z.1.at hl)) ?_ ?_
 .rintro i y f H' hi ⟨e,g,v,d,rfl⟩;obtain⟨z,rfl,hz⟩:=bB hi;obtain⟨z0,O⟩:=rS M (N5 hz);obtain⟨j,rfl⟩:=OJ z0;rw[N9]at O;have x:Same H H':=(N.trans o).trans e;have G:ts[j]?=some (ts.getD j (0,0)):=by simp[O]
  obtain⟨b,ar,ax⟩:=(hx.ts (ic.of x)).2 j _ G;have hb:=bp _ (N5 G);have c:=oM p ts ((bits s).take i);show#[77,a,(835),A,17,x.at B,(hC 835).toCls,(nA 6),Fy _ _ _,7,t,3,SqT.of (x.at ht),bH ar,6];show#[g,b,_,ts.getD j (0,0),2,SqL.of d,ax,by rw[c];exact hb.1,by rw[c];exact hb.2,by rw[c];exact J,λu H3 b1 hu a0=> ?_];show#[e.trans b1,u,162];rw[a0,Pk,hz,Option.toList_some,C6,N9]
 .rintro f H' ⟨e,g,v,d,rfl⟩;rw[My,OV]at d;have c:=oM p ts (bits s);show#[7,g,7,SqL.of d,by rw[c];lia,λl az=>#[l,17,ag,6]];rw[mx,c];exact k _ (((N.trans o).trans e).trans (Same.new az))
theorem mPc:∀a,a=835->nW P w K mg base 3 a "pieces" ["self","s"] (Kb a):=λC h=>by subst h;exact cM 8 sC
theorem xr:dg P w K mg base 4 832 ["self","s"] (AS 835):=by refine fnA 9 ["self","s"] λH Q E nd i h=> ?_;obtain⟨a,n,p,s,ts,rfl,c,f,g,e,j,k⟩:=h;show#[_,(sret (ak fj (wfld K (pv 0)) (vg mPc i ∅ (pv 0) (pa1 (pv 1))))),6];obtain⟨b,t,xs,d,m,hx⟩:=id c;show#[7,a,(835),b,17,d,(hC 835).toCls,(nA 5),qZ _ _ _,7,a,(835),b,7,d,2,zW _ _ _,7,a,n,p,s,ts,2,c,f,g,e,j,λH' l=>#[8,k H' l]]
theorem xh:Ca 1 "rests" ["row","prime"] (Ic K):=by
 refine cl 45 ["row","prime"] λH Q E nd l h=> ?_;obtain⟨a,r,m,rfl,c,h0,hl,k⟩:=h;show#[_,(ae (aC (wpt aG (pv 1) aa)
     (sret (aO (sJ (K:=K) ⋯) ⋯ hT.list_ PyProof.Rows.boot_list (pa1 (pv 0))))
     ao)
   (sret (dr ["number"] ["prime"] [1] (wil K (pv 0)) (wnY 0) bb (ak aK (pv 0) (pv 1))))),6]
 show#[727,bJ (λz=> ?_) λz=> ?_]
 .have e:m=0:=V.int.inj (Ov z);show#[7,a,7, .inl c,λq b=> ?_];refine k q _ (Same.new b) b ?_;rw[ag];unfold d3;rw[NZ e]
 .have e:¬m=0:=λe=>z (N2 (by rw[e]));show#[7,a,2,#[_,c],6];refine bO (λ_=>true) (λx=> .int (cU x % m)) c (by rw[My];exact NV hl ∅) (λi x vs H' R S hx j d f=> ?_) λq H' b d g=> ?_
  .obtain⟨v,rfl⟩:=aX j;obtain⟨y,rfl,n⟩:=bB hx;have q:=f [some (.int y)] H' rfl (Same.refl _);rw[NZ rfl]at q;simp only[bK,eI,NZ];show#[778,(by show(0:Int)<m;lia),q]
  .refine k q H' d b (g.trans ?_);have:=cb (λ_=>true) (λz=>z % m) r;rw[this,O9.mpr (λ_ _=>rfl)];unfold d3;rw[NW e]
theorem qO:Ca 1 "pivot_place" ["rows","column"] (Ig K):=by
 refine cl 46 ["rows","column","place","row"] λH Q E nd J h=> ?_;obtain⟨a,xs,L,c,n,rfl,q,hx,A,v,k1,k2⟩:=h;show#[_,(ae (wfor (E3 (K:=K) ⋯ ⋯ hT.enumerate_ (pa1 (pv 0))) (pJ (K:=K) (n:=2) ⋯ ⋯ (eM (wname 2 nd) (eM (wname 3 nd) pI)))
     (au (aC (wpt i7 (aD K (pv 3) (pv 1)) aa)
       (sret (pv 2))
       ao)))
   (sret dA)),6]
 show#[7,a,2,#[_,q],6];refine Ge (K:=K) (a:=a) (xs:=xs) (λi k H'=>Same H H'/\(∀(j:Nat)(r:sv),j<i->L[j]?=some r->r.getD c 0=0)/\∃o p,k=[XS a,XQ c,o,p]) #[Same.refl _,λj _ d=>absurd d (S8 _),none,none,2] (λi k H' _ z=>SqL.of (z.1.at q)) ?_ ?_
 .rintro i y t k H' x B ⟨g,hz,o,p,rfl⟩;obtain⟨b,r,f,rfl,hb⟩:=(hx.same g).at x;have m:Same H' (upd H' t (.tup [.int (i:Int), .ref b])):=Same.new B;have u:=m.at hb;have s:atI (r.map V.int) (c:Int)=some (.int (r.getD c 0)):=dY (by rw[A r (N5 f)];exact v);show#[t,7,SqT.of ag,21786];show#[77,b,3,SqL.of u,s,276];by_cases h0:r.getD c 0=0
  .rw[h0];refine aS #[g.trans m,λj G d l=> ?_,17];by_cases e:j=i
   .subst e;rw[f]at l;cases l;exact h0
   .exact hz j G () l
  .rw[NX λe=>h0 (V.int.inj e)];exact aP #[7,k1 i r _ (g.trans m) f h0]
 .rintro k H' ⟨g,hz,o,p,rfl⟩;refine k2 (λr f=> ?_) H' g;obtain⟨j,d⟩:=Pq f;exact hz j r (by rw[hx.1];exact(Oc.mp d).1) d
theorem xo:Ca 1 "cleared" ["row","pivot","column","divisor"] (zc K):=by
 refine cl 47 ["row","pivot","column","divisor","ahead","behind"] λH Q E nd hr h=> ?_;obtain⟨a,b,r,e,c,n,B,d,rfl,o,hb,f,g,v,hn,hB,N,k⟩:=h;show#[_,(ae (wset 4 nd (aD K (pv 1) (pv 2)))
   (ae (wset 5 nd (aD K (pv 0) (pv 2)))
   (sret (dr ["number","above"] ["divisor","ahead","behind"] [3,4,5] (IL (K:=K) ⋯ ⋯ hT.zip_ (pa2 (pv 0) (pv 1))) (pJ (K:=K) (n:=2) ⋯ ⋯ (eM (wnY 0) (eM (wnY 1) pI))) bb (ak Fg (ak fj (ak Bl (pv 0) (pv 3)) (ak Bl (pv 1) (pv 4))) (pv 2)))))),6]
 have G:atI (r.map V.int) (c:Int)=some (.int (r.getD c 0)):=dY (by rw[f.1];exact v);have A:atI (e.map V.int) (c:Int)=some (.int (e.getD c 0)):=dY (by rw[g.1];exact v);show#[77,b,3,hb,A,6];show#[77,a,3,o,G,6];show#[77,a,b,2,#[_,o],#[_,hb],6];have p:B+B<=2^26:=()
 refine Jv (n:=n) (λj=> .int ((r.getD j 0*e.getD c 0-e.getD j 0*r.getD c 0).fdiv d)) o hb (by rw[My];exact f.1) (by rw[My];exact g.1) (NV hn ∅) (λi x y vs H' t R S hx hy hv z ht O=> ?_) λD H' M z U=> ?_
 .obtain⟨v1,v2,rfl⟩:=ik hv;obtain⟨l,rfl,J⟩:=bB hx;obtain⟨m,rfl,L⟩:=bB hy;have s:r.getD i 0=l:=by rw[OD,J];rfl
  have u:e.getD i 0=m:=by rw[OD,L];rfl
  have q:=O [some (.int l),some (.int m)] (upd H' t (.tup [.int l, .int m])) rfl (Same.refl _);rw[s,u]at q;have m1:jR l (e.getD c 0):=by rw[<-s];exact jR.of (f.at i) (g.at c) p
  have m2:jR m (r.getD c 0):=by rw[<-u];exact jR.of (g.at i) (f.at c) p
  show#[t,7,SqT.of ag,21786];simp only[eI,NZ];show#[778,m1,778,m2,878,N,q]
 .refine k D H' z M (U.trans ?_);unfold vQ;rw[f.1,OE];rfl
theorem pj:Ca 2 "all_cleared" ["rows","place","column","divisor"] (EJ K):=by
 refine cl 48 ["rows","place","column","divisor","pivot","others"] λH Q E nd hr h=> ?_;obtain⟨a,xs,L,i,c,n,B,d,J,rfl,ha,hx,ay,hL,hi,hc,hn,hB,hd,k⟩:=h;show#[_,(ae (wset 4 nd (aD K (pv 0) (pv 1)))
   (ae (wset 5 nd (ak fZ (aI (a5 (K:=K) ⋯) (pv 0) aU (aQ (pv 1))) (aI (a5 (K:=K) ⋯) (pv 0) (aQ (ak bg (pv 1) aa)) aU)))
   (sret (dr ["row"] ["pivot","column","divisor"] [4,2,3] (wil K (pv 5)) (wnY 0) bb (wcal xo hr (ai (pv 0) (ai (pv 1) (ai (pv 2) (ai (pv 3) aN))))))))),6]
 obtain⟨b,b7,b8⟩:=hx.2 i J hi;show#[77,a,3,SqL.of ha,bH b7,6];show#[777,a,7,SqL.of ha,λp1 c8=> ?_];rw[BI];have bp:Same H (upd H p1 (.lst (xs.take i))):=Same.new c8;have m:upd H p1 (.lst (xs.take i)) p1=some (.lst (xs.take i)):=ag;generalize upd H p1 (.lst (xs.take i))=p at*;show#[7787,a,7,SqL.of (bp.at ha),λp2 dc=> ?_];rw[show(i:Int)+1=((i+1:Nat):Int)from rfl,bG];have bN:Same p (upd p p2 (.lst (xs.drop (i+1)))):=Same.new dc;have z:upd p p2 (.lst (xs.drop (i+1))) p2=some (.lst (xs.drop (i+1))):=ag;generalize upd p p2 (.lst (xs.drop (i+1)))=s at*;have ea:=hx.1;show#[p1,p2,8,bN.at m,z,6,λq hq=> ?_]
 .rw[Ow,OU];exact NV (GA i xs.length) (NV (show xs.length<=1000 by lia) ∅)
 have dx:Same s (upd s q (.lst (xs.take i++xs.drop (i+1)))):=Same.new hq;have h3:upd s q (.lst (xs.take i++xs.drop (i+1))) q=some (.lst (xs.take i++xs.drop (i+1))):=ag;generalize upd s q (.lst (xs.take i++xs.drop (i+1)))=U at*;have O:Same H U:=(bp.trans bN).trans dx;have cm:=O.at b8;have a0:bu U (xs.take i++xs.drop (i+1)) (L.take i++L.drop (i+1)):=(hx.same O).cut i;have dv:(xs.take i++xs.drop (i+1)).length<=1000:=by rw[Od,Ow,OU];exact NV (GA i xs.length) ()
 have b1:∀r∈L.take i++L.drop (i+1),gk n B r:=λr f=>by
  rcases OS.mp f with h|h
  .exact ay r (Ri h)
  .exact ay r (QL h)
 have two:∀(j:Nat)(r:sv),(L.take i++L.drop (i+1))[j]?=some r->2<=L.length:=λj r hj=>by have m:=(Oc.mp hj).1;have z:=(Oc.mp hi).1;rw[Od,Ow,OU]at m;lia
 generalize xs.take i++xs.drop (i+1)=zs at*;generalize L.take i++L.drop (i+1)=N at*;show#[7,q,2,#[_,SqL.of h3],6];refine hV (λx y G=>∃(g t:Addr)(r:sv),x= .ref g/\y= .ref t/\U g=some (.lst (r.map V.int))/\G t=some (.lst ((vQ d J r c).map V.int))) (λx y G G' e h=>by obtain⟨g,t,r,e1,e2,g1,g2⟩:=h;show#[g,t,r,e1,e2,g1,e.at g2]) (SqL.of h3) (NV dv ∅) (λj x vs D H' R S dp hv M A hk=> ?_) λD H' ys A M b5 c3 hR=> ?_
 .obtain⟨v,rfl⟩:=aX hv;obtain⟨g,r,f,rfl,bk⟩:=a0.at dp;obtain⟨l,hl⟩:=A;simp only[bK,eI,NZ];show#[7777,g,b,r,J,c,n,B,d,2,SqL.of (M.at bk),SqL.of (M.at cm),b1 r (N5 f),ay J (N5 hi),hc,hn,hB,hd (two j r f),λu H4 dV hu c1=> ?_];refine hk _ [some (.ref g)] H4 #[g,u,r,22,bk,6] rfl dV;rw[gA (ah hl hu).symm];exact c1
 .refine k D H' ys (O.trans M) ?_ b5 ?_
  .cases e:H D with
   |none=>rfl
   |some o=>rw[O.at e]at A;cases A
  .refine bu.of (by rw[c3,My];exact a0.1) λj r' y f hy=> ?_;rw[Ot]at f;cases hN:N[j]? with
   |none=>rw[hN]at f;cases f
   |some r=>
    rw[hN]at f;cases f;obtain⟨g,m,z⟩:=a0.2 j r hN;obtain⟨b2,c2,r2,e1,e2,g1,g2⟩:=hR j _ y m hy;cases e1;rw[pM z g1];show#[c2,e2,dH.at g2]
theorem zR:Ca 3 "rank_of" ["rows","prime"] (Ie K):=by
 refine cl 49 ["rows","prime","left","rank","divisor","column","place","ahead"] λH Q E nd hr h=> ?_;obtain⟨a,xs,M,n,m,rfl,ha,hx,hM,n8,dn,cm,ew,k⟩:=h;show#[_,(ae (aC (wpt aG (wlen K hT.len_ (pv 0)) aa)
     (sret aa)
     ao)
   (ae (Mj 2 nd ["row"] ["prime"] [1] (wil K (pv 0)) (wnY 0) bb (wcal xh hr (pa2 (pv 0) (pv 1))))
   (ae (wset 3 nd aa)
   (ae (wset 4 nd aa)
   (ae (wfor (wrng hT.range_ (wlen K hT.len_ (aD K (pv 0) aa))) (wname 5 nd)
     (ae (wset 6 nd (wcal qO hr (pa2 (pv 2) (pv 5))))
     (au (aC (wpt vi (pv 6) dA)
       (ae (wset 7 nd (aD K (aD K (pv 2) (pv 6)) (pv 5)))
       (ae (Mj 2 nd ["row"] ["prime"] [1] (wil K (wcal pj hr (ai (pv 2) (ai (pv 6) (ai (pv 5) (ai (pv 4) aN)))))) (wnY 0) bb (wcal xh hr (pa2 (pv 0) (pv 1))))
       (ae (wset 3 nd (ak bg (pv 3) aa))
       (au (aC (wpt aG (pv 1) aa)
         (au (wset 4 nd (pv 7)))
         ao)))))
       ao))))
   (sret (pv 3))))))),6]
 have ep:=hx.1;show#[7,a,7, .inl (SqL.of ha),27,bJ (λz=> ?_) λz=> ?_]
 .have e:M=[]:=by have t:((xs.length:Nat):Int)=0:=V.int.inj (Ov z);exact Pn.mp ()
  subst e;exact k 0 H (Same.refl _)
 have m0:0<M.length:=by refine Nat.pos_of_ne_zero λe=>z (N2 ?_);rw[ep,e];rfl
 show#[7,a,2,#[_,SqL.of ha],6];refine hV (λx y G=>∃(g s:Addr)(r:sv),x= .ref g/\y= .ref s/\H g=some (.lst (r.map V.int))/\G s=some (.lst ((d3 m r).map V.int))) (λx y G G' e h=>by obtain⟨g,s,r,t,B,g1,g2⟩:=h;show#[g,s,r,t,B,g1,e.at g2]) (SqL.of ha) (NV (show xs.length<=100 by lia) ∅) (λj x vs D H' R S dt hv sm hD hk=> ?_) λq H1 ys hq d0 fm fc hR=> ?_
 .obtain⟨v,rfl⟩:=aX hv;obtain⟨g,r,f,rfl,af⟩:=hx.at dt;obtain⟨l,hl⟩:=hD;simp only[bK,eI,NZ];show#[77,g,r,m,2,SqL.of (sm.at af),cm,by rw[(dn r (N5 f)).1];lia,λu H4 a0 hu O=> ?_];refine hk _ [some (.ref g)] _ #[g,u,r,22,af,6] rfl a0;rw[gA (ah hl hu).symm];exact O
 have fs:bu H1 ys (M.map (d3 m)):=by
  refine bu.of (by rw[fc,My];exact ep) λj r' y f hy=> ?_;rw[Ot]at f;cases U:M[j]? with
  |none=>rw[U]at f;cases f
  |some r=>
   rw[U]at f;cases f;obtain⟨g,h1,h2⟩:=hx.2 j r U;obtain⟨b2,c2,r2,t,B,g1,g2⟩:=hR j _ y h1 hy;cases t;rw[pM h2 g1];show#[c2,B,dH.at g2]
 clear hR;obtain⟨b0,e4,e6⟩:=hx.2 0 _ (Ob m0);have l0:=(dn _ (PD m0)).1;show#[7,a,3,SqL.of (d0.at ha),bH (j:=0) e4,b0,7, .inl (SqL.of (d0.at e6)),7,by rw[My];lia,by rw[My];lia,6];rw[My,l0,N9];refine cZ (n:=n) (λc σ H'=>Same H H'/\∃(q:Addr)(ys:List V) (L:pw) (o:Nat) (d:Int) (v5 v6 v7:Option V),H' q=some (.lst ys)/\bu H' ys L/\L.length+o=M.length/\(∀r∈L,gk n (fu o) r)/\(0<m->∀r∈L,∀z∈r,0<=z/\z<m)/\d≠0/\d.natAbs<2^fu (o-1)/\(m≠0->d=1)/\
  σ=[XS a,XZ m,XS q,XQ o,XZ d,v5,v6,v7]) #[d0,q,ys,M.map (d3 m),0,(1),none,none,none,fm,fs,by rw[My];rfl,λr f=> ?_,λhp r f=> ?_,44,λ_=>rfl,2] ?_ ?_
 .obtain⟨r0,ax,rfl⟩:=Of.mp f;exact wY cm ew ∅ (dn r0 ax)
 .obtain⟨r0,ax,rfl⟩:=Of.mp f;exact Bd hp
 .rintro c σ H' hc ⟨ct,q',cv,L,o,d,v5,v6,v7,b4,b7,hL,A,ek,hd,dd,dc,rfl⟩;rw[Qq];show#[77,q',cv,L,c,n,2,b4,b7,λr f=>(A r f).1,hc,λi p H2 J hi fl=> ?_,λf7 H2 J=> ?_]
  .have dx:=N5 hi;have el:=J.at b4;have es:=b7.same J;have il:=(Oc.mp hi).1;have bN:∀r∈(L.take i++L.drop (i+1)).map λr=>vQ d p r c,gk n (fu (o+1)) r:=λx fp=>by
    obtain⟨r,f,rfl⟩:=Of.mp fp;have rm:r∈L:=by
     rcases OS.mp f with h|h
     .exact Ri h
     .exact QL h
    exact JS (A p dx) (A r rm)
   have lN:((L.take i++L.drop (i+1)).map λr=>vQ d p r c).length+(o+1)=M.length:=by rw[My,Od,Ow,OU];lia
   obtain⟨b,e5,fa⟩:=es.2 i p hi;have ar:atI (p.map V.int) (c:Int)=some (.int (p.getD c 0)):=dY (by rw[(A p dx).1];exact hc);have e0:2<=L.length->CFd 0 d:=λh2=>#[hd,LK dd (vY _ ()) hd];have fA:o<9:=()
   show#[727,aP ?_];show#[77,q',3,SqL.of el,bH e5,7,b,3,SqL.of fa,ar,6];generalize U:(L.take i++L.drop (i+1)).map (λr=>vQ d p r c)=N at*;show#[7777,q',cv,L,i,c,n,fu o,d,p,2,el,es,A,9,hi,hc,9,DY o fA,e0,λu H4 zs a0 hu O b8=> ?_];rw[U]at b8;have zl:=b8.1;show#[u,2,#[_,SqL.of O],6];refine hV (λx y G=>∃(g s:Addr)(r:sv),x= .ref g/\y= .ref s/\H4 g=some (.lst (r.map V.int))/\G s=some (.lst ((d3 m r).map V.int))) (λx y G G' e h=>by obtain⟨g,s,r,t,B,g1,g2⟩:=h;show#[g,s,r,t,B,g1,e.at g2]) (SqL.of O) (NV (show zs.length<=100 by lia) ∅) (λj x vs D H' R S dt hv sm hD hk=> ?_) λq5 H5 ws gm fM en fe hR=> ?_
   .obtain⟨v,rfl⟩:=aX hv;obtain⟨g,r,f,rfl,af⟩:=b8.at dt;obtain⟨l,hl⟩:=hD;simp only[bK,eI,NZ];show#[77,g,r,m,2,SqL.of (sm.at af),cm,by rw[(bN r (N5 f)).1];lia,λu H4 a0 hu O=> ?_];refine hk _ [some (.ref g)] _ #[g,u,r,22,af,6] rfl a0;rw[gA (ah hl hu).symm];exact O
   have eo:bu H5 ws (N.map (d3 m)):=by
    refine bu.of (by rw[fe,My];exact zl) λj r' y f hy=> ?_;rw[Ot]at f;cases c4:N[j]? with
    |none=>rw[c4]at f;cases f
    |some r=>
     rw[c4]at f;cases f;obtain⟨g,h1,h2⟩:=b8.2 j r c4;obtain⟨b2,c2,r2,t,B,g1,g2⟩:=hR j _ y h1 hy;cases t;rw[pM h2 g1];show#[c2,B,dH.at g2]
   clear hR;have ez:Same H H5:=((ct.trans J).trans a0).trans fM;have fB:∀r∈N.map (d3 m),gk n (fu (o+1)) r:=λr f=>by obtain⟨r0,ax,rfl⟩:=Of.mp f;exact wY cm ew (iW _) (bN r0 ax)
   have fI:0<m->∀r∈N.map (d3 m),∀z∈r,0<=z/\z<m:=λhp r f=>by obtain⟨r0,ax,rfl⟩:=Of.mp f;exact Bd hp
   show#[786];rw[show(o:Int)+1=((o+1:Nat):Int) by lia];show#[727,bJ (λz=> ?_) λz=> ?_]
   .have e:m=0:=V.int.inj (Ov z);show#[7,ez,q5,ws,N.map (d3 m),o+1,p.getD c 0,111,en,eo,by rw[My];exact lN,fB,fI,fl,(A p dx).at c,λh=>absurd e h,2]
   .have e:m≠0:=λe=>z (N2 (by rw[e]));have ed:=dc e;subst ed;show#[ez,q5,ws,N.map (d3 m),o+1,(1),111,en,eo,by rw[My];exact lN,fB,fI,4,N7 (show(1:Int).natAbs<2^7 by decide) (OG ∅ (iW _)),λ_=>rfl,2]
  .show#[727,aS ?_];show#[ct.trans J,q',cv,L,o,d,111,J.at b4,b7.same J,hL,A,ek,hd,dd,dc,2]
 .rintro σ H' ⟨ct,q',cv,L,o,d,v5,v6,v7,b4,b7,hL,A,ek,hd,dd,dc,rfl⟩;show#[7,k o H' ct]
theorem j6:dg P w K mg base 2 893 ["self","n","prime","rows"] (wI K 901):=by
 refine fnA 10 ["self","n","prime","rows"] λH Q E nd hr h=> ?_;obtain⟨p,d,a,n,m,xs,M,rfl,O,ha,hx,hl,k⟩:=h;show#[_,(ae (aM (pK kH hr ∅ (a8 (v:= .ref 269) ⋯ (gR 0) rfl) (pa2 (pv 0) (pv 1))))
   (ae (wsf K (pv 0) (pv 2))
   (au (wsf K (pv 0) (aO (dX (K:=K) ⋯) ⋯ hT.tuple_ QY (pa1 (dr ["row"] [] [] (wil K (pv 3)) (wnY 0) bb (aO (dX (K:=K) ⋯) ⋯ hT.tuple_ QY (pa1 (pv 0)))))))))),6]
 show#[277,p,(901),d,7,O,(hC 901).toCls,(nA 8),6];have b4:upd H p (.ins 901 d (aW "many" (.int n) [])) p=some (.ins 901 d (aW "many" (.int n) [])):=ag;show#[77,p,(901),d,7,b4,(hC 901).toCls,(nA 9),Om (bA _ _ _) (by show 0+1<1000;decide),6];rw[eC];have b5:upd H p (.ins 901 d (aW "prime" (.int m) (aW "many" (.int n) []))) p=some (.ins 901 d (aW "prime" (.int m) (aW "many" (.int n) []))):=ag;have af:∀b o,H b=some o->b≠p->upd H p (.ins 901 d (aW "prime" (.int m) (aW "many" (.int n) []))) b=some o:=λb o e hb=>by rw[aj hb];exact e
 have nn:∀b,upd H p (.ins 901 d (aW "prime" (.int m) (aW "many" (.int n) []))) b=none->b≠p/\H b=none:=λb hb=>by
  have bp:b≠p:=λe=>by rw[e,ag]at hb;cases hb
  rw[aj bp]at hb;show#[bp,hb]
 have a0:=af _ _ ha (jG ha O (by intro z;cases z));have ab:bu (upd H p (.ins 901 d (aW "prime" (.int m) (aW "many" (.int n) [])))) xs M:=#[hx.1,λi r B=>by obtain⟨b,g,j⟩:=hx.2 i r B;show#[b,g,af _ _ j (jG j O (by intro z;cases z))]]
 generalize upd H p (.ins 901 d (aW "prime" (.int m) (aW "many" (.int n) [])))=J at*;show#[7,a,2,#[_,SqL.of a0],6];refine hV (λx y G=>∃(b c:Addr)(r:sv),x= .ref b/\y= .ref c/\J b=some (.lst (r.map V.int))/\G c=some (.tup (r.map V.int))) (λx y G G' e h=>by obtain⟨b,c,r,f,N,g,j⟩:=h;show#[b,c,r,f,N,g,e.at j]) (SqL.of a0) (NV hl ∅) (λi v vs D H' R S cm hv A hD hk=> ?_) λD L u hD A b0 bk hR=> ?_
 .obtain⟨v,rfl⟩:=aX hv;obtain⟨b,r,B,rfl,hb⟩:=ab.at cm;obtain⟨l,b3⟩:=hD;simp only[bK,eI,NZ];show#[7,b,7, .inl #[SqL.of (A.at hb),λq hq=> ?_]];refine hk _ [some (.ref b)] _ #[b,q,r,22,hb,6] rfl (Same.new hq);rw[gA (ah b3 hq).symm,ag]
 have ct:jP L u M:=by
  show#[by rw[bk];exact ab.1,λi r B=> ?_];obtain⟨b,g,j⟩:=ab.2 i r B;have hi:i<u.length:=by rw[bk];exact(Oc.mp g).1
  obtain⟨b',c,r',f,N,g1,g2⟩:=hR i _ _ g (Ob hi);cases f;rw[pM j g1];show#[c,by rw[Ob hi,N],dH.at g2]
 show#[D,u,2, .inl #[SqL.of b0,λt s=> ?_]];have U:=A.at b5;have tp:t≠p:=λe=>by rw[e,U]at s;cases s
 have cE:J t=none:=by
  cases e:J t with
  |none=>rfl
  |some o=>rw[A.at e]at s;cases s
 show#[7,p,(901),d,7,(by rw[aj tp.symm];exact U),(hC 901).toCls,(nA 10),66]
 .exact Om (bA _ _ _) (Om (QR (bA _ _ _)) (by show 0+1+1<1000;decide))
 have b6:upd L t (.tup u) p=some (.ins 901 d (aW "prime" (.int m) (aW "many" (.int n) []))):=by rw[aj tp.symm];exact U
 refine k t u _ (nn t cE).2 (λb o e hb=> ?_) ag ?_ ?_
 .have f:=A.at (af b o e hb);rw[aj hb,aj (ah f s)];exact f
 .rw[aj tp,ag]
 .refine(ct.ts (H':=upd L t (.tup u)) (ic.new s)).ts λb zs e=> ?_;rw[aj (jG e b6 (by intro z;cases z))];exact e
theorem pk:dg P w K mg base 4 898 ["self","s"] (wG 901):=by
 refine fnA 11 ["self","s","some"] λH Q E nd hr h=> ?_;obtain⟨a,n,s,m,M,rfl,hT,n8,hM,ax,m0,m1,hs,k⟩:=h;show#[_,(ae (wset 2 nd (wcal cq hr (pa1 (pv 1))))
   (sret (wcal zR hr (pa2 (dr ["row"] ["some"] [2] (wit K (wfld K (pv 0))) (wnY 0) bb (dr ["thing"] ["row"] [0] (wil K (pv 1)) (wnY 0) bb (mK K (pv 1) (pv 0)))) (wfld K (pv 0)))))),6]
 obtain⟨O,t,xs,ha,ht,hx⟩:=id hT;have eo:s<256:=N7 hs (OG (n:=2) () n8);show#[7,(s:Int),299,λq H1 p hq ab=> ?_];rw[N9]at ab;have a0:=p.at ht;have U:=p.at ha;have a3:=hx.ts (ic.of p);have dv:=hx.1;show#[7,a,(901),O,17,U,(hC 901).toCls,(nA 10),El _ _ _,t,2,#[_,SqT.of a0],6];refine Jw (λx y G=>∃(b c:Addr)(r:sv),x= .ref b/\y= .ref c/\H1 b=some (.tup (r.map V.int))/\r∈M/\G c=some (.lst ((pick s r).map V.int))) (λx y G G' e h=>by obtain⟨b,c,r,A,B,J,h3,L⟩:=h;show#[b,c,r,A,B,J,h3,e.at L]) a0 (NV (show xs.length<=100 by lia) ∅) (λi v vs D H' R S dn hv sm hD hk=> ?_) λu H2 ys hu bN dh c8 hR=> ?_
 .obtain⟨v,rfl⟩:=aX hv;obtain⟨b,r,d,rfl,hb⟩:=a3.at dn;obtain⟨l,c4⟩:=hD;simp only[bK,eI,NZ];have af:=sm.at ab;have cN:=sm.at hb;show#[7,q,2,#[_,SqL.of af],6];refine bO (λx=>(λ_=>true) (cU x)) (λx=> .int ((λz:Int=>r.getD z.toNat 0) (cU x))) (SqL.of af) (by rw[My];exact NV (cV s) ∅) (λj x ws f R' S' dt hw g c3=> ?_) λD2 f cm g o=> ?_
  .obtain⟨w',rfl⟩:=aX hw;obtain⟨z,rfl,hz⟩:=bB dt;obtain⟨z0,z1⟩:=rS hs (N5 hz);have q':=c3 [some (.int z)] f rfl (Same.refl _);rw[NZ rfl]at q';have az:atI (r.map V.int) z=some (.int (r.getD z.toNat 0)):=by
    have:=dY (l:=r) (j:=z.toNat) (by rw[(ax r (N5 d)).1];exact z1)
    rwa [Int.toNat_of_nonneg z0]at this
   simp only[bK,eI,NZ];show#[77,b,3,SqT.of (g.at cN),az,q']
  .replace o:=o.trans (OL (λl=>some (HO.lst l)) (cb (λ_=>true) (λz:Int=>r.getD z.toNat 0) (bits s)));rw[O9.mpr (λ_ _=>rfl)]at o;refine hk _ [some (.ref b)] f #[b,D2,r,22,hb,N5 d,6] rfl g;rw[gA (ah c4 cm).symm];exact o
 have d0:bu H2 ys (M.map (pick s)):=by
  refine bu.of (by rw[c8,My];exact dv) λj r' y d hy=> ?_;rw[Ot]at d;cases N:M[j]? with
  |none=>rw[N]at d;cases d
  |some r=>
   rw[N]at d;cases d;obtain⟨b,J,L⟩:=a3.2 j r N;obtain⟨b2,c2,r2,A,B,g1,_,g2⟩:=hR j _ y J hy;cases A;rw[HQ L g1];show#[c2,B,dH.at g2]
 have bl:=cV s;show#[7,a,(901),O,17,bN.at U,(hC 901).toCls,(nA 9),Ci _ _ _,u,ys,M.map (pick s),(bits s).length,m,2,dh,d0,by rw[My];exact hM,bl,λr d=> ?_,m0,m1,λrk f g=>k rk f ((p.trans bN).trans g)]
 .obtain⟨r0,dc,rfl⟩:=Of.mp d;show#[by unfold pick;rw[My],λz hz=> ?_];unfold pick at hz;obtain⟨b,_,rfl⟩:=Of.mp hz;exact(ax r0 dc).at b.toNat
theorem mr:∀C,J2 297 835 901 321 C->nW P w K mg base 5 C "rank" ["self","s"] (wF 297 835 901 321 C):=λC h=>by rcases h with rfl|rfl|rfl|rfl;exact nW.mono (cM 4 (dg.imp vx (MR d4))) ∅;exact nW.mono (cM 9 (dg.imp xr (MP d4))) ∅;exact nW.mono (cM 11 (dg.imp pk (MO d4))) ∅;exact nW.mono (cM 6 (dg.imp qW (MQ d4))) ∅
theorem me:∀C,J2 297 835 901 321 C->nW P w K mg base 2 C "everything" ["self"] (A1 K):=λC h=>by rcases h with rfl|rfl|rfl|rfl;show#[(hC 297).toCls,_,#[nA 3,(mM 2).fn,(mM 2).kp],cg];show#[(hC 835).toCls,_,#[nA 7,(mM 2).fn,(mM 2).kp],cg];show#[(hC 901).toCls,_,#[nA 11,(mM 2).fn,(mM 2).kp],cg];show#[(hC 321).toCls,_,#[nA 14,(mM 2).fn,(mM 2).kp],cg]
theorem nE:mJ P w K mg base 2 "Even" 297 ["self","n","k"] (A0 297):=nw 3 1 nD
theorem nN:mJ P w K mg base 2 "Net" 835 ["self","n","points","ties"] (AX K 835):=nw 7 2 pq
theorem nT:mJ P w K mg base 2 "Tabled" 901 ["self","n","prime","rows"] (wI K 901):=nw 10 3 j6
theorem nL:mJ P w K mg base 2 "Listed" 321 ["self","n","some"] (AY K 321):=nw 5 4 k8
theorem sq:Ca 6 "whole_rank" ["house"] (Ew 297 835 901 321):=by refine cl 50 ["house"] λH Q E nd e h=> ?_;obtain⟨a,n,rfl,L,i,k⟩:=h;show#[_,(sret (vg mr e ∅ (pv 0) (pa1 (xb me e ∅ (pv 0))))),6];obtain⟨C,d,b,fs,c,fr,f,g⟩:=L.sees;obtain⟨cl,j⟩:=hck C d;show#[7,a,C,b,fs,2,c,d,fr,7,a,C,b,fs,2,c,d,f,a,C,b,fs,n,2,c,cl,j,g,996];rw[eS];have l:0<2^n:=QO ();show#[a,n,2^n-1,2,L,#[b,fs,c],i,9,k]
theorem Fj:Ca 6 "frees" ["house"] (wL 297 835 901 321):=by
 refine cl 51 ["house"] λH Q E nd b h=> ?_;obtain⟨a,n,rfl,L,q,k⟩:=h;show#[_,(sret (dr ["s"] ["house"] [0] (wil K (wcal qP b (pa1 (xb me b ∅ (pv 0))))) (wnY 0) (cH (wpt aG (vg mr b ∅ (pv 1) (pa1 (pv 0))) (wcal jY b (pa1 (pv 0))))) (pv 0))),6];obtain⟨C,f,g,fs,m,fr,G,J⟩:=L.sees;obtain⟨cl,nM⟩:=hck C f;have p8:=tF q;show#[7,a,C,g,fs,2,m,f,G,a,C,g,fs,n,2,m,cl,nM,J,996];rw[eS];show#[799,λp H1 r bN c=>#[p,2,#[_,SqL.of c],6]];rw[N9,nh n ()]at c;refine xJ false (λz=>0<=z/\z<256) (SqL.of c) (by rw[My,My,O2];exact NV p8 ∅) (λi x vs H' R S hx hv d N U=> ?_) λD H' zs hD d hl hz O _=>k D zs H' (r.trans d) hl (by rw[My,My,O2]at O;lia) hz;obtain⟨v,rfl⟩:=aX hv;obtain⟨z,rfl,hz⟩:=bB hx;obtain⟨s,hs,rfl⟩:=Of.mp (N5 hz);have af:=OQ.mp hs;have L2:=L.same (r.trans d);obtain⟨A,B,j,l,o,M,a3,bk⟩:=L2.sees;show#[7,a,A,j,l,2,o,B,M,7,a,n,s,2,L2,#[j,l,o],q,af,λy H2 t=> ?_];show#[7799,λe u=>#[27,bJ (λ_=>#[76]) λ_=> ?_]]
 .exact N _ [some (.int (s:Int))] e () rfl (t.trans u)
 .exact U rfl [some (.int (s:Int))] e rfl (t.trans u)
theorem Fm:Ca 7 "bases" ["house"] (wL 297 835 901 321):=by
 refine cl 52 ["house","whole"] λH Q E nd b h=> ?_;obtain⟨a,n,rfl,L,f,k⟩:=h;show#[_,(ae (wset 1 nd (wcal sq b (pa1 (pv 0))))
   (sret (dr ["s"] ["whole"] [1] (wil K (wcal Fj b (pa1 (pv 0)))) (wnY 0) (cH (wpt aG (wcal jY b (pa1 (pv 0))) (pv 1))) (pv 0)))),6]
 show#[7,a,n,2,L,f,λy A j=> ?_];show#[7,a,n,2,L.same j,f,λp J B u e q t=>#[p,2,#[_,SqL.of e],6]];refine xJ false (λz=>0<=z/\z<256) (SqL.of e) (by rw[My];exact NV q ∅) (λi x vs H' R S hx s g m r=> ?_) λD H' us G g hl hz o _=>k D us H' (j.trans (u.trans g)) hl (by rw[My]at o;lia) hz;obtain⟨v,rfl⟩:=aX s;obtain⟨z,rfl,hz⟩:=bB hx;have c:=t z (N5 hz);show#[77,c.1,c.2,λd l=>#[727,bJ (λ_=>#[76]) λ_=> ?_]]
 .exact m _ [some (.int z)] d c rfl l
 .exact r rfl [some (.int z)] d rfl l
theorem j7:dg P w K mg base 1 197 ["self","one","other","thing"] (Ii 200):=by
 refine fnA 12 ["self","one","other","thing"] λH Q E nd i h=> ?_;obtain⟨d,a,b,c,rfl,f,k⟩:=h;show#[_,(ae (aM (E7 oNH PK cT.s.xI (a8 (v:= .ref 168) ⋯ (gR 8) rfl) (ai (pv 0) (ai (pv 1) (ai (pv 2) (ai (pv 3) aN))))))
   (ae (zI (K:=K) ⋯ (pv 0) (pv 1))
   (ae (zI (K:=K) ⋯ (pv 0) (pv 2))
   (au (zI (K:=K) ⋯ (pv 0) (pv 3)))))),6]
 show#[27777,d,7,by show 3<=sizeLine;decide,f,6];show#[77,d,(200),2,cT.s.xF,(nA 20), .inl #[f,λe g=> ?_]];have ne:d≠e:=ah f g;show#[77,d,(200),2,cT.s.xF,(nA 21), .inr #[e,_,by rw[aj ne,ag],ag,by show 1<1000;decide,6]];rw[eC];show#[77,d,(200),2,cT.s.xF,(nA 22), .inr #[e,_,by rw[aj ne,ag],ag,Om (bA _ _ _) (by show 1+1<1000;decide),6]];rw[eC];exact k e g
theorem nj:AI P w K mg base 3 "refuse" ["found"] (Cp 200):=by
 refine clD 53 ["found"] λH Q E nd l h=> ?_;obtain⟨an,v,rfl,i,k,m⟩:=h;show#[_,(au (aC (wpt vi (pv 0) dA)
     (au (CD rfl rfl oNH PK (mM 12).fn j7 l ∅ ⋯ zG (ai (mK K (pv 0) aa) (ai (mK K (pv 0) aa) (ai (mK K (pv 0) aa) aN)))))
     ao)),6]
 cases an with
 |none=>
  cases (show v=V.non from i);show#[727,aS (k rfl)]
 |some t=>
  obtain⟨x,y,z⟩:=t;obtain⟨p,rfl,g⟩:=i;show#[727,aP ?_];show#[7,p,3,SqT.of g,27,p,3,SqT.of g,27,p,3,SqT.of g,2,by show 3<=sizeLine;decide,λc f=> ?_];show#[c,x,y,z,2,ag,λa d=>#[2,a,66]]
  .have ne:c≠a:=ah (H:=upd H c (iX 200 none c)) ag d;rw[aj ne,ag]
  .have ne:a≠c:=λe=>by rw[e,ag]at d;cases d
   have j:H a=none:=by rwa[aj ne]at d
   refine m _ rfl a _ (λb o e=> ?_) ?_
   .rw[lz (ah e f),aj (ah e j),aj (ah e f),aj (ah e f)];exact e
   .rw[lz ne,ag]
theorem gx:Ca 4 "house_of_frees" ["n","free"] (zb K 321):=by
 refine cl 54 ["n","free","most"] λH Q E nd B h=> ?_;obtain⟨a,n,fs,rfl,r,bk,y,t,k⟩:=h;show#[_,(ae (wset 2 nd (aV (rR (K:=K) ⋯ ⋯) ⋯ hT.max_ RU (pa1 (dr ["s"] [] [] (wil K (pv 1)) (wnY 0) bb (wcal jY B (pa1 (pv 0)))))))
   (sret (jA nL B ∅ ⋯ (pa2 (pv 0) (dr ["s"] ["most"] [2] (wil K (pv 1)) (wnY 0) (cH (wpt aG (wcal jY B (pa1 (pv 0))) (pv 1))) (pv 0)))))),6]
 show#[7,a,2,#[_,r],6];refine bO (λ_=>true) (λx=> .int ((λz:Int=>((sz z.toNat:Nat):Int)) (cU x))) r (by rw[My,gZ];exact NV y ∅) (λi x vs H' R S hx G sm u=> ?_) λq H1 hq ax az=> ?_
 .obtain⟨v,rfl⟩:=aX G;obtain⟨z,rfl,hz⟩:=bB hx;obtain⟨s,f,rfl⟩:=iN (N5 hz);have bN:=t s f;simp only[bK,eI,NZ];show#[7799,λd L=> ?_];have q:=u [some (.int (s:Int))] d rfl L;rwa[NZ rfl]at q
 have a0:H1 q=some (.lst ((fs.map λs=>((sz s:Nat):Int)).map V.int)):=by rw[az,cb (λ_=>true) (λz:Int=>((sz z.toNat:Nat):Int)) (a6 fs),O9.mpr λ_ _=>rfl];exact OL (λl:List Int=>some (HO.lst (l.map V.int))) (by rw[a6,OE];rfl)
 show#[q,7,SqL.of a0,λe=>bk (QU.mp e),λm A b8=> ?_];obtain⟨c,b0,rfl⟩:=Of.mp A;have U:=ax.seq r;show#[77,a,2,#[_,U],6];refine bO (λx=>(λz:Int=>decide (sz z.toNat=sz c)) (cU x)) (λx=> .int ((λz:Int=>z) (cU x))) U (by rw[My,gZ];exact NV y ∅) (λi x vs H' R S hx G sm u=> ?_) λp M hp b4 g=> ?_
 .obtain⟨v,rfl⟩:=aX G;obtain⟨z,rfl,hz⟩:=bB hx;obtain⟨s,f,rfl⟩:=iN (N5 hz);have bN:=t s f;show#[7799,λd L=>#[7276]];have q:=u [some (.int (s:Int))] d rfl L;rw[N9,pP];have j:if decide (sz s=sz c)=true then R (.int (s:Int)) _ d else S _ d:=q;show if decide (sz s=sz c)=true then _ else _;by_cases hc:decide (sz s=sz c)=true
  .rw[NZ hc]at j⊢;show#[7,j]
  .rw[NW hc]at j⊢;exact j
 replace g:=g.trans (OL (λl=>some (HO.lst l)) (cb (λz:Int=>decide (sz z.toNat=sz c)) (λz:Int=>z) (a6 fs)));rw[show(λz:Int=>z)=id from rfl,Si,iO]at g;have a3:M p=some (.lst ((a6 (fs.filter λs=>decide (sz s=sz c))).map V.int)):=g;have b7:(a6 (fs.filter λs=>decide (sz s=sz c))).length<=256:=by rw[gZ];exact NV (OW _ _) y
 refine λph O J af cE=>#[ph,O,p,17,ag,(bE J af).seq (SqL.of a3),9,λtt N cv b2 bp b1=>#[26]];have b5:Same M N:=λb o e=>b2 b o (bE J af b o e) (ah e J);refine k ph N ((ax.trans b4).trans b5) #[_,#[O,tt,bp,b1,9],λe=> ?_,λm A=> ?_]
 .have:((c:Nat):Int)∈a6 (fs.filter λs=>decide (sz s=sz c)):=Of.mpr #[c,Pp.mpr #[b0,N2 rfl],2];rw[e]at this;cases this
 .obtain⟨s,f,rfl⟩:=iN A;have:=t s (Pp.mp f).1;lia
theorem zT:Ca 3 "is_free" ["over","s"] (Cq K):=by
 refine cl 55 ["over","s"] λH Q E nd c h=> ?_;obtain⟨a,n,s,os,rfl,A,j,r,k⟩:=h;show#[_,(sret (E5 (aV (Az (K:=K) ⋯ ⋯) ⋯ hT.any_ PyProof.Rows.boot_any (pa1 (dr ["thing"] ["over","s"] [0,1] (wil K (wcal cq c (pa1 (pv 1)))) (wnY 0) bb (wcal xn c (pa2 (aD K (pv 1) (wcal iM c (pa2 (pv 2) (ak iJ aa (pv 0))))) (pv 0)))))))),6];have p8:=tF A;show#[7799,λp L f M b=>#[p,2,#[_,SqL.of b],6]];rw[N9]at b;have g:(bits s).length<=8:=cV s;refine bO (λ_=>true) (λx=> .bl ((os (dj s (2^(cU x).toNat))).testBit (cU x).toNat)) (SqL.of b) (by rw[My];exact NV g ∅) (λi x vs H' R S hx u B l=> ?_) λq d N G m=> ?_
 .obtain⟨v,rfl⟩:=aX u;obtain⟨z,rfl,hz⟩:=bB hx;obtain⟨t,U,O,rfl⟩:=gc.mp (N5 hz);simp only[bK,eI,NZ];have J:((t:Int)).toNat=t:=N9 t;have y:dj s (2^t)<2^n:=Om (jZ s (2^t)) r;have q:=l [some (.int (t:Int))] H' rfl (Same.refl _);rw[NZ rfl]at q;show#[7778,#[994],s,2^t,66]
  ·(try dsimp only);rw[lC];rfl
  show#[a,3,(f.trans B).seq j,ES os y,717996];rw[N9,N9];have e:R (.bl ((os (dj s (2^((t:Int)).toNat))).testBit ((t:Int)).toNat)) [some (.int (t:Int)),_,_] H':=q;rwa[J]at e
 have o:d q=some (.lst (((bits s).map λz=>(os (dj s (2^z.toNat))).testBit z.toNat).map V.bl)):=by rw[m];unfold d5;rw[O9.mpr (λ_ _=>rfl),OE,OE];rfl
 show#[q,7,SqL.of o,7,k d (f.trans G)]
theorem xl:AI P w K mg base 5 "of_bases" ["n","bases"] (EB K 321 200):=by
 refine clD 56 ["n","bases"] λH Q E nd c h=> ?_;obtain⟨a,n,bs,rfl,j,m,ab,l,k,J⟩:=h;show#[_,(ae (aM (gW nj c ∅ ⋯ qK (pa1 (wcal pb c (pa2 (pv 0) (pv 1))))))
   (sret (jA nL c ∅ ⋯ (pa2 (pv 0) (pv 1))))),6]
 show#[77,a,n,bs,2,j,m,9,l,λo v r f u x=> ?_];show#[o,v,2,u,λh0=> ?_,λt ht s H' M U=>J s H' (f.trans M)];have A:=x h0;have y:=f.seq j;show#[776];refine λq i d p ax=>#[q,i,a,_,a6 bs,2,ag,(bE d p).seq y,by rw[gZ];lia,λO g ar L B G=>#[26]];have N:Same r g:=λb o e=>L b o (bE d p b o e) (ah e d);refine k q g (f.trans N) #[a6 bs,#[i,O,B,G,by rw[gZ];lia],λe=>A (QU.mp e),λz hz=> ?_];obtain⟨b,hb,rfl⟩:=iN hz;have:=xG m (l b hb);lia
theorem xj:AI P w K mg base 5 "of_rings" ["n","rings"] (EB K 321 200):=by
 refine clD 57 ["n","rings"] λH Q E nd d h=> ?_;obtain⟨a,n,b,rfl,A,r,b2,az,k,kE⟩:=h;show#[_,(ae (aM (gW nj d ∅ ⋯ qK (pa1 (wcal o8 d (pa2 (pv 0) (pv 1))))))
   (sret (wcal gx d (pa2 (pv 0) (dr ["s"] ["rings"] [1] (wil K (wcal qP d (pa1 (wcal eB d (pa1 (pv 0)))))) (wnY 0) (cH (fi (cj (wcal kq d (pa2 (pv 1) (pv 0)))))) (pv 0)))))),6]
 show#[77,a,n,b,2,A,r,9,az,λo v H1 y hA hZ=> ?_];show#[o,v,2,hA,λh0=> ?_,λt ht N H' u B=>kE N H' (y.trans u)];have U:=hZ h0;have p8:=tF r;show#[77,(n:Int),2996];rw[eS];show#[799,λp H2 J b3 m=>#[p,2,#[_,SqL.of m],6]];rw[N9,nh n ()]at m;refine bO (λx=>(λz:Int=> !(b.any λc=>decide (c&&&z.toNat=c))) (cU x)) (λx=> .int ((λz:Int=>z) (cU x))) (SqL.of m) (by rw[My,My,O2];exact NV p8 ∅) (λi x vs H' R S hx hv u hk=> ?_) λq L hq bp g=> ?_
 .obtain⟨v,rfl⟩:=aX hv;obtain⟨z,rfl,hz⟩:=bB hx;obtain⟨s,G,rfl⟩:=Of.mp (N5 hz);have q:=hk [some (.int (s:Int))] H' rfl (Same.refl _);show#[77,a,b,s,2,((y.trans J).trans u).seq A,76];have j:if(!(b.any λc=>decide (c&&&s=c)))=true then R (.int (s:Int)) _ H' else S _ H':=q;show if(!(b.any λc=>decide (c&&&s=c)))=true then _ else _;by_cases f:(!(b.any λc=>decide (c&&&s=c)))=true
  .rw[NZ f]at j⊢;show#[7,j]
  .rw[NW f]at j⊢;exact j
 replace g:=g.trans (OL (λl=>some (HO.lst l)) (cb (λz:Int=> !(b.any λc=>decide (c&&&z.toNat=c))) (λz:Int=>z) ((List.range (2^n)).map λk:Nat=>(k:Int))));rw[show(λz:Int=>z)=id from rfl,Si]at g;have O:=iO (List.range (2^n)) (λz:Int=> !(b.any λc=>decide (c&&&z.toNat=c)));have ay:L q=some (.lst ((a6 ((List.range (2^n)).filter λs=> !(b.any λc=>decide (c&&&s=c)))).map V.int)):=g.trans (OL (λl:List Int=>some (HO.lst (l.map V.int))) O);show#[q,n,7,SqL.of ay,λe=> ?_,NV (OW _ _) (by rw[O2];exact p8),λs G=>xG r (OQ.mp (Pp.mp G).1),λph M bN hL=>k ph M (((y.trans J).trans bp).trans bN) hL];have m0:0∈(List.range (2^n)).filter λs=> !(b.any λc=>decide (c&&&s=c)):=by refine Pp.mpr #[OQ.mpr (QO ∅),6];rw[Pb,List.any_eq_false];intro c f B;have:=Ov B;rw[Nat.and_zero]at this;exact U (by rw[this];exact f)
 rw[e]at m0;cases m0
theorem xk:AI P w K mg base 7 "of_flats" ["n","flats"] (EB K 321 200):=by
 refine clD 58 ["n","flats","sets","over"] λH Q E nd b h=> ?_;obtain⟨a,n,fs,rfl,B,c,b7,bk,k,kE⟩:=h;show#[_,(ae (aM (gW nj b ∅ ⋯ qK (pa1 (wcal o9 b (pa2 (pv 0) (pv 1))))))
   (ae (wset 2 nd (wcal qP b (pa1 (wcal eB b (pa1 (pv 0))))))
   (ae (wset 3 nd (dr ["s"] ["n","flats"] [0,1] (wil K (pv 2)) (wnY 0) bb (wcal ko b (ai (pv 1) (ai (pv 2) (ai (pv 0) aN))))))
   (sret (wcal gx b (pa2 (pv 0) (dr ["s"] ["over"] [3] (wil K (pv 2)) (wnY 0) (cH (cj (wcal zT b (pa2 (pv 1) (pv 0))))) (pv 0)))))))),6]
 show#[77,a,n,fs,2,B,c,9,bk,λo v H1 A hA _=> ?_];show#[o,v,2,hA,λh0=> ?_,λt ht dx H' d hd=>kE dx H' (A.trans d)];have p8:=tF c;show#[7,(n:Int),2996];rw[eS];show#[799,λp H2 M b8 f=> ?_];rw[N9,nh n ()]at f;show#[7,p,2,#[_,SqL.of f],6];refine bO (λ_=>true) (λx=> .int ((λz:Int=>((cu n fs z.toNat:Nat):Int)) (cU x))) (SqL.of f) (by rw[My,My,O2];exact NV p8 ∅) (λi x vs H' R S hx y d u=> ?_) λq O hq N az=> ?_
 .obtain⟨v,rfl⟩:=aX y;obtain⟨z,rfl,hz⟩:=bB hx;obtain⟨s,j,rfl⟩:=Of.mp (N5 hz);simp only[bK,eI,NZ];show#[777,a,n,s,fs,2,c,((A.trans M).trans d).seq B,6];have q:=u [some (.int (s:Int))] H' rfl (Same.refl _);rwa[NZ rfl]at q
 have a0:O q=some (.lst ((a6 ((List.range (2^n)).map (cu n fs))).map V.int)):=by rw[az,cb (λ_=>true) (λz:Int=>((cu n fs z.toNat:Nat):Int)) ((List.range (2^n)).map λk:Nat=>(k:Int)),O9.mpr λ_ _=>rfl];exact OL (λl:List Int=>some (HO.lst (l.map V.int))) (by rw[a6,OE,OE];rfl)
 have J:=N.at f;show#[77,p,2,#[_,SqL.of J],6];refine bO (λx=>(λz:Int=>oQ (cu n fs) z.toNat) (cU x)) (λx=> .int ((λz:Int=>z) (cU x))) (SqL.of J) (by rw[My,My,O2];exact NV p8 ∅) (λi x vs H' R S hx y d u=> ?_) λL U ct b0 g=> ?_
 .obtain⟨v,rfl⟩:=aX y;obtain⟨z,rfl,hz⟩:=bB hx;obtain⟨s,j,rfl⟩:=Of.mp (N5 hz);show#[77,q,n,s,cu n fs,2,c,SqL.of (d.at a0),OQ.mp j,λr b1=>#[76]];have m:if oQ (cu n fs) s=true then R (.int (s:Int)) _ r else S _ r:=u [some (.int (s:Int))] r rfl b1;by_cases G:oQ (cu n fs) s=true
  .rw[NZ G]at m⊢;show#[7,m]
  .rw[NW G]at m⊢;exact m
 replace g:=g.trans (OL (λl=>some (HO.lst l)) (cb (λz:Int=>oQ (cu n fs) z.toNat) (λz:Int=>z) ((List.range (2^n)).map λk:Nat=>(k:Int))));rw[show(λz:Int=>z)=id from rfl,Si]at g;have e3:=iO (List.range (2^n)) (λz:Int=>oQ (cu n fs) z.toNat);have a3:U L=some (.lst ((a6 ((List.range (2^n)).filter λs=>oQ (cu n fs) s)).map V.int)):=g.trans (OL (λl:List Int=>some (HO.lst (l.map V.int))) e3);have b3:=((A.trans M).trans N).trans b0;show#[L,n,7,SqL.of a3,λe=> ?_,NV (OW _ _) (by rw[O2];exact p8),λs j=>xG c (OQ.mp (Pp.mp j).1),λph HA b2 hL=>k ph HA (b3.trans b2) hL];have m0:0∈(List.range (2^n)).filter λs=>oQ (cu n fs) s:=Pp.mpr #[OQ.mpr (QO ∅),2];rw[e]at m0;cases m0
theorem vm:Cb 8 "made_even" ["houses","given"] (wH 297 835 901 321 200 "even"):=by refine clX 59 ["houses","given"] λH Q E nd e h=> ?_;obtain⟨l,g,q,rfl,b,d,k,m⟩:=h;obtain⟨_,n,o,rfl,f⟩:=Gb d;show#[_,(sret (jA nE e ∅ ⋯ (pa2 (aD K (pv 1) aa) (aD K (pv 1) aa)))),6];show#[7,g,3,SqL.of b,27,g,3,SqL.of b,26];refine λc a j i p=>#[c,a,17,ag,26];exact k c n _ (k9 j i) (.inl #[a,_,ag]) f
theorem nu:Cb 8 "made_of_bases" ["houses","given"] (wH 297 835 901 321 200 "bases"):=by
 refine clX 60 ["houses","given"] λH Q E nd m h=> ?_;obtain⟨s,g,t,rfl,c,i,k,o⟩:=h;have e:bC "bases":=by unfold bC;decide
 obtain⟨_,n,b,q,rfl,d,hb,hl,l⟩:=rE e i;show#[_,(sret (gW xl m ∅ ⋯ vh (pa2 (aD K (pv 1) aa) (aD K (pv 1) aa)))),6];show#[7,g,3,SqL.of c,27,g,3,SqL.of c,2,b,n,q,2,SqL.of hb,d,hl,l,λp H' a j=>k p n H' a (.inr (.inr (.inr j))) d,λr H' a f=>o e f H' a]
theorem nk:Cb 8 "made_of_rings" ["houses","given"] (wH 297 835 901 321 200 "rings"):=by
 refine clX 61 ["houses","given"] λH Q E nd m h=> ?_;obtain⟨s,g,t,rfl,c,i,k,o⟩:=h;have e:bC "rings":=by unfold bC;decide
 obtain⟨_,n,b,q,rfl,d,hb,hl,l⟩:=rE e i;show#[_,(sret (gW xj m ∅ ⋯ vh (pa2 (aD K (pv 1) aa) (aD K (pv 1) aa)))),6];show#[7,g,3,SqL.of c,27,g,3,SqL.of c,2,b,n,q,2,SqL.of hb,d,hl,l,λp H' a j=>k p n H' a (.inr (.inr (.inr j))) d,λr H' a f=>o e f H' a]
theorem nr:Cb 8 "made_of_flats" ["houses","given"] (wH 297 835 901 321 200 "flats"):=by
 refine clX 62 ["houses","given"] λH Q E nd m h=> ?_;obtain⟨s,g,t,rfl,c,i,k,o⟩:=h;have e:bC "flats":=by unfold bC;decide
 obtain⟨_,n,b,q,rfl,d,hb,hl,l⟩:=rE e i;show#[_,(sret (gW xk m ∅ ⋯ vh (pa2 (aD K (pv 1) aa) (aD K (pv 1) aa)))),6];show#[7,g,3,SqL.of c,27,g,3,SqL.of c,2,b,n,q,2,SqL.of hb,d,hl,l,λp H' a j=>k p n H' a (.inr (.inr (.inr j))) d,λr H' a f=>o e f H' a]
theorem xm:Cb 8 "made_net" ["houses","given"] (wH 297 835 901 321 200 "net"):=by refine clX 63 ["houses","given"] λH Q E nd s h=> ?_;obtain⟨B,g,M,rfl,c,m,k,J⟩:=h;obtain⟨_,p,b,us,ts,rfl,p9,hb,j,n,y⟩:=JE m;show#[_,(sret (jA nN s ∅ ⋯ (ai (wlen K hT.len_ (aD K (pv 1) aa)) (ai (aD K (pv 1) aa) (ai (aD K (pv 1) aa) aN))))),6];have z:=j.1;show#[7,g,3,SqL.of c,2,b,us,2, .inl (SqL.of hb),7,g,3,SqL.of c,27,g,3,SqL.of c,26];rw[z];refine λl i a d L=>#[l,i,b,11,us,ts,2,ag,(bE a d).seq (SqL.of hb),j.ts (ic.of (bE a d)),9,λt A f G v q u r=>#[26]];have x:Same H f:=λb o e=>v b o (bE a d b o e) (ah e a);exact k l ts.length f x (.inr (.inl #[p,ts,#[i,t,A,q,u,r],n,92])) y
theorem sx:Cb 8 "made_table" ["houses","given"] (wH 297 835 901 321 200 "table"):=by refine clX 64 ["houses","given"] λH Q E nd v h=> ?_;obtain⟨J,g,ys,rfl,c,q,k,N⟩:=h;obtain⟨_,m,n,b,us,M,rfl,r,z,hb,j,m8,p⟩:=Dx q;have O:m<128:=(by decide:∀x∈nopr,x<128) m r;show#[_,(sret (jA nT v ∅ ⋯ (ai (aD K (pv 1) aa) (ai (aD K (pv 1) aa) (ai (aD K (pv 1) aa) aN))))),6];have ul:=j.1;show#[7,g,3,SqL.of c,27,g,3,SqL.of c,27,g,3,SqL.of c,26];refine λl i a d U=>#[l,i,b,11,us,M,2,ag,(bE a d).at hb,j.same (bE a d),9,λt G f L A s y u=>#[26]];have B:Same H f:=λb o e=>A b o (bE a d b o e) (ah e a);exact k l n f B (.inr (.inr (.inl #[m,M,#[i,t,G,s,y,u],m8,p,99]))) z
theorem Nw:∀z f,iq z->(kvD 931 938 945 952 959 966 973 980 987 994).lookup z=some f->∃a,c5 P w K mg base (CXe P w) 8 f a ["houses","given"] (wH 297 835 901 321 200 z)/\cx K a ["houses","given"] []/\keepIn K (.ref f)=true:=by refine λz f hz h=>mj (p:=λz f=>iq z->∃a,c5 P w K mg base (CXe P w) 8 f a ["houses","given"] (wH 297 835 901 321 200 z)/\cx K a ["houses","given"] []/\keepIn K (.ref f)=true) ?_ z f h hz;unfold kvD;simp only[R7];show#[λ_=>bq vm (gR 26) ∅ (λ_ _ _ _ h=>h),λ_=>bq nu (gR 27) ∅ (λ_ _ _ _ h=>h),λ_=>bq nk (gR 28) ∅ (λ_ _ _ _ h=>h),λ_=>bq nr (gR 29) ∅ (λ_ _ _ _ h=>h),λ_=>bq xm (gR 30) ∅ (λ_ _ _ _ h=>h),λ_=>bq sx (gR 31) ∅ (λ_ _ _ _ h=>h),λh=>absurd h (by unfold iq bC;decide),λh=>absurd h (by unfold iq bC;decide),λh=>absurd h (by unfold iq bC;decide),λh=>absurd h (by unfold iq bC;decide),λc b=>nomatch b]
theorem Jb:Cb 9 "made" ["verb","houses","given"] (MI 297 835 901 321 200):=by
 refine clX 65 ["verb","houses","given"] λH Q E nd c h=> ?_;obtain⟨z,d,g,f,rfl,b,a,k,e⟩:=h;show#[_,(sret (qJ (cT.s.fD P) ⋯ (gR 16) (pv 0) (by intro _ _;rfl) Nw (c.mono ∅) aF (pa2 (pv 1) (pv 2)))),6];have hl:((kvD 931 938 945 952 959 966 973 980 987 994).lookup z).isSome=true:=by rw[hJ rfl];rcases a.six with rfl|rfl|rfl|rfl|rfl|rfl<;>decide
 show#[7,z,2,a.six,hl,77,d,g,f,2,b,a,k,e]
theorem nF:dg P w K mg base 1 1134 ["self"] (wK 1149):=by
 refine fnA 13 ["self"] λH Q E nd i h=> ?_;obtain⟨p,c,rfl,f,k⟩:=h;show#[_,(au (wsf K (pv 0) xa)),6];intro d a;have g:p≠d:=ah f a;show#[7,p,(1149),c,7,(by rw[aj g];exact f),(hC 1149).toCls,(nA 19),by show 0<1000;decide,6];refine k d _ a (λb o e hb=> ?_) #[c,ag,6]
 .rw[aj hb,aj (ah e a)];exact e
 .rw[aj g.symm,ag]
theorem nDk:mJ P w K mg base 1 "Desk" 1149 ["self"] (wK 1149):=nw 13 6 nF
theorem jF:uL P w K mg base 1 1141 ["self","name"] (wN 1149 224):=by
 refine fnB 14 ["self","name"] λH Q E nd a h=> ?_;obtain⟨p,d,z,rfl,⟨b,e,c⟩,hz,f⟩:=h;show#[_,(ae (aC (zH (tG (Om (P9 ∅ _) a.units) (pv 1) (wfld K (pv 0))))
     (au (qF rfl Jd PK ⋯ tq (pa1 (Lv (pv 1)))))
     ao)
   (sret (Bj (Om (P9 ∅ _) a.units) (wfld K (pv 0)) (pv 1) (by intro _ _;rfl)))),6]
 show#[77,p,(1149),b,17,e,(hC 1149).toCls,(nA 19),rK _,d,7,pH.k (k:=Sum.inr z) c,7,aP ?_];show#[7,z,2,NV hz ∅,λy=>#[by show 1<=sizeLine;decide,f]]
theorem mHC:uM P w K mg base 1 1149 "house_called" ["self","name"] (wN 1149 224):=cMX 14 jF
theorem xt:uL P w K mg base 10 1146 ["self","line"] (Ka 1149 212 224 200):=by
 refine fnB 15 ["self","line","told","asked","house"] λH Q E nd c h=> ?_;obtain⟨p,d,z,rfl,hp,hz,k0,k1,k3,k2⟩:=h;show#[_,(ae (wset 2 nd (aE zS c ∅ ⋯ aF (pa1 (pv 1))))
   (ae (tE (i:=3) nd ⋯ ⋯ (.inr #[222,jW]) (vars:=["name"]) (frn:=["self"]) (fr:=[0]) rfl ⋯ ⋯ ⋯ ⋯ #[#[⋯,PR ⋯,PR ⋯],Og] (wil K (wfld K (pv 2))) (λ_ _ _ _=>(gu (i:=0) (show List.Nodup (["name","self"]:List PySem.Str) by decide+kernel) ⋯ (PR rfl))) (λ_ _ _ _=>bb) (λ_ _ _ _=>(Fc mHC c ∅ er (pv 1) (pa1 (pv 0)))))
   (ae (aC (wpt zP (wfld K (pv 2)) dA)
     (au EZ)
     ao)
   (ae (wset 4 nd (aE Jb c ∅ ⋯ aF (ai (wfld K (pv 2)) (ai (pv 3) (ai (wfld K (pv 2)) aN)))))
   (ae (Bg (Om (P9 ∅ _) c.units) (wfld K (pv 0)) (wfld K (pv 2)) (jA nL c ∅ ⋯ (pa2 (wfld K (pv 4)) (wcal Fm c (pa1 (pv 4))))) ⋯)
   (sret aw)))))),6]
 show#[7,z,2,hz,λeb m t v xs ys H1 s hL l=> ?_,λe=>k0 e];obtain⟨j,q,g,hl,G,hg⟩:=hL;show#[7,m,(655),j,17,hl,(hC 655).toCls,(nA 17),Dg _ _ _ _,q,2,#[_,SqL.of G],6];rcases l with ⟨e1,y,yz,rfl,yl,ya⟩|⟨h2,⟨tz,rfl⟩,l⟩
 .refine hW (λ_=>False) id (SqL.of G) (NV (show((y::yz).map V.str).length<=11 by rw[My,Oa];lia) ∅) (λi u vs H' R S hx hv f hk=> ?_) λq2 H' c4 f c1 N=>(N _ N8).elim;obtain⟨u0,rfl⟩:=aX hv;simp only[bK,eI,NZ];obtain⟨x,rfl,c8⟩:=dI hx;obtain⟨r,af,ct⟩:=hp.same (s.trans f);show#[7,p,r,7,af,Gw _ #[9],7,p,d,x,2,#[r,af,ct],ya x (N5 c8),λA _=>k1 e1 H' A (s.trans f)]
 .have hx:xs=[]:=by rcases l with ⟨_,_,h,_⟩|⟨_,_,h,_⟩|⟨_,_,h,_⟩|⟨_,_,h,_⟩<;>exact h
  subst hx;refine hW (λ_=>False) id (SqL.of G) (by show 0<=sizeLine;decide) (λi u vs H' R S hx hv f hk=>absurd hx #[5]) λq2 H2 c4 a c1 N=> ?_;have B:=a.at hl;show#[7,m,(655),j,17,B,(hC 655).toCls,(nA 15),ri _ _ _ _,27,aS ?_];show#[7,m,(655),j,17,B,(hC 655).toCls,(nA 16),FK _ _ _ _,77,m,(655),j,17,B,(hC 655).toCls,(nA 18),Df _ _ _ _,v,_,g,ys,2,a.at hg,6,λU n H3 ay O n8=> ?_,λL A H' f=>k3 ?_ H' A ((s.trans a).trans f)]
  .rcases l with ⟨_,e,h⟩|⟨_,e,h⟩|⟨_,e,h⟩|⟨_,e,h⟩
   .exact .inl #[e,h]
   .exact .inr (.inl #[e,tw a h])
   .exact .inr (.inr (.inl #[e,oG a h]))
   .exact .inr (.inr (.inr #[e,qD a h]))
  .obtain⟨M,dm,b2,b6,cm,_,_,fm⟩:=O.sees;obtain⟨bN,dd⟩:=hck M dm;show#[7,U,M,b2,b6,7,cm,bN,dd,fm,7,U,n,2,O,n8,λb zs H4 az c2 zl ei=> ?_];refine λpl b0 J ax ej=>#[pl,b0,b,_,zs,2,ag,(bE J ax).seq (SqL.of c2),9,λtt HA ed dh ec eg=>#[26]];have a0:Same H4 HA:=λb o e=>dh b o (bE J ax b o e) (ah e J);have a3:=(((s.trans a).trans ay).trans az).trans a0;obtain⟨r,c3,cv⟩:=hp.same a3;show#[7,p,(1149),r,17,c3,(hC 1149).toCls,(nA 19),rK _,7,m,(655),j,17,(((a.trans ay).trans az).trans a0).at hl,(hC 655).toCls,(nA 15),ri _ _ _ _,d,7,HH.k (k:=Sum.inr tz) cv (by show 0<sizeLine;decide),6];exact k2 h2 _ λb o e hb=>by rw[aj hb];exact a3.at e
  .rcases l with ⟨_,e,_⟩|⟨_,e,_⟩|⟨_,e,_⟩|⟨e3,_,_⟩
   .subst e;exact absurd L (by unfold bC;decide)
   .subst e;exact absurd L (by unfold bC;decide)
   .subst e;exact absurd L (by unfold bC;decide)
   .exact e3
theorem mS:uM P w K mg base 10 1149 "say" ["self","line"] (Ka 1149 212 224 200):=cMX 15 xt
theorem bR:Ca 1 "_law_is_name" ["_law_word"] (MJ a9):=by
 refine cl 66 ["_law_word","_law_sign"] λH Q E nd o h=> ?_;obtain⟨z,rfl,hl,k⟩:=h;show#[_,(ae (wfor (vd (pv 0)) (wname 1 nd)
     (au (aC (dk fz (pv 1) aw ⋯)
       (sret i5)
       ao)))
   (sret (dS (wpe fY aa (aV bX ⋯ hT.len_ P5 (pa1 (pv 0)))) (dz (wpe fY (aV bX ⋯ hT.len_ P5 (pa1 (pv 0))) aa))))),6]
 have hz:z.length<=sizeLine:=NV hl ∅;show#[7,z,26];refine BB (z:=z) (λi g f=>H=f/\((cp z).take i).all (λc=>decide (c∈pZ))=true/\∃v,g=[some (.str z),v]) #[22,none,2] ?_ ?_
 .rintro i c g f m ⟨rfl,d,v,rfl⟩;show#[7876];rw[lh,Cu];cases j:decide (c∈pZ)with
  |true=>exact aS #[2,sQ (vO m) d j,7]
  |false=>
   refine aP ?_;have e:a9 (cp z)=false:=by unfold a9;rw[BL (p:=λc=>decide (c∈pZ)) (vO m) j,OM];rfl
   rwa[e]at k
 .rintro g f ⟨rfl,d,v,rfl⟩;have n:z.cps.size=(cp z).length:=(bh z).symm;rw[n,OV]at d;unfold a9 at k;rw[d,Bool.and_true]at k;show#[7,z,2,hz,876];cases b:cp z with
  |nil=>
   have l0:z.length=0:=by rw[<-bh,b];rfl
   rw[b]at k;rw[l0];exact aS k
  |cons a l=>
   have l0:0<z.length:=by rw[<-bh,b];exact Nat.zero_lt_succ _
   rw[N2 (show(0:Int)<((z.length:Nat):Int) by lia)];refine aP #[7,z,2,hz,86];rw[Jt,b];rwa[b]at k
theorem cc:Ca 1 "_law_count" ["_law_word","_law_most"] Ik:=by
 refine cl 67 ["_law_word","_law_most","_law_k"] λH Q E nd l h=> ?_;obtain⟨z,m,rfl,g,k⟩:=h;show#[_,(ae (wfor (wrng hT.range_ (ak bg (pv 1) aa)) (wname 2 nd)
     (au (aC (wpt aG (pv 0) (aO aY ⋯ hT.str_ OF (pa1 (pv 2))))
       (sret (pv 2))
       ao)))
   (sret (lV ig aa))),6]
 show#[787996];rw[show((m:Int)+1).toNat=m+1 by lia];refine cZ (n:=m+1) (λi c a=>H=a/\(∀j,j<i->cp z≠decs j)/\∃v,c=[some (.str z),XQ m,v]) #[2,λj d=>(),none,2] ?_ ?_
 .rintro i c a f ⟨rfl,b,v,rfl⟩;rw[Qq];show#[777,De (PJ (show i<200 by lia) #[9]),276];rw[yZ];by_cases e:cp z=decs i
  .rw[N2 e];rw[JQ () e]at k;exact aP #[7,k]
  .rw[NX e];refine aS #[2,λj d=> ?_,7];by_cases h:j=i
   .rw[h];exact e
   .exact b j ()
 .rintro c a ⟨rfl,b,v,rfl⟩;rw[GF b]at k;show#[7,k]
theorem lY:Ca 1 "_law_is_number" ["_law_word"] (MJ de):=by
 refine cl 68 ["_law_word","_law_sign"] λH Q E nd B h=> ?_;obtain⟨z,rfl,hl,k⟩:=h;show#[_,(ae (aC (PW.pt (fX (wpt aG (aI eW (pv 0) aU (aQ aa)) aw) (dR (wpt i7 (pv 0) aw))))
     (au (wset 0 nd (aI eW (pv 0) (aQ aa) aU)))
     ao)
   (ae (wfor (vd (pv 0)) (wname 1 nd)
     (au (aC (dk fz (pv 1) aw ⋯)
       (sret i5)
       ao)))
   (sret (E4 (wpe aG (pv 0) aw) (dz (dS (wpe i7 (pv 0) aw) (dz (wpe i7 (jB iQ (pv 0) aa (λ_ _=>rfl)) aw)))))))),6]
 rw[Fq]at k;have hz:z.length<=sizeLine:=NV hl ∅;refine aq (λf a=>H=a/\∃y:Str,cp y=noM (cp z)/\y.length<=sizeLine/\f=[some (.str y),none]) ?_ λn=> ?_
 .rintro f a ⟨rfl,y,t,A,rfl⟩;rw[<-t]at k;show#[7,y,26];refine BB (z:=y) (λi f a=>H=a/\((cp y).take i).all (λc=>decide (c∈vJ))=true/\∃v,f=[some (.str y),v]) #[22,none,2] ?_ ?_
  .rintro i c f a q ⟨rfl,l,v,rfl⟩;show#[7876];rw[lh,JJ];cases b:decide (c∈vJ)with
   |true=>exact aS #[2,sQ (vO q) l b,7]
   |false=>
    refine aP ?_;rwa[BL (p:=λc=>decide (c∈vJ)) (vO q) b]at k
  .rintro f a ⟨rfl,l,v,rfl⟩;have x:y.cps.size=(cp y).length:=(bh y).symm;rw[x,OV]at l;rw[l,OO]at k;show#[7276];rw[wD];by_cases g:cp y=[48]
   .rw[N2 g,SY]at k;rw[N2 g];exact aP k
   rw[NX g,Rk]at k;rw[NX g];refine aS #[727,bJ (λb=> ?_) λb=> ?_]
   .have m:cp y≠[]:=λe=>uk.mp b (jU.mpr e);rw[NX m]at k;obtain⟨c,r,o⟩:=List.exists_cons_of_ne_nil m;show#[7,y,0,c,22,A,by show atI (cp y) 0=some c;rw[o];exact Nu c r,26];have:decide (V.str #[#v[c]]=V.str "0")=decide ((cp y).head?=some 48):=by rw[o,show V.str ("0":Str)=V.str (tx [48])from rfl,LF,Ox];show#[λe=>by rw[e];rfl,λe=>OA e]
    rw[this];exact k
   .have m:cp y=[]:=jU.mp (PV λe=>b (uk.mpr e));rwa[m]at k
 .show#[77,z,2,hz,276];have s:decide (V.str (Txt.slice z none (some 1))=V.str "-")=decide ((cp z).head?=some 45):=by rw[show V.str ("-":Str)=V.str (tx [45])from rfl,pW,GC,Ox];exact Ej _ _
  rw[s];by_cases d:(cp z).head?=some 45
  .rw[N2 d];refine aP #[7276];rw[show V.str ("-0":Str)=V.str (tx [45,48])from rfl,pW];have u:cp z≠[]:=λe=>by rw[e]at d;cases d
   by_cases j:cp z=[45,48]
   .rw[N2 j];exact aS (n _ _ #[2,z,by unfold noM;rw[NW λh=>h.2 j],hz,2])
   .rw[NX j];exact aP #[77,z,2,hz,n _ _ #[21,by unfold noM;rw[NZ #[d,j],yd u],NV (SU z _ _) hz,2]]
  .rw[NX d];exact aS (aS (n _ _ #[2,z,by unfold noM;rw[NW λh=>d h.1],hz,2]))
theorem gb:Ca 1 "_law_is_set" ["_law_word","_law_many"] K6:=by
 refine cl 69 ["_law_word","_law_many","_law_made_here"] λH Q E nd u h=> ?_;obtain⟨z,n,rfl,g,hl,k⟩:=h;show#[_,(ae (wset 2 nd (cz (K:=K) ⋯ O5 QD QE (jH (K:=K) ⋯) aw (pa1 (dr ["_law_sign"] ["_law_word"] [0] (vd (aI eW aw aU (aQ (pv 1)))) (wnY 0) (cH (dk ni (pv 0) (pv 1) ⋯)) (pv 0)))))
   (sret (E4 (wpe aG (pv 0) aw) (dz (dS (wpe i7 (pv 0) aw) (dz (wpe aG (pv 2) (pv 0)))))))),6]
 have hz:z.length<=sizeLine:=NV hl ∅;show#[2777,LN,76];have p:cp (Txt.slice "abcdefgh" none (some (n:Int)))=(List.range n).map (97+ ·):=Cw g;refine Bx (λc=>decide (c∈cp z)) (λc=> .str #[#v[c]]) (NV (SU _ _ _) LN) (λi c vs H' R S a s j r=> ?_) λD H' t j d=> ?_
 .obtain⟨v,rfl⟩:=aX s;have q:=r [some (.str #[#v[c]])] H' rfl (Same.refl _);show#[77876];rw[lh];cases a:decide (c∈cp z)with
  |true=>rw[a]at q;exact aP #[7,q]
  |false=>rw[a]at q;exact aS q
 .rw[show(Txt.slice "abcdefgh" none (some (n:Int))).cps.toList=(List.range n).map (97+ ·)from p]at d;have m:i6 (λc=>decide (c∈cp z)) (λc=>V.str #[#v[c]]) ((List.range n).map (97+ ·))=((((List.range n).map (97+ ·)).filter λc=>decide (c∈cp z)).map λc=>(#[#v[c]]:Str)).map V.str:=by unfold i6;rw[OE];rfl
  rw[m]at d;have o:=EL g (cp z);have l8:(((List.range n).map (97+ ·)).filter λc=>decide (c∈cp z)).length<=8:=NV (OW _ _) (by rw[My,O2];exact g);generalize ((List.range n).map (97+ ·)).filter (λc=>decide (c∈cp z))=l at*;show#[3,SqL.of d,66]
  .rw[OE,My];have:(l.map ((λx:Str=>x.length)∘λc=>(#[#v[c]]:Str))).sum<=8:=by rw[show(λx:Str=>x.length)∘(λc=>(#[#v[c]]:Str))=λ_:Nat=>1 from rfl];rw[qN];exact l8
   have h0:("":Str).length=0:=rfl;rw[h0];lia
  have:=k H' j;rw[o]at this;show#[7276];rw[rz,show V.str ("-":Str)=V.str (tx [45])from rfl,pW];by_cases b:cp z=[45]
  .rw[N2 b,SY]at this;rw[N2 b];exact aP this
  rw[NX b,Rk]at this;rw[NX b];refine aS #[727,bJ (λa=> ?_) λa=> ?_]
  .have f:cp z≠[]:=λe=>uk.mp a (jU.mpr e);rw[NX f]at this;show#[7726];rw[show decide (V.str (tx l)=V.str z)=decide (l=cp z) by rw[Ox];show#[λe=>(kF.mp e.symm).symm,λe=>(kF.mpr e.symm).symm]]
   exact this
  .have f:cp z=[]:=jU.mp (PV λe=>a (uk.mpr e));rwa[N2 f]at this
theorem fo:Ca 2 "_law_numbers" ["_law_words"] (MK K):=by
 refine cl 70 ["_law_words"] λH Q E nd j h=> ?_;obtain⟨a,ws,rfl,b,d,k⟩:=h;show#[_,(sret (wpe aG (wlen K hT.len_ (dr ["_law_word"] [] [] (wil K (pv 0)) (wnY 0) (cH (fi (cj (wcal lY j (pa1 (pv 0)))))) (pv 0))) aa)),6];show#[7,a,2,#[_,b],6];refine bO (λv=> !de (cp (om v))) (λv=> .str (om v)) b (by rw[My];exact NV d.few ∅) (λi v vs H' R S m l e f=> ?_) λg H' o e hl=> ?_
 .obtain⟨p,rfl⟩:=aX l;obtain⟨z,rfl,hz⟩:=dI m;have n:=N5 hz;have q:if(!de (cp z))=true then _ else _:=f [some (.str z)] H' rfl (Same.refl _);show#[7,z,2,NV (d.ok z n).1.1 ∅,76];cases c:de (cp z)with
  |true=>rw[c]at q;exact aS q
  |false=>rw[c]at q;exact aP #[7,q]
 .rw[kY (λz=> !de (cp z)) (λz=>z)]at hl;have:=k H' e;show#[g,7, .inl (SqL.of hl),26];rw[yp];exact this
theorem lZ:Ca 2 "_law_even_told" ["_law_rest"] (Ey K kA "ok"):=by
 refine cl 71 ["_law_rest"] λH Q E nd d h=> ?_;obtain⟨a,ws,rfl,c,g,k⟩:=h;show#[_,(ae (aC (PW.pt (fX (wpt aG (wlen K hT.len_ (pv 0)) aa) (dR (wpt xg (wcal cc d (pa2 (aD K (pv 0) aa) aa)) aa))))
     (au (aC (wpt xg (wcal cc d (pa2 (aD K (pv 0) aa) (wcal cc d (pa2 (aD K (pv 0) aa) aa)))) aa)
       (sret aw)
       ao))
     ao)
   (sret aw)),6]
 show#[7,a,7, .inl c,276];rw[My,ml];by_cases b:ws.length=2
 .rw[N2 b];obtain⟨x,y,rfl⟩:=ik b;refine aP #[7,a,3,c,aR (i:=0) rfl,x,(8),246];show#[876];rw[GH];cases e:bj 8 (cp x)with
  |none=>
   have:=k H (Same.refl _);rw[JN e]at this;exact aS this
  |some n=>
   have:=k H (Same.refl _);rw[JM e]at this;refine aP #[7,a,3,c,aR (i:=1) rfl,7,a,3,c,aR (i:=0) rfl,x,(8),246];rw[e];show#[y,n,2,NV (fF e) ∅,6];show#[876];rw[GH];cases f:(bj n (cp y)).isSome with
   |true=>rw[f]at this;exact aP this
   |false=>rw[f]at this;exact aS this
 .rw[NX b];have:=k H (Same.refl _);rw[xV b]at this;exact aS (aS this)
theorem nB:Ca 2 "_law_net_told" ["_law_rest"] (Ey K sE "ok"):=by
 refine cl 72 ["_law_rest","_law_points","_law_tie"] λH Q E nd hr h=> ?_;obtain⟨a,ws,rfl,q,hw,k⟩:=h;show#[_,(ae (wset 1 nd (lV ig aa))
   (ae (aC (PW.pt (fX (wpt fY aa (wlen K hT.len_ (pv 0))) (dR (wpt fY (wlen K hT.len_ (pv 0)) aa))))
     (au (wset 1 nd (wcal cc hr (pa2 (aD K (pv 0) aa) aa))))
     ao)
   (ae (aC (wpt fY (pv 1) aa)
     (sret aw)
     ao)
   (ae (wfor (wil K (aI (a5 (K:=K) ⋯) (pv 0) (aQ aa) aU)) (wname 2 nd)
     (au (aC (PW.pt (gU (wpt i7 (aV bX ⋯ hT.len_ P5 (pa1 (pv 2))) aa) (gU (dk fz (jB iQ (pv 2) aa (λ_ _=>rfl)) (aI eW aw aU (aQ (pv 1))) ⋯) (iI (dk fz (jB iQ (pv 2) aa (λ_ _=>rfl)) (aI eW aw aU (aQ (pv 1))) ⋯)))))
       (sret aw)
       ao)))
   (sret aw))))),6]
 refine aq (λb f=>H=f/\b=[XS a,some (.int (-1)),none]) ?_ λg=>#[7,g _ _ #[22]];rintro b f ⟨rfl,rfl⟩;refine aq (λb f=>H=f/\((∃(x:Str)(r:r9)(n:Nat),ws=x::r/\r.length<=8/\bj 9 (cp x)=some n/\b=[XS a,XQ n,none])\/(sE ws=false/\b=[XS a,some (.int (-1)),none]))) ?_ λg=> ?_
 .rintro b f ⟨rfl,⟨x,r,n,rfl,l8,e,rfl⟩|⟨ab,rfl⟩⟩
  rotate_left
  .have:=k H (Same.refl _);rw[ab]at this;show#[787,aP this]
  rw[Fw e,N2 l8,OO]at k;have J:=fF e;show#[7876];rw[NX (show¬((n:Int)<0) by lia)];refine aS #[77,a,7,q,λp hp=> ?_];have O:dE ((x::r).map V.str) (some 1) none=r.map V.str:=bG _ 1;rw[O];have L:=Same.new (o:= .lst (r.map V.str)) hp;have B:upd H p (.lst (r.map V.str)) p=some (.lst (r.map V.str)):=ag;generalize upd H p (.lst (r.map V.str))=G at*;show#[p,2,#[_,SqL.of B],6];refine ba (λi b f=>G=f/\(r.take i).all (λz=>ja n (cp z))=true/\∃v,b=[XS a,XQ n,v]) #[22,none,2] (λi b f _ h=>by obtain⟨rfl,_⟩:=h;exact SqL.of B) ?_ ?_
  .rintro i v b f U ⟨rfl,s,v0,rfl⟩;obtain⟨z,rfl,hz⟩:=dI U;have M:=N5 hz;have u:=(hw.tail.ok z M).1;have t:ja n (cp z)=false->Q (.str "line") G:=λh=>by have:=k G L;rwa[v9 (p:=λz=>ja n (cp z)) M h]at this
   show#[7,z,2,u.line,276];have N:decide (V.int (z.length:Int)=V.int 2)=decide ((cp z).length=2):=by rw[ml,bh]
   rw[N];by_cases m:(cp z).length=2
   .rw[N2 m];obtain⟨c,d,l⟩:=ik m;refine aS #[7,z,0,c,22,u.line,by show atI (cp z) 0=some c;rw[l];exact Nu c _,777,Kp,876];rw[lh,uc J];cases y:decide (48<=c/\c<48+n)with
    |false=>exact aP (aP (t (by rw[l,uP,y];rfl)))
    |true=>
     refine aS #[7,z,(1),d,22,u.line,by show atI (cp z) 1=some d;rw[l];exact bH (xs:=[c,d]) (j:=1) rfl,777,Kp,876];rw[lh,uc J];cases A:decide (48<=d/\d<48+n)with
     |false=>exact aP (t (by rw[l,uP,A,OM]))
     |true=>exact aS #[2,Ei hz s (by rw[l,uP,y,A];rfl),7]
   .rw[NX m];exact aP (aP (t (HR m)))
  .rintro b f ⟨rfl,s,v,rfl⟩;rw[My,OV]at s;have:=k G L;rwa[s]at this
 .show#[7,a,7, .inl q,876];rw[My];cases ws with
  |nil=>exact aS (aS (g _ _ #[2, .inr #[22]]))
  |cons x r=>
   rw[N2 (show(0:Int)<(((x::r).length:Nat):Int) by rw[Oa];lia)];refine aP #[7,a,7, .inl q,876];rw[My];by_cases l8:r.length<=8
   .rw[N2 (show(((x::r).length:Nat):Int)<10 by rw[Oa];lia)];refine aP #[7,a,3,q,aR (i:=0) rfl,x,(9),246];cases e:bj 9 (cp x)with
    |none=>exact g _ _ #[2, .inr #[Fx e,2]]
    |some n=>exact g _ _ #[2, .inl #[x,r,n,2,l8,e,2]]
   .rw[NX (show¬(((x::r).length:Nat):Int)<10 by rw[Oa];lia)];exact aS (g _ _ #[2, .inr #[xA l8,2]])
theorem lX:Ca 2 "_law_sets_told" ["_law_rest"] (Ey K kf "house"):=by
 refine cl 73 ["_law_rest","_law_many"] λH Q E nd m h=> ?_;obtain⟨a,ws,rfl,j,s,k⟩:=h;show#[_,(ae (wset 1 nd (lV ig aa))
   (ae (aC (wpt gX (wlen K hT.len_ (pv 0)) aa)
     (au (wset 1 nd (wcal cc m (pa2 (aD K (pv 0) aa) aa))))
     ao)
   (ae (aC (PW.pt (gU (wpt fY (pv 1) aa) (iI (wpt gX (wlen K hT.len_ (dr ["_law_word"] ["_law_many"] [1] (wil K (aI (a5 (K:=K) ⋯) (pv 0) (aQ aa) aU)) (wnY 0) (cH (fi (cj (wcal gb m (pa2 (pv 0) (pv 1)))))) (pv 0))) aa))))
     (sret aw)
     ao)
   (sret aw)))),6]
 refine aq (λb c=>H=c/\b=[XS a,some (.int (-1))]) ?_ λd=>#[7,d _ _ #[22]];rintro b c ⟨rfl,rfl⟩;refine aq (λb c=>H=c/\((∃(x:Str)(r:r9)(n:Nat),ws=x::r/\bj 8 (cp x)=some n/\b=[XS a,XQ n])\/(kf ws=false/\b=[XS a,some (.int (-1))]))) ?_ λd=> ?_
 .rintro b c ⟨rfl,⟨x,r,n,rfl,e,rfl⟩|⟨B,rfl⟩⟩
  rotate_left
  .have:=k H (Same.refl _);rw[B]at this;show#[787,aP (aP this)]
  rw[A2 e]at k;have N:=fF e;show#[7876];rw[NX (show¬((n:Int)<0) by lia)];refine aS #[77,a,7,j,λp J=> ?_];have y:dE ((x::r).map V.str) (some 1) none=r.map V.str:=bG _ 1;rw[y];have t:=Same.new (o:= .lst (r.map V.str)) J;have l:upd H p (.lst (r.map V.str)) p=some (.lst (r.map V.str)):=ag;generalize upd H p (.lst (r.map V.str))=G at*;show#[p,2,#[_,SqL.of l],6];refine bO (λv=> !dJ n (cp (om v))) (λv=> .str (om v)) (SqL.of l) (by rw[My];exact NV s.tail.few ∅) (λi v vs H' R S M L t A=> ?_) λg H' hg O hl=> ?_
  .obtain⟨v0,rfl⟩:=aX L;obtain⟨z,rfl,hz⟩:=dI M;have zm:=N5 hz;show#[77,z,n,2,N,NV (s.tail.ok z zm).1.1 ∅,λu U=>#[76]];have q:if(!dJ n (cp z))=true then _ else _:=A [some (.str z)] u rfl U;cases f:dJ n (cp z)with
   |true=>rw[f]at q;exact aS q
   |false=>rw[f]at q;exact aP #[7,q]
  .rw[kY (λz=> !dJ n (cp z)) (λz=>z)]at hl;have:=k H' (t.trans O);show#[g,7, .inl (SqL.of hl),876];rw[Cr (p:=λz=>dJ n (cp z))];cases f:r.all λz=>dJ n (cp z)with
   |true=>rw[f]at this;exact aS this
   |false=>rw[f]at this;exact aP this
 .show#[7,a,7, .inl j,876];rw[My];cases ws with
  |nil=>exact aS (d _ _ #[2, .inr #[22]])
  |cons x r=>
   rw[N2 (show(0:Int)<(((x::r).length:Nat):Int) by rw[Oa];lia)];refine aP #[7,a,3,j,aR (i:=0) rfl,x,(8),246];cases e:bj 8 (cp x)with
   |none=>exact d _ _ #[2, .inr #[A3 e,2]]
   |some n=>exact d _ _ #[2, .inl #[x,r,n,2,e,2]]
theorem k7:Ca 3 "_law_table_told" ["_law_rest"] (Ey K fK "ok"):=by
 refine cl 74 ["_law_rest","_law_prime","_law_many"] λH Q E nd j h=> ?_;obtain⟨a,ws,rfl,b,hw,k⟩:=h;show#[_,(ae (aC (PW.pt (gU (wpt fY (wlen K hT.len_ (pv 0)) aa) (iI (wpt aG (aD K (pv 0) aa) aw))))
     (sret aw)
     ao)
   (ae (wset 1 nd (wcal cc j (pa2 (aD K (pv 0) aa) aa)))
   (ae (wset 2 nd (wcal cc j (pa2 (aD K (pv 0) aa) aa)))
   (ae (aC (PW.pt (gU (wpt fY (pv 1) aa) (gU (wpt fY (pv 2) aa) (iI (wpt gX (wlen K hT.len_ (dr ["_law_k"] ["_law_prime"] [1] (CI ⋯ hT.range_ (pa2 aa (pv 1))) (wnY 0) (cH (wpt aG (ak aK (pv 1) (pv 0)) aa)) (pv 0))) aa)))))
     (sret aw)
     ao)
   (ae (aC (PW.pt (gU (fi (cj (wcal fo j (pa1 (aI (a5 (K:=K) ⋯) (pv 0) (aQ aa) aU))))) (gU (wpt gX (ak fj (wlen K hT.len_ (pv 0)) aa) (ak dB aa (pv 2))) (iI (wpt gX (ak aK (ak fj (wlen K hT.len_ (pv 0)) aa) (aV (DT ⋯) ⋯ hT.max_ RU (pa2 aa (pv 2)))) aa)))))
     (sret aw)
     ao)
   (sret aw)))))),6]
 show#[7,a,7, .inl b,876];rw[My];by_cases u:2<=ws.length
 rotate_left
 .have:=k H (Same.refl _);rw[sR u]at this;rw[N2 (show((ws.length:Nat):Int)<2 by lia)];exact aP (aP this)
 rw[NX (show¬((ws.length:Nat):Int)<2 by lia)];obtain⟨x,y,r,rfl⟩:=wA u;have O:=hw.tail.tail;refine aS #[7,a,3,b,aR (i:=0) rfl,276];rw[show V.str ("1":Str)=V.str (tx [49])from rfl,pW];by_cases c:cp x=[49]
 .have:=k H (Same.refl _);rw[jc,c,show(eR [49]&&decide (NumText.digitsVal [49]∈nopr))=false from rfl,Rz]at this;rw[N2 c];exact aP this
 rw[NX c];refine aS #[7,a,3,b,aR (i:=0) rfl,x,(99),246];show#[7,a,3,b,aR (i:=1) rfl,y,(8),246];show#[7876];rw[GG];cases ex:bj 99 (cp x)with
 |none=>
  have:=k H (Same.refl _);rw[yX ex]at this;exact aP (aP this)
 |some m=>
 refine aS #[7876];rw[GG];cases f:bj 8 (cp y)with
 |none=>
  have:=k H (Same.refl _);rw[Cg f]at this;exact aP (aP this)
 |some n=>
 have af:=fF ex;have n8:=fF f;have m1:¬m=1:=λe=>c ((jN.mp ex).2.trans (by rw[e];rfl));rw[Ek ex f]at k;rw[uh,uh];have pl:=CF m af;rw[NX m1]at pl;refine aS #[7,(2),(m:Int),2,#[4499],6];refine nH (λi=>decide (V.int ((m:Int) % (2+(i:Nat)))=V.int 0)) (λi=> .int (2+(i:Nat))) (NV (show((m:Int) -2).toNat<=99 by lia) ∅) (λi vs H' R S hi U d L=> ?_) λg H' hg d hl=> ?_
 .obtain⟨v0,rfl⟩:=aX U;have q:=L [some (.int (2+(i:Nat)))] H' rfl (Same.refl _);show#[7789276];cases v:decide (V.int ((m:Int) % (2+(i:Nat)))=V.int 0)with
  |true=>rw[v]at q;exact aP #[7,q]
  |false=>rw[v]at q;exact aS q
 show#[g,7, .inl (SqL.of hl),876];generalize (gw (λi=>decide (V.int ((m:Int) % (2+(i:Nat)))=V.int 0)) (λi=> .int (2+(i:Nat))) ((m:Int) -2).toNat).length=q at*;by_cases B:q=0
 rotate_left
 .rw[N2 (show(0:Int)<(q:Nat) by lia)];have:=k H' d;rw[pl,NX B]at this;exact aP this
 rw[NX (show¬(0:Int)<(q:Nat) by lia)];rw[pl,N2 B,show(!false&&true)=true from rfl,OO]at k;refine aS #[77,a,7,d.seq b,λp M=> ?_];have J:dE ((x::y::r).map V.str) (some 2) none=r.map V.str:=bG _ 2;rw[J];have ar:=d.trans (Same.new (o:= .lst (r.map V.str)) M);have N:upd H' p (.lst (r.map V.str)) p=some (.lst (r.map V.str)):=ag;generalize upd H' p (.lst (r.map V.str))=G at*;show#[p,r,2,SqL.of N,O,λG2 ax=>#[76]];have l:=ar.trans ax;replace k:=k G2 l;cases A:r.all λz=>de (cp z)with
 |false=>
  rw[A]at k;exact aP (aP k)
 |true=>
 rw[A,OO]at k;refine aS #[7,a,7, .inl (l.seq b),86];rw[My];rw[show(((x::y::r).length:Nat):Int) -2=(r.length:Nat) by rw[Oa,Oa];lia];show#[78, .inl #[44],876];rw[EO]at k;cases s:decide (8*(n:Int)<(r.length:Nat))with
 |true=>
  rw[s]at k;exact aP (aP k)
 |false=>
 rw[s]at k;refine aS #[7,a,7, .inl (l.seq b),86];rw[My,show(((x::y::r).length:Nat):Int) -2=(r.length:Nat) by rw[Oa,Oa];lia];show#[7178,by split<;>lia,876];cases t:decide (0<((r.length:Nat):Int) % (if(n:Int)>1 then(n:Int)else 1))with
 |true=>
  rw[t]at k;exact aP k
 |false=>
  rw[t]at k;exact aS k
theorem qV:Ca 4 "_law_making" ["_law_word","_law_rest"] (Ex K lnM):=by
 refine cl 75 ["_law_word","_law_rest","_law_fine"] λH Q E nd p h=> ?_;obtain⟨v,a,ws,rfl,j,r,k⟩:=h;show#[_,(ae (aC (wpt aG (pv 0) aw)
     (sret (wcal lZ p (pa1 (pv 1))))
     ao)
   (ae (aC (wpt aG (pv 0) aw)
     (sret (wcal nB p (pa1 (pv 1))))
     ao)
   (ae (aC (wpt aG (pv 0) aw)
     (sret (wcal k7 p (pa1 (pv 1))))
     ao)
   (ae (aC (PW.pt (gU (wpt aG (pv 0) aw) (gU (wpt aG (pv 0) aw) (iI (wpt aG (pv 0) aw)))))
     (sret (wcal lX p (pa1 (pv 1))))
     ao)
   (ae (wset 2 nd (dS (wpe aG (pv 0) aw) (dS (wpe aG (wlen K hT.len_ (pv 1)) aa) (dz (wcal bR p (pa1 (aD K (pv 1) aa)))))))
   (ae (aC (PW.pt (fX (wpt aG (wlen K hT.len_ (pv 1)) aa) (dR (cj (wcal bR p (pa1 (aD K (pv 1) aa)))))))
     (ae (aC (wpt aG (pv 0) aw)
       (au (wset 2 nd (wcal bR p (pa1 (aD K (pv 1) aa)))))
       ao)
     (au (aC (PW.pt (gU (wpt aG (pv 0) aw) (iI (wpt aG (pv 0) aw))))
       (au (wset 2 nd (wcal gb p (pa2 (aD K (pv 1) aa) aa))))
       ao)))
     ao)
   (sret (aD K (cf [.str "line", .str "name"] #[9]) (aO uj ⋯ hT.int_ RT (pa1 (pv 2))))))))))),6]
 refine aq (λe c=>H=c/\¬v= "even"/\e=[some (.str v),XS a,none]) ?_ λd=>#[727,gN (λl=>#[7,a,ws,2,j,r,λH' f=>by
  have:=k H' f;unfold lnM at this
  rwa [NZ l,mq]at this]) λl=>d _ _ #[2,l,2]]
 rintro e c ⟨rfl,l,rfl⟩;refine aq (λe c=>H=c/\¬v= "net"/\e=[some (.str v),XS a,none]) ?_ λd=>#[727,gN (λq=>#[7,a,ws,2,j,r,λH' f=>by
  have:=k H' f;unfold lnM at this
  rwa [NW l,NZ q,mq]at this]) λq=>d _ _ #[2,q,2]]
 rintro e c ⟨rfl,q,rfl⟩;refine aq (λe c=>H=c/\¬v= "table"/\e=[some (.str v),XS a,none]) ?_ λd=>#[727,gN (λs=>#[7,a,ws,2,j,r,λH' f=>by
  have:=k H' f;unfold lnM at this
  rwa [NW l,NW q,NZ s,mq]at this]) λs=>d _ _ #[2,s,2]]
 rintro e c ⟨rfl,s,rfl⟩;refine aq (λe c=>H=c/\¬(v= "bases"\/v= "rings"\/v= "flats")/\e=[some (.str v),XS a,none]) ?_ λd=> ?_
 rotate_left
 .have t:(v= "bases"\/v= "rings"\/v= "flats")->Ey K kf "house" [.ref a] H Q E:=λh=>#[a,ws,2,j,r,λH' f=>by have:=k H' f;unfold lnM at this;rwa[NW l,NW q,NW s,NZ h,mq]at this]
  show#[727,gN (λu=>aP #[7,t (.inl u)]) λu=>#[727,gN (λm=>aP #[7,t (.inr (.inl m))]) λm=>#[727,gN (λn=>#[7,t (.inr (.inr n))]) λn=>d _ _ #[2,λh=>h.elim u λh=>h.elim m n,2]]]]
 rintro e c ⟨rfl,u,rfl⟩;rw[FJ l q s u,FZ]at k;refine aq (λe c=>H=c/\e=[some (.str v),XS a,some (.bl (decide (v= "other")&&cw ws))]) ?_ λd=> ?_
 rotate_left
 .show#[7276];rw[nY];by_cases h:v= "other"
  .rw[N2 h,OO]at d;rw[N2 h];refine aP #[7,a,7, .inl j,276];rw[My,Bw];by_cases B:ws.length=1
   .obtain⟨x,rfl⟩:=RK.mp B;exact aP #[7,a,3,j,aR (i:=0) rfl,x,2,NV r.head.1.1 ∅,d _ _ #[22]]
   .rw[t6 B]at d;rw[NX B];exact aS (d _ _ #[22])
  .rw[NX h]at d;rw[NX h];exact aS (d _ _ #[22])
 rintro e c ⟨rfl,rfl⟩;refine aq (λe c=>Same H c/\∃b,e=[some (.str v),some (.ref a),some (.bl b)]/\jL v ws=b) ?_ λd=> ?_
 .rintro e c ⟨f,b,rfl,hb⟩;show#[by show 2<=sizeLine;decide,λg M=>#[7, .inr #[b,26]]];show#[g,3,SqL.of ag,Km b,6];have:=k _ (f.trans (Same.new (o:= .lst [.str "line", .str "name"]) M));rwa[hb]at this
 show#[7,a,7, .inl j,276];rw[My,ml];have one:¬v= "side"->¬(v= "out"\/v= "drawn")->jL v ws=(decide (v= "other")&&cw ws):=λJ L=>by
  unfold jL;rw[NW J,NW L];by_cases h:v= "other"
  .rw[NZ h,N2 h,OO]
  .rw[NW h,NX h,Rz]
 have no:(cw ws=false)->i9 ws=false->eQ ws=false->jL v ws=(decide (v= "other")&&cw ws):=λJ L N=>by unfold jL;rw[J,L,N,OM];simp only[ite_self]
 by_cases l2:ws.length=2
 rotate_left
 .rw[NX l2];refine aS (aS (d _ _ #[Same.refl _,76]));unfold jL;rw[uO l2,rB l2];by_cases h:v= "other"
  .rw[NZ h,N2 h,OO]
  .rw[NW h,NX h,Rz];simp only[ite_self]
 rw[N2 l2];obtain⟨x,y,rfl⟩:=ik l2;have hx:=r.head;have A:=r.tail.head;refine aP #[7,a,3,j,aR (i:=0) rfl,x,2,NV hx.1.1 ∅,76];cases nx:a9 (cp x)with
 |false=>exact aS (d _ _ #[Same.refl _,7,no rfl (by rw[Ef,nx];rfl) (by rw[vG,nx];rfl)])
 |true=>
 refine aP ?_;refine aq (λe c=>H=c/\e=[some (.str v),some (.ref a),some (.bl (if v= "side" then a9 (cp y)else(decide (v= "other")&&cw [x,y])))]) ?_ λz=> ?_
 rotate_left
 .show#[7276];rw[nY];by_cases h:v= "side"
  .rw[NZ h]at z;rw[N2 h];exact aP #[7,a,3,j,aR (i:=1) rfl,y,2,NV A.1.1 ∅,z _ _ #[22]]
  .rw[NW h]at z;rw[NX h];exact aS (z _ _ #[22])
 rintro e c ⟨rfl,rfl⟩;have t:(v= "out"\/v= "drawn")->∀G,Same H G->jL v [x,y]=dJ 8 (cp y):=λh G _=>by unfold jL;rw[NZ h,NW (by rcases h with rfl|rfl<;>decide),NW (by rcases h with rfl|rfl<;>decide),vG,nx,OO]
 show#[7276];rw[nY];by_cases m:v= "out"
 .rw[N2 m];exact aP (aP #[7,a,3,j,aR (i:=1) rfl,y,(8),24,NV A.1.1 ∅,λG f=>d _ _ #[f,7,t (.inl m) G f]])
 rw[NX m];refine aS #[7276];rw[nY];by_cases n:v= "drawn"
 .rw[N2 n];exact aP #[7,a,3,j,aR (i:=1) rfl,y,(8),24,NV A.1.1 ∅,λG f=>d _ _ #[f,7,t (.inr n) G f]]
 rw[NX n];refine aS (d _ _ #[Same.refl _,76]);by_cases h:v= "side"
 .rw[NZ h];unfold jL;rw[NW (by rw[h];decide),NZ h,Ef,nx,OO]
 .rw[NW h];exact one h λh=>h.elim m n
theorem ny:Ca 3 "_law_question" ["_law_word","_law_rest"] (Ex K lnA):=by
 refine cl 76 ["_law_word","_law_rest","_law_fine"] λH Q E nd u h=> ?_;obtain⟨v,a,ws,rfl,m,z,k⟩:=h;show#[_,(ae (wset 2 nd i5)
   (ae (aC (PW.pt (fX (wpt gX (wlen K hT.len_ (pv 1)) aa) (dR (cj (wcal bR u (pa1 (aD K (pv 1) aa)))))))
     (ae (aC (dk (eu (K:=K) ⋯) (pv 0) (cf [.str "bases", .str "rings", .str "flats", .str "frees", .str "two", .str "three", .str "all", .str "counts"] #[9]) ⋯)
       (au (wset 2 nd (wpe aG (wlen K hT.len_ (pv 1)) aa)))
       ao)
     (ae (aC (wpt aG (pv 0) aw)
       (au (wset 2 nd (dS (wpe fY (wlen K hT.len_ (pv 1)) aa) (dz (wcal fo u (pa1 (aI (a5 (K:=K) ⋯) (pv 1) (aQ aa) aU)))))))
       ao)
     (ae (aC (wpt aG (pv 0) aw)
       (au (wset 2 nd (dS (wpe aG (wlen K hT.len_ (pv 1)) aa) (dz (wcal fo u (pa1 (aI (a5 (K:=K) ⋯) (pv 1) (aQ aa) aU)))))))
       ao)
     (ae (aC (PW.pt (gU (wpt aG (pv 0) aw) (iI (wpt aG (pv 0) aw))))
       (au (wset 2 nd (dS (wpe aG (wlen K hT.len_ (pv 1)) aa) (dz (wcal gb u (pa2 (aD K (pv 1) aa) aa))))))
       ao)
     (au (aC (PW.pt (gU (wpt aG (pv 0) aw) (iI (wpt aG (pv 0) aw))))
       (au (wset 2 nd (dS (wpe aG (wlen K hT.len_ (pv 1)) aa) (dz (wcal bR u (pa1 (aD K (pv 1) aa)))))))
       ao))))))
     ao)
   (sret (aD K (cf [.str "line", .str "name"] #[9]) (aO uj ⋯ hT.int_ RT (pa1 (pv 2))))))),6]
 rw[FL,FZ]at k;refine aq (λj f=>H=f/\j=[some (.str v),XS a,some (.bl false)]) ?_ λt=>t _ _ #[22];rintro j f ⟨rfl,rfl⟩;refine aq (λj f=>Same H f/\∃b,j=[some (.str v),some (.ref a),some (.bl b)]/\oR v ws=b) ?_ λt=> ?_
 .rintro j f ⟨d,b,rfl,hb⟩;show#[by show 2<=sizeLine;decide,λg A=>#[7, .inr #[b,26]]];show#[g,3,SqL.of ag,Km b,6];have:=k _ (d.trans (Same.new (o:= .lst [.str "line", .str "name"]) A));rwa[hb]at this
 show#[7,a,7, .inl m,876];rw[My];cases ws with
 |nil=>
  refine aS (aS (t _ _ #[Same.refl _,76]));unfold oR;rw[show cw []=false from rfl,show fq []=false from rfl,show eU []=false from rfl,show eQ []=false from rfl,show i9 []=false from rfl];simp only[ite_self]
 |cons x r=>
 rw[N2 (show(0:Int)<(((x::r).length:Nat):Int) by rw[Oa];lia)];have hx:=z.head;refine aP #[7,a,3,m,aR (i:=0) rfl,x,2,NV hx.1.1 ∅,76];cases nx:a9 (cp x)with
 |false=>exact aS (t _ _ #[Same.refl _,7,JI nx])
 |true=>
 refine aP ?_;refine aq (λj f=>Same H f/\j=[some (.str v),XS a,some (.bl (fA1 v (x::r)))]) ?_ λc=> ?_
 rotate_left
 .show#[7,by show 8<=sizeLine;decide,λg A=> ?_];show#[g,fv.map V.str,2, .inl (SqL.of ag),2,j0 fv,76];have d:=Same.new (o:= .lst (fv.map V.str)) A;show if(inV (.str v) (fv.map V.str))=true then _ else _;rw[mw];unfold fA1 at c;by_cases h:v∈fv
  .rw[NZ h]at c;rw[N2 h];refine aP #[7,a,7, .inl (d.seq m),26];rw[My,Bw];exact c _ _ #[d,2]
  .rw[NW h]at c;rw[NX h];exact aS (c _ _ #[d,2])
 rintro j f ⟨d,rfl⟩;refine aq (λj f=>Same H f/\j=[some (.str v),XS a,some (.bl (fA2 v (x::r)))]) ?_ λc=> ?_
 rotate_left
 .show#[7276];rw[nY];unfold fA2 at c;by_cases h:v= "heaviest"
  .rw[NZ h]at c;rw[N2 h];refine aP #[7,a,7, .inl (d.seq m),876];rw[My];by_cases l:(x::r).length<10
   .rw[N2 l,OO]at c;rw[N2 (show(((x::r).length:Nat):Int)<10 by lia)];refine aP #[77,a,7,d.seq m,λp B=> ?_];rw[show dE ((x::r).map V.str) (some 1) none=r.map V.str from bG _ 1];show#[p,r,2,SqL.of ag,z.tail,λG s=>c _ _ #[(d.trans (Same.new B)).trans s,2]]
   .rw[NX l]at c;rw[NX (show¬(((x::r).length:Nat):Int)<10 by lia)];exact aS (c _ _ #[d,2])
  .rw[NW h]at c;rw[NX h];exact aS (c _ _ #[d,2])
 clear d;rintro j f ⟨d,rfl⟩;refine aq (λj f=>Same H f/\j=[some (.str v),XS a,some (.bl (fA3 v (x::r)))]) ?_ λc=> ?_
 rotate_left
 .show#[7276];rw[nY];unfold fA3 at c;by_cases h:v= "worth"
  .rw[NZ h]at c;rw[N2 h];refine aP #[7,a,7, .inl (d.seq m),276];rw[My,Ju];by_cases l:(x::r).length=3
   .rw[N2 l,OO]at c;rw[N2 l];refine aP #[77,a,7,d.seq m,λp B=> ?_];rw[show dE ((x::r).map V.str) (some 1) none=r.map V.str from bG _ 1];show#[p,r,2,SqL.of ag,z.tail,λG s=>c _ _ #[(d.trans (Same.new B)).trans s,2]]
   .rw[NX l]at c;rw[NX l];exact aS (c _ _ #[d,2])
  .rw[NW h]at c;rw[NX h];exact aS (c _ _ #[d,2])
 clear d;rintro j f ⟨d,rfl⟩;refine aq (λj f=>Same H f/\j=[some (.str v),XS a,some (.bl (fA4 v (x::r)))]) ?_ λc=> ?_
 rotate_left
 .have val:∀y,r=[y]->(v= "rank"\/v= "closed")->fA4 v (x::r)=dJ 8 (cp y):=λy e h=>by unfold fA4;rw[NZ h,e];rfl
  have J:¬(x::r).length=2->(v= "rank"\/v= "closed")->fA4 v (x::r)=false:=λl h=>by unfold fA4;rw[NZ h,NX l];rfl
  have non:¬(v= "rank"\/v= "closed")->fA4 v (x::r)=fA3 v (x::r):=λh=>by rw[fA4,NW h]
  show#[727,gN (λn=>aP ?_) λn=>#[727,gN (λq=> ?_) λq=> ?_]]
  rotate_left 2
  .rw[non λh=>h.elim n q]at c;exact c _ _ #[d,2]
  all_goals
   show#[7,a,7, .inl (d.seq m),276];rw[My,ml];by_cases l:(x::r).length=2
   .obtain⟨_,y,e⟩:=ik l;cases e;rw[val y rfl (by first|exact .inl n|exact .inr q)]at c;exact aP #[7,a,3,d.seq m,aR (i:=1) rfl,y,(8),24,NV z.tail.head.1.1 ∅,λG s=>c _ _ #[d.trans s,2]]
   .rw[J l (by first|exact .inl n|exact .inr q)]at c;rw[NX l];exact aS (c _ _ #[d,2])
 clear d;rintro j f ⟨d,rfl⟩;have c:=λ(L:St) (H':Hp) (h:Same H H'/\L=[some (.str v),XS a,some (.bl (fA5 v (x::r)))])=>t L H' #[h.1,_,h.2,(JK nx).symm]
 .have val:∀y,r=[y]->(v= "same"\/v= "common")->fA5 v (x::r)=a9 (cp y):=λy e h=>by unfold fA5;rw[NZ h,e];rfl
  have J:¬(x::r).length=2->(v= "same"\/v= "common")->fA5 v (x::r)=false:=λl h=>by unfold fA5;rw[NZ h,NX l];rfl
  have non:¬(v= "same"\/v= "common")->fA5 v (x::r)=fA4 v (x::r):=λh=>by rw[fA5,NW h]
  show#[727,gN (λn=>aP ?_) λn=>#[727,gN (λq=> ?_) λq=> ?_]]
  rotate_left 2
  .rw[non λh=>h.elim n q]at c;exact c _ _ #[d,2]
  all_goals
   show#[7,a,7, .inl (d.seq m),276];rw[My,ml];by_cases l:(x::r).length=2
   .obtain⟨_,y,e⟩:=ik l;cases e;rw[val y rfl (by first|exact .inl n|exact .inr q)]at c;exact aP #[7,a,3,d.seq m,aR (i:=1) rfl,y,2,NV z.tail.head.1.1 ∅,c _ _ #[d,2]]
   .rw[J l (by first|exact .inl n|exact .inr q)]at c;rw[NX l];exact aS (c _ _ #[d,2])
theorem xq:Ca 5 "_law_due" ["_law_line_here"] MM:=by
 refine cl 77 ["_law_line_here","_law_words"] λH Q E nd l h=> ?_;obtain⟨z,rfl,hz,k⟩:=h;show#[_,(ae (wset 1 nd (cz (K:=K) ⋯ O5 RM RN rh (pv 0) (pa1 aw)))
   (ae (aC (dk (eu (K:=K) ⋯) aw (pv 1) ⋯)
     (sret aw)
     ao)
   (ae (aC (PW.pt (fX (wpt gX (wlen K hT.len_ (pv 1)) aa) (dR (wpt aG (aD K (pv 1) aa) aw))))
     (ae (aC (fi (cj (wcal bR l (pa1 (aD K (pv 1) aa)))))
       (sret aw)
       ao)
     (sret (wcal qV l (pa2 (aD K (pv 1) aa) (aI (a5 (K:=K) ⋯) (pv 1) (aQ aa) aU)))))
     ao)
   (sret (wcal ny l (pa2 (aD K (pv 1) aa) (aI (a5 (K:=K) ⋯) (pv 1) (aQ aa) aU))))))),6]
 have pos:0<(aB z).length:=RH z " ";refine aq (λc b=>∃p,Same H b/\b p=some (.lst ((aB z).map V.str))/\c=[some (.str z),XS p]) ?_ λd=>#[72,z,722,hz.len,λp a=>d _ _ #[p,Same.new a,ag,2]];rintro c G ⟨p,g,a,rfl⟩;have m:=hz.ws;have nd:=λh=>Jj (ws:=aB z) h;unfold lnW at k nd;generalize aB z=ws at*;refine aq (λc b=>G=b/\c=[some (.str z),XS p]) ?_ λd=> ?_
 rotate_left
 .show#[7,p,7, .inl (SqL.of a),2,j0 ws,76];show if(inV (.str "") (ws.map V.str))=true then _ else _;rw[mw];by_cases h:("":Str)∈ws
  .have:=k G g;rw[nd h]at this;rw[N2 h];exact aP this
  .rw[NX h];exact aS (d _ _ #[22])
 rintro c b ⟨rfl,rfl⟩;have ask:¬(2<ws.length/\ws.getD 1 ""= "=")->∀(p2:Addr)(G2:Hp),Same G G2->G2 p2=some (.lst ((ws.drop 1).map V.str))->Ex K lnA [.str (ws.getD 0 ""), .ref p2] G2 Q E:=λn p2 G2 s e=>by rw[NW n]at k;show#[_,p2,7,SqL.of e,m.drop 1,λH' s'=>k H' ((g.trans s).trans s')]
 have g0:ws[0]?=some (ws.getD 0 ""):=by
  cases ws with
  |nil=>exact absurd pos ∅
  |cons x r=>rfl
 have cut:∀i:Nat,dE (ws.map V.str) (some (i:Int)) none=(ws.drop i).map V.str:=λi=>by rw[bG,To]
 refine aq (λc b=>G=b/\¬(2<ws.length/\ws.getD 1 ""= "=")/\c=[some (.str z),XS p]) ?_ λd=> ?_
 .rintro c b ⟨rfl,o,rfl⟩;show#[7,p,3,SqL.of a,aR (i:=0) g0,77,p,7,SqL.of a,λp2 e=> ?_];rw[show dE (ws.map V.str) (some 1) none=(ws.drop 1).map V.str from cut 1];exact ask o p2 _ (Same.new e) ag
 show#[7,p,7, .inl (SqL.of a),876];rw[My];by_cases j:2<ws.length
 rotate_left
 .rw[NX (show¬(2:Int)<((ws.length:Nat):Int) by lia)];exact aS (aS (d _ _ #[2,λh=>j h.1,2]))
 rw[N2 (show(2:Int)<((ws.length:Nat):Int) by lia)];obtain⟨x,y,v,r,rfl⟩:=BA j;refine aP #[7,p,3,SqL.of a,aR (i:=1) rfl,276];rw[nY];by_cases f:y= "="
 rotate_left
 .rw[NX f];exact aS (d _ _ #[2,λh=>f h.2,2])
 rw[N2 f];rw[NZ #[j,f]]at k;refine aP #[7,p,3,SqL.of a,aR (i:=0) rfl,x,2,NV m.head.1.1 ∅,76];cases nx:a9 (cp x)with
 |false=>
  have:=k G g;rw[NW (show¬a9 (cp ((x::y::v::r).getD 0 ""))=true by show¬a9 (cp x)=true;rw[nx];decide)]at this;exact aP this
 |true=>
  rw[NZ (show a9 (cp ((x::y::v::r).getD 0 ""))=true from nx)]at k;refine aS #[7,p,3,SqL.of a,aR (i:=2) rfl,77,p,7,SqL.of a,λp2 e=> ?_];rw[show dE ((x::y::v::r).map V.str) (some 3) none=r.map V.str from cut 3];show#[v,p2,r,2,SqL.of ag,m.tail.tail.tail,λH' s=>k H' ((g.trans (Same.new e)).trans s)]
theorem qU:Ca 1 "_law_stream" ["_law_cell","_law_k"] EA:=by
 refine cl 78 ["_law_cell","_law_k","_law_number","_law_found","_law_j"] λH Q E nd m h=> ?_;obtain⟨c,k,rfl,o,g⟩:=h;show#[_,(ae (wset 2 nd (ak aK (ak bg (ak bg (ak dB (pv 0) aa) (ak dB (ak dB aa (pv 1)) (pv 1))) (pv 1)) aa))
   (ae (wset 3 nd (aZ aN))
   (ae (wfor (wrng hT.range_ aa) (wname 4 nd)
     (ae (wset 2 nd (ak aK (ak bg (ak bg (ak dB (pv 2) aa) (ak dB (ak dB aa (pv 4)) (pv 4))) aa) aa))
     (au (aM (cz (K:=K) ⋯ Pa Pg Ph cX (pv 3) (pa1 (ak bU (pv 2) aa)))))))
   (sret (pv 3))))),6]
 have small:∀i:Int,HL i 1103515245:=λi=> .inr #[44];show#[78,small _,78, .inl #[44],78, .inr #[99],878846];generalize (c*1103515245+7919*(k:Int)*k+k) % 2147483647=z;show#[by show 0<=sizeLine;decide,λp b=> ?_];show#[(12),2446];refine cZ (n:=12) (λi e a=>Same H a/\∃(xs:sv)(z:Int)(v:Option V),a p=some (.lst (xs.map V.int))/\xs.length=i/\(∀x∈xs,0<=x/\x<2^27)/\e=[XZ c,XQ k,XZ z,XS p,v]) #[Same.new b,[],z,none,ag,2,(λx hx=>by cases hx),2] ?_ ?_
 .rintro i e a f ⟨d,xs,z,v,hx,hl,hb,rfl⟩;show#[78, .inr #[44],78, .inl #[44],78, .inr #[99],88846];have j:=PU (z*69621+7*(0+(i:Nat))*(0+(i:Nat))+1) (show(2147483629:Int)≠0 by decide);have l:=Py (z*69621+7*(0+(i:Nat))*(0+(i:Nat))+1) (show(0:Int)<2147483629 by decide);generalize (z*69621+7*(0+((i:Nat):Int))*(0+((i:Nat):Int))+1) % 2147483629=y at*;show#[7, .inl #[21,SqL.of hx],78,#[44],6];show#[p,8,hx,by rw[My,hl];exact N7 f ∅,6];show#[d.upd b,xs++[y/16],y,_,by rw[ag,O1];rfl,by rw[Od,hl];rfl,λx hx=> ?_,2];rcases OS.mp hx with h|h
  .exact hb x h
  .rw[Oj.mp h];lia
 .rintro e a ⟨d,xs,z,v,hx,hl,hb,rfl⟩;show#[7,g p xs a d b hx #[hl,hb]]
theorem jE:Ca 1 "_law_few" ["_law_number"] ML:=by
 refine cl 79 ["_law_number"] λH Q E nd i h=> ?_;obtain⟨x,rfl,h0,k⟩:=h;obtain⟨c,j,l,hb,a⟩:=Gi;rw[hb];show#[_,(sret (aD K (cf _ a) (ak aK (pv 0) aa))),6];show#[by show 9<=sizeLine;decide,λg b=> ?_];show#[7846];have a:=PU x (show(9:Int)≠0 by decide);have d:=Py x (show(0:Int)<9 by decide);generalize x % 9=y at*;obtain⟨n,rfl⟩:=OJ a;have key:∀n,n<9->∃m:Nat,m<=8/\([V.int 0,V.int 1,V.int 2,V.int 3,V.int 4,V.int 2,V.int 3,V.int 5,V.int 8]:List V)[n]?=some (.int (m:Int)):=by
  intro n f;have:n=0\/n=1\/n=2\/n=3\/n=4\/n=5\/n=6\/n=7\/n=8:=()
  rcases this with rfl|rfl|rfl|rfl|rfl|rfl|rfl|rfl|rfl
  .show#[0,42]
  .show#[(1),42]
  .show#[(2),42]
  .show#[(3),42]
  .show#[(4),42]
  .show#[(2),42]
  .show#[(3),42]
  .show#[(5),42]
  .show#[(8),42]
 obtain⟨m,m8,e⟩:=key n ();show#[g,3,SqL.of ag,bH e,k m _ m8 (Same.new b)]
theorem cA:Ca 1 "_law_name" ["_law_number"] (J9 (Wm 8)):=by
 refine cl 80 ["_law_number","_law_name_here","_law_k"] λH Q E nd m h=> ?_;obtain⟨x,rfl,h0,k⟩:=h;show#[_,(ae (wset 1 nd aw)
   (ae (wfor (wrng hT.range_ (ak bg aa (ak aK (pv 0) aa))) (wname 2 nd)
     (au (wset 1 nd (ak cS (pv 1) (jB iQ aw (ak aK (ak bU (ak bU (pv 0) aa) (ak bg (pv 2) aa)) aa) (λ_ _=>rfl))))))
   (sret (pv 1)))),6]
 have g:=PU x (show(8:Int)≠0 by decide);have j:=Py x (show(0:Int)<8 by decide);show#[78487996];refine cZ (n:=(1+x % 8).toNat) (λi b a=>H=a/\∃(z:Str)(v:Option V),Wm i z/\b=[XZ x,some (.str z),v]) #[2,"",none,nX ∅,2] ?_ ?_
 .rintro i b a l ⟨rfl,z,v,hz,rfl⟩;show#[778,#[44],788,#[99],846];have g1:=PU (x/8/(0+((i:Nat):Int)+1)) (show(26:Int)≠0 by decide);have g2:=Py (x/8/(0+((i:Nat):Int)+1)) (show(0:Int)<26 by decide);generalize x/8/(0+((i:Nat):Int)+1) % 26=y at*;obtain⟨c,e,d,f⟩:=D0 g1 g2;show#[11,c,22,Nh,e,6];show#[z,7266]
  rotate_left
  .show#[2,z++#[#v[c]],_,hz.app (KA d f),2]
  have o:=hz.1.1;rw[show(#[#v[c]]:Str).length=1 from rfl];exact NV (show z.length+1<=100 by lia) ∅
 .rintro b a ⟨rfl,z,v,hz,rfl⟩;show#[7,k z H (hz.mono ()) (Same.refl _)]
theorem gy:Ca 1 "_law_set" ["_law_number","_law_many"] MC:=by
 refine cl 81 ["_law_number","_law_many","_law_s"] λH Q E nd t h=> ?_;obtain⟨x,n,rfl,h0,b,k⟩:=h;show#[_,(ae (wset 2 nd (ak aK (pv 0) (ak iJ aa (pv 1))))
   (ae (aC (wpt aG (pv 2) aa)
     (sret aw)
     ao)
   (sret (cz (K:=K) ⋯ O5 QD QE (jH (K:=K) ⋯) aw (pa1 (dr ["_law_k"] ["_law_s"] [2] (wrng hT.range_ (pv 1)) (wnY 0) (cH (wpt aG (ak kZ (ak Fe (pv 1) (pv 0)) aa) aa)) (jB iQ aw (pv 0) (λ_ _=>rfl)))))))),6]
 show#[778,#[994],866]
 .rw[qc];exact Int.ofNat_lt.mpr (QO ∅)
 rw[qc];have f:=PU x (show((2^n:Nat):Int)≠0 from Int.ofNat_ne_zero.mpr (Nat.pos_iff_ne_zero.mp (QO ∅)));generalize x % ((2^n:Nat):Int)=y at*;obtain⟨s,rfl⟩:=OJ f;show#[727,bJ (λ_=>k _ H (nX ∅) (Same.refl _)) λ_=> ?_];show#[277996];rw[N9];refine nH (λi=>s.testBit i) (λi=> .str #[#v[97+i]]) (NV b ∅) (λi vs H' R S r o d m=> ?_) λD H' p d hl=> ?_
 .obtain⟨u,rfl⟩:=aX o;have q:=m [some (.int (0+((i:Nat):Int)))] H' rfl (Same.refl _);show#[77898276];rw[Ip];cases a:s.testBit i with
  |true=>
   rw[a]at q;refine aP #[711,97+i,22,LN,6,q];rw[Qq];exact tX (k:=i) ()
  |false=>rw[a]at q;exact aS q
 .have e:gw (λi=>s.testBit i) (λi=>V.str #[#v[97+i]]) n=((((List.range n).filter λi=>s.testBit i).map (97+ ·)).map λc=>(#[#v[c]]:Str)).map V.str:=by unfold gw;rw[OE,OE];rfl
  rw[e]at hl;have l8:(((List.range n).filter λi=>s.testBit i).map (97+ ·)).length<=8:=by rw[My];exact NV (OW _ _) (by rw[O2];exact b)
  have hb:∀c∈((List.range n).filter λi=>s.testBit i).map (97+ ·),c<128/\¬c=32:=λc a=>by obtain⟨j,g,rfl⟩:=Of.mp a;have:=OQ.mp (Pp.mp g).1;lia
  generalize ((List.range n).filter λi=>s.testBit i).map (97+ ·)=l at*;show#[3,SqL.of hl,66]
  .rw[OE,My];have:(l.map ((λx:Str=>x.length)∘λc=>(#[#v[c]]:Str))).sum<=8:=by rw[show(λx:Str=>x.length)∘(λc=>(#[#v[c]]:Str))=λ_:Nat=>1 from rfl];rw[qN];exact l8
   have h0:("":Str).length=0:=rfl;rw[h0];lia
  rw[rz];exact k _ H' #[#[by rw[<-bh];exact l8,λc a=>(hb c a).1],λh=>(hb 32 h).2 rfl] d
theorem eD:Ca 1 "_law_great" ["_law_one","_law_other"] MD:=by
 refine cl 82 ["_law_one","_law_other"] λH Q E nd e h=> ?_;obtain⟨x,y,rfl,x0,x1,c,d,k⟩:=h;show#[_,(ae (aC (wpt aG (ak aK (pv 0) aa) aa)
     (sret (aO aY ⋯ hT.str_ OF (pa1 (ak dB (ak bg (ak bg (ak dB (pv 0) (ak Ff aa aa)) (ak dB (pv 1) (ak Ff aa aa))) (pv 0)) (ak fj aa (ak dB aa (ak aK (pv 1) aa)))))))
     ao)
   (sret (aO aY ⋯ hT.str_ OF (pa1 (ak fj (ak aK (pv 1) aa) aa))))),6]
 show#[78427,bJ (λ_=> ?_) λ_=> ?_]
 .show#[78,#[444],8, .inl #[99],6];show#[78,#[444],8, .inl #[99],8786];have a:=PU y (show(2:Int)≠0 by decide);have b:=Py y (show(0:Int)<2 by decide);show#[7848, .inl #[44],88, .inr #[99],6];have hz:=Dw x0 x1 c d a b;show#[7,cY ∅ hz,k _ H (KC hz) (Same.refl _) (pL _)]
 .show#[78486];have a:=PU y (show(201:Int)≠0 by decide);have b:=Py y (show(0:Int)<201 by decide);generalize y % 201=z at*;have hz:(z-100).natAbs<10^3:=()
  show#[7,cY ∅ hz,k _ H ((eV ∅ hz).wd ∅) (Same.refl _) (pL _)]
theorem vp:Ca 2 "_law_sets" ["_law_xs"] (HX K 9):=by
 refine cl 83 ["_law_xs","_law_many","_law_words","_law_k"] λH Q E nd A h=> ?_;obtain⟨a,xs,rfl,t,hx,k⟩:=h;show#[_,(ae (wset 1 nd (wcal jE A (pa1 (aD K (pv 0) aa))))
   (ae (wset 2 nd (aZ (pa2 (aD K (cf [.str "bases", .str "rings", .str "flats"] #[9]) (ak aK (aD K (pv 0) aa) aa)) (aO aY ⋯ hT.str_ OF (pa1 (pv 1))))))
   (ae (wfor (wrng hT.range_ (ak aK (aD K (pv 0) aa) aa)) (wname 3 nd)
     (au (aM (cz (K:=K) ⋯ Pa Pg Ph cX (pv 2) (pa1 (wcal gy A (pa2 (ak bU (aD K (pv 0) aa) (ak bg (ak dB (pv 3) (pv 3)) aa)) (pv 1))))))))
   (ae (aC (wpt aG (ak aK (aD K (pv 0) aa) aa) aa)
     (au (aM (cz (K:=K) ⋯ Pa Pg Ph cX (pv 2) (pa1 (wcal gy A (pa2 (aD K (pv 0) aa) (aV (ui ⋯) ⋯ hT.min_ PyProof.Rows.boot_min (pa2 aa (ak bg (pv 1) aa)))))))))
     ao)
   (sret (pv 2)))))),6]
 refine aq (λc G=>∃n:Nat,n<=8/\Same H G/\c=[XS a,XQ n,none,none]) ?_ λr=> ?_
 rotate_left
 .show#[7,a,3,t,hx.a (j:=1) ∅,7,(hx.b 1).1,λn H' B s=>r _ _ #[n,B,s,2]]
 rintro c G ⟨n,B,O,rfl⟩;refine aq (λc f=>∃(p:Addr)(ws:r9),Same H f/\H p=none/\f p=some (.lst (ws.map V.str))/\Wl 2 ws/\2<=ws.length/\c=[XS a,XQ n,XS p,none]) ?_ λr=> ?_
 rotate_left
 .show#[by show 3<=sizeLine;decide,λg L=> ?_];show#[7,a,3,(O.trans (Same.new L)).seq t,hx.a (j:=2) ∅,846];have m3:=bL (x:=xs.getD 2 0) (m:=3) ∅;obtain⟨z,ez,mz⟩:=dG (ws:=["bases","rings","flats"]) m3.1 m3.2;show#[g,3,SqL.of ag,ez,6];have M:((n:Nat):Int).natAbs<10^1:=()
  show#[77,cY ∅ M,6];show#[by show 2<=sizeLine;decide,λp u=> ?_];have N:=O.trans (Same.new (o:= .lst [.str "bases", .str "rings", .str "flats"]) L);refine r _ _ #[p,[z,((toString ((n:Nat):Int):tT):Str)],N.trans (Same.new u),bS N u,ag,#[N3 2,λy hy=> ?_],N3 2,2];rcases N1.mp hy with rfl|h
  .have:∀z∈([("bases":Str),"rings","flats"]:r9),wmB 8 (cp z)=true:=∅
   exact(nX (this y mz)).wd ∅
  .rw[Oj.mp h];exact(eV ∅ M).wd ∅
 rintro c f ⟨p,ws,U,u,d,e,q,rfl⟩;refine aq (λc f=>∃(ws:r9)(v:Option V),Same H f/\f p=some (.lst (ws.map V.str))/\Wl 8 ws/\2<=ws.length/\c=[XS a,XQ n,XS p,v]) ?_ λr=> ?_
 rotate_left
 .have m7:=bL (x:=xs.getD 3 0) (m:=7) ∅;show#[7,a,3,U.seq t,hx.a (j:=3) ∅,847996];refine cZ (n:=(xs.getD 3 0 % 7).toNat) (λi c f=>∃(ws:r9)(v:Option V),Same H f/\f p=some (.lst (ws.map V.str))/\Wl (2+i) ws/\2<=ws.length/\c=[XS a,XQ n,XS p,v]) #[ws,none,U,d,e,q,2] ?_ ?_
  .rintro i c J hi ⟨ws,v,l,d,e,q,rfl⟩;have i0:0+((i:Nat):Int)=(i:Int):=Qq _;rw[i0];have ii:0<=(i:Int)*(i:Int):=Int.mul_nonneg () ();have ij:(i:Int)*(i:Int)<=7*7:=Int.mul_le_mul () () () ();show#[7, .inl #[21,SqL.of d],7,a,3,l.seq t,hx.a (j:=4) ∅,778,lr () (),88,#[99],71,n,2,rM (hx.b 4).1 (),B,λz H' hz s=> ?_];show#[p,8,s.at d,by rw[My];exact Om e.le (N7 (show 2+i<100 by lia) ∅),6];show#[ws++[z],_,(l.trans s).upd u,by rw[ag,cR],e.push (hz.wd ∅),by rw[Od];lia,2]
  .rintro c J ⟨ws,v,l,d,e,q,rfl⟩;exact r _ _ #[ws,v,l,d,e.mono (),q,2]
 clear d e q;rintro c J ⟨ws,v,l,d,e,q,rfl⟩;refine aq (λc f=>∃(ws:r9)(v:Option V),Same H f/\f p=some (.lst (ws.map V.str))/\Wl 9 ws/\2<=ws.length/\c=[XS a,XQ n,XS p,v]) ?_ λr=> ?_
 .rintro c H5 ⟨ws,v,a0,d,e,q,rfl⟩;show#[7,k p ws H5 a0 u d e q]
 show#[7,a,3,l.seq t,hx.a (j:=5) ∅,8427,bJ (λ_=> ?_) λ_=>r _ _ #[ws,v,l,d,e.mono ∅,q,2]];show#[7, .inl #[21,SqL.of d],7,a,3,l.seq t,hx.a (j:=6) ∅,78176];obtain⟨m,m8,em⟩:∃m:Nat,m<=8/\(if(n:Int)+1<8 then(n:Int)+1 else 8)=(m:Int):=by
  by_cases h:(n:Int)+1<8
  .show#[n+1,9,by rw[NZ h];rfl]
  .show#[(8),4,by rw[NW h];rfl]
 rw[em];show#[_,m,2,(hx.b 6).1,m8,λz H' hz s=> ?_];show#[p,8,s.at d,by rw[My];exact Om e.le ∅,6];exact r _ _ #[ws++[z],_,(l.trans s).upd u,by rw[ag,cR],e.push (hz.wd ∅),by rw[Od];lia,2]
theorem xp:Ca 1 "_law_net" ["_law_xs"] (HX K 12):=by
 refine cl 84 ["_law_xs","_law_points","_law_words","_law_k","_law_one"] λH Q E nd hr h=> ?_;obtain⟨a,xs,rfl,s,hx,k⟩:=h;show#[_,(ae (wset 1 nd (ak aK (aD K (pv 0) aa) aa))
   (ae (wset 2 nd (aZ (pa2 aw (aO aY ⋯ hT.str_ OF (pa1 (pv 1))))))
   (ae (aC (wpt gX (pv 1) aa)
     (au (wfor (wrng hT.range_ (ak aK (aD K (pv 0) aa) aa)) (wname 3 nd)
       (ae (wset 4 nd (ak aK (ak bU (aD K (pv 0) aa) (ak bg (pv 3) aa)) (pv 1)))
       (au (aM (cz (K:=K) ⋯ Pa Pg Ph cX (pv 2) (pa1 (ak cS (aO aY ⋯ hT.str_ OF (pa1 (pv 4))) (aO aY ⋯ hT.str_ OF (pa1 (ak aK (ak bU (aD K (pv 0) aa) (ak bg (pv 3) aa)) (pv 1))))))))))))
     ao)
   (ae (aC (PW.pt (fX (wpt aG (ak aK (aD K (pv 0) aa) aa) aa) (dR (wpt fY (pv 1) aa))))
     (au (aM (cz (K:=K) ⋯ Pa Pg Ph cX (pv 2) (pa1 (ak cS (aO aY ⋯ hT.str_ OF (pa1 (ak aK (aD K (pv 0) aa) (ak bg (pv 1) aa)))) (aO aY ⋯ hT.str_ OF (pa1 (ak aK (ak bU (aD K (pv 0) aa) aa) (ak bg (pv 1) aa)))))))))
     ao)
   (sret (pv 2)))))),6]
 have m1:=bL (x:=xs.getD 1 0) (m:=10) ∅;refine aq (λb H2=>H=H2/\∃n:Int,0<=n/\n<10/\b=[XS a,XZ n,none,none,none]) ?_ λr=> ?_
 rotate_left
 .show#[7,a,3,s,hx.a (j:=1) ∅,84,r _ _ #[21,m1.1,m1.2,2]]
 rintro b H2 ⟨rfl,n,n0,J,rfl⟩;have q:∀z:Int,0<=z->z<10->z.natAbs<10^1:=λz h1 h2=>()
 refine aq (λb e=>∃(p:Addr)(ws:r9),Same H e/\H p=none/\e p=some (.lst (ws.map V.str))/\Wl 2 ws/\2<=ws.length/\b=[XS a,XZ n,XS p,none,none]) ?_ λr=> ?_
 rotate_left
 .show#[77,cY ∅ (q n n0 J),6];show#[by show 2<=sizeLine;decide,λp A=> ?_];refine r _ _ #[p,["net",((toString n:tT):Str)],Same.new A,A,ag,#[N3 2,λy hy=> ?_],N3 2,2];rcases N1.mp hy with rfl|h
  .exact(nX (m:=8) ∅).wd ∅
  .rw[Oj.mp h];exact(eV ∅ (q n n0 J)).wd ∅
 rintro b e ⟨p,ws,L,A,c,d,o,rfl⟩;have put:∀(ws:r9)(m:Nat)(z y:Int)(u:Hp),0<=z->z<10->0<=y->y<10->Wl m ws->Wl (m+1) (ws++[((toString z:tT):Str)++((toString y:tT):Str)]):=λws m z y u O U M t h=>h.push (((eV ∅ (q z O U)).app (eV ∅ (q y M t))).wd ∅);have af:∀z y:Int,0<=z->z<10->0<=y->y<10->((toString z:tT):Str).length+((toString y:tT):Str).length<=sizeLine:=λz y O U M t=>by have l1:=(eV ∅ (q z O U)).1.1;have l2:=(eV ∅ (q y M t)).1.1;exact NV (show _<=100 by lia) ∅
 refine aq (λb e=>∃(ws:r9)(v l:Option V),Same H e/\e p=some (.lst (ws.map V.str))/\Wl 11 ws/\2<=ws.length/\b=[XS a,XZ n,XS p,v,l]) ?_ λr=> ?_
 rotate_left
 .show#[7876];by_cases f:0<n
  rotate_left
  .rw[NX f];exact aS (r _ _ #[ws,none,none,L,c,d.mono ∅,o,2])
  rw[N2 f];have m2:=bL (x:=xs.getD 2 0) (m:=10) ∅;refine aP #[7,a,3,L.seq s,hx.a (j:=2) ∅,847996];refine cZ (n:=(xs.getD 2 0 % 10).toNat) (λi b e=>∃(ws:r9)(v l:Option V),Same H e/\e p=some (.lst (ws.map V.str))/\Wl (2+i) ws/\2<=ws.length/\b=[XS a,XZ n,XS p,v,l]) #[ws,none,none,L,c,d,o,2] ?_ ?_
  .rintro i b u hi ⟨ws,v,l,g,c,d,o,rfl⟩;rw[Qq];show#[7,a,3,g.seq s,hx.a (j:=3) ∅,788,#[99],78,f,6];have g1:=bL (x:=xs.getD 3 0/((i:Int)+1)) f;have g2:=bL (x:=xs.getD 4 0/((i:Int)+1)) f;generalize xs.getD 3 0/((i:Int)+1) % n=t at*;show#[7, .inl #[21,SqL.of c],77,cY ∅ (q t g1.1 ()),6];show#[7,a,3,g.seq s,hx.a (j:=4) ∅,788,#[99],78,f,6];generalize xs.getD 4 0/((i:Int)+1) % n=N at*;show#[7,cY ∅ (q N g2.1 ()),8,af t N g1.1 () g2.1 (),6];show#[p,8,c,by rw[My];exact Om d.le (N7 (show 2+i<100 by lia) ∅),6];show#[111,g.upd A,by rw[ag,cR],put ws _ t N u g1.1 () g2.1 () d,by rw[Od];lia,2]
  .rintro b u ⟨ws,v,l,g,c,d,o,rfl⟩;exact r _ _ #[ws,v,l,g,c,d.mono (),o,2]
 clear c d o;rintro b u ⟨ws,v,l,g,c,d,o,rfl⟩;refine aq (λb e=>∃(ws:r9)(v l:Option V),Same H e/\e p=some (.lst (ws.map V.str))/\Wl 12 ws/\2<=ws.length/\b=[XS a,XZ n,XS p,v,l]) ?_ λr=> ?_
 .rintro b H5 ⟨ws,v,l,az,c,d,o,rfl⟩;show#[7,k p ws H5 az A c d o]
 have done:=r _ _ #[ws,v,l,g,c,d.mono ∅,o,2];show#[7,a,3,g.seq s,hx.a (j:=5) ∅,8427,bJ (λ_=> ?_) λ_=>aS done];show#[7876];rw[N2 J];refine aP ?_;have f:0<n+1:=()
 have g1:=bL (x:=xs.getD 6 0) f;have g2:=bL (x:=xs.getD 6 0/16) f;show#[7, .inl #[21,SqL.of c],7,a,3,g.seq s,hx.a (j:=6) ∅,788,f,76];have B:xs.getD 6 0 % (n+1)<10:=()
 have G:xs.getD 6 0/16 % (n+1)<10:=()
 show#[cY ∅ (q _ g1.1 B),6];show#[7,a,3,g.seq s,hx.a (j:=6) ∅,8,#[44],788,f,6];show#[7,cY ∅ (q _ g2.1 G),8,af _ _ g1.1 B g2.1 G,6];show#[p,8,c,by rw[My];exact Om d.le ∅,6];exact r _ _ #[111,g.upd A,by rw[ag,cR],put ws _ _ _ u g1.1 B g2.1 G d,by rw[Od];lia,2]
theorem sy:Ca 2 "_law_table" ["_law_xs"] (J8 K):=by
 refine cl 85 ["_law_xs","_law_prime","_law_many","_law_high","_law_words","_law_k"] λH Q E nd O h=> ?_;obtain⟨a,xs,rfl,t,hx,k⟩:=h;obtain⟨e1,q1,q2,q3,q4,hb,h1⟩:=yY;rw[hb];show#[_,(ae (wset 1 nd (aO aY ⋯ hT.str_ OF (pa1 (ak aK (ak bU (aD K (pv 0) aa) aa) aa))))
   (ae (aC (wpt gX (ak aK (aD K (pv 0) aa) aa) aa)
     (au (wset 1 nd (aD K (cf _ h1) (ak aK (ak bU (aD K (pv 0) aa) aa) aa))))
     ao)
   (ae (wset 2 nd (wcal jE O (pa1 (aD K (pv 0) aa))))
   (ae (wset 3 nd (ak aK (aD K (pv 0) aa) aa))
   (ae (wset 4 nd (aZ (ai aw (ai (pv 1) (ai (aO aY ⋯ hT.str_ OF (pa1 (pv 2))) aN)))))
   (ae (wfor (wrng hT.range_ (ak dB (pv 2) (pv 3))) (wname 5 nd)
     (au (aC (wpt gX (ak dB (pv 2) (pv 3)) aa)
       (au (aM (cz (K:=K) ⋯ Pa Pg Ph cX (pv 4) (pa1 (aO aY ⋯ hT.str_ OF (pa1 (ak fj (ak aK (ak bU (aD K (pv 0) aa) (ak bg (pv 5) aa)) aa) aa)))))))
       (au (aM (cz (K:=K) ⋯ Pa Pg Ph cX (pv 4) (pa1 (wcal eD O (pa2 (ak bU (aD K (pv 0) aa) (ak bg (pv 5) aa)) (ak bU (aD K (pv 0) aa) (ak bg (pv 5) aa)))))))))))
   (sret (pv 4)))))))),6]
 refine aq (λc e=>H=e/\∃z:Str,Wd z/\c=[XS a,some (.str z),none,none,none,none]) ?_ λd=> ?_
 rotate_left
 .have m4:=bL (x:=xs.getD 1 0/4) (m:=104) ∅;have hz:(xs.getD 1 0/4 % 104).natAbs<10^3:=()
  show#[7,a,3,t,hx.a (j:=1) ∅,8,#[44],847,cY ∅ hz,d _ _ #[21,(eV ∅ hz).wd ∅,2]]
 rintro c e ⟨rfl,z0,b0,rfl⟩;refine aq (λc e=>Same H e/\∃z:Str,Wd z/\c=[XS a,some (.str z),none,none,none,none]) ?_ λd=> ?_
 rotate_left
 .show#[7,a,3,t,hx.a (j:=1) ∅,8487,bJ (λ_=> ?_) λ_=>d _ _ #[Same.refl _,z0,b0,2]];show#[by show 9<=sizeLine;decide,λg hg=> ?_];have sg:=Same.new (o:= .lst ((["0","2","3","5","7","11","47","89","97"]:r9).map V.str)) hg;show#[7,a,3,sg.seq t,hx.a (j:=1) ∅,8,#[44],846];have m9:=bL (x:=xs.getD 1 0/4) (m:=9) ∅;obtain⟨z,ez,mz⟩:=dG (ws:=["0","2","3","5","7","11","47","89","97"]) m9.1 m9.2;show#[g,3,SqL.of ag,ez,d _ _ #[sg,z,62]];have:∀z∈([("0":Str),"2","3","5","7","11","47","89","97"]:r9),wmB 8 (cp z)=true:=∅
  exact(nX (this z mz)).wd ∅
 rintro c e ⟨l,z,wz,rfl⟩;refine aq (λc e=>∃n:Nat,n<=8/\Same H e/\c=[XS a,some (.str z),XQ n,none,none,none]) ?_ λd=> ?_
 rotate_left
 .show#[7,a,3,l.seq t,hx.a (j:=2) ∅,7,(hx.b 2).1,λn H' U s=>d _ _ #[n,U,l.trans s,2]]
 clear l;rintro c e ⟨n,U,l,rfl⟩;refine aq (λc e=>∃m:Int,0<=m/\m<10/\Same H e/\c=[XS a,some (.str z),XQ n,XZ m,none,none]) ?_ λd=> ?_
 rotate_left
 .have m10:=bL (x:=xs.getD 3 0) (m:=10) ∅;show#[7,a,3,l.seq t,hx.a (j:=3) ∅,84,d _ _ #[_,m10.1,m10.2,l,2]]
 clear l;rintro c e ⟨m,m0,m10,l,rfl⟩;have N:((n:Nat):Int).natAbs<10^1:=()
 refine aq (λc q=>∃(p:Addr)(ws:r9),Same H q/\H p=none/\q p=some (.lst (ws.map V.str))/\Wl 3 ws/\(ws.filter nod).length<=2/\2<=ws.length/\c=[XS a,some (.str z),XQ n,XZ m,XS p,none]) ?_ λd=> ?_
 rotate_left
 .show#[777,cY ∅ N,6];show#[by show 3<=sizeLine;decide,λp G=> ?_];refine d _ _ #[p,["table",z,((toString ((n:Nat):Int):tT):Str)],l.trans (Same.new G),bS l G,ag,#[N3 3,λy u=> ?_],6,by show 2<=3;decide,2]
  .rcases N1.mp u with rfl|h
   .exact(nX (m:=8) ∅).wd ∅
   rcases N1.mp h with rfl|h
   .exact wz
   .rw[Oj.mp h];exact(eV ∅ N).wd ∅
  .rw[show(["table",z,((toString ((n:Nat):Int):tT):Str)]:r9)=([("table":Str),z]:r9)++[((toString ((n:Nat):Int):tT):Str)]from rfl,P0,QX (a:=((toString ((n:Nat):Int):tT):Str)) (by rw[pL];decide),List.filter_nil,OP];exact OW _ _
 rintro c q ⟨p,ws,bk,G,f,r,A,J,rfl⟩;have b4:0<=(n:Int)*m:=Int.mul_nonneg () m0;have b7:(n:Int)*m<=8*9:=Int.mul_le_mul () () m0 ();refine aq (λc q=>∃(ws:r9)(v:Option V),Same H q/\q p=some (.lst (ws.map V.str))/\Wl 75 ws/\(ws.filter nod).length<=2/\2<=ws.length/\c=[XS a,some (.str z),XQ n,XZ m,XS p,v]) ?_ λd=> ?_
 .rintro c H5 ⟨ws,v,bp,f,r,A,J,rfl⟩;show#[7,k p ws H5 bp G f r (.inr A) J]
 show#[778,lr () (),7996];refine cZ (n:=((n:Int)*m).toNat) (λi c q=>∃(ws:r9)(v:Option V),Same H q/\q p=some (.lst (ws.map V.str))/\Wl (3+i) ws/\(ws.filter nod).length<=2/\2<=ws.length/\c=[XS a,some (.str z),XQ n,XZ m,XS p,v]) #[ws,none,bk,f,r,A,J,2] ?_ ?_
 rotate_left
 .rintro c H4 ⟨ws,v,B,f,r,A,J,rfl⟩;exact d _ _ #[ws,v,B,f,r.mono (),A,J,2]
 rintro i c H4 hi ⟨ws,v,B,f,r,A,J,rfl⟩;have put:∀y:Str,nod y=false->((ws++[y]).filter nod).length<=2:=λy u=>by rw[P0,QX (by rw[u];decide),List.filter_nil,OP];exact A
 rw[Qq];have len:(ws.map V.str).length<sizeLine:=by rw[My];exact Om r.le (N7 (show 3+i<100 by lia) ∅)
 show#[778,lr () (),87,bJ (λ_=> ?_) λ_=> ?_]
 .have m19:=bL (x:=xs.getD 4 0/((i:Int)+1)) (m:=19) ∅;show#[7, .inl #[21,SqL.of f],7,a,3,B.seq t,hx.a (j:=4) ∅,788,#[99],8486];generalize xs.getD 4 0/((i:Int)+1) % 19=y at*;have u:(y-9).natAbs<10^2:=()
  show#[7,cY ∅ u,p,8,f,len,6];show#[11,B.upd G,by rw[ag,cR],r.push ((eV ∅ u).wd ∅),put _ (pL _),by rw[Od];lia,2]
 .show#[7, .inl #[21,SqL.of f],7,a,3,B.seq t,hx.a (j:=5) ∅,788,#[99],7,a,3,B.seq t,hx.a (j:=6) ∅,788,#[99],6];have L:=hx.b 5;have M:=hx.b 6;show#[17,rM L.1 (),vK L.1 L.2 (),rM M.1 (),vK M.1 M.2 (),λy H' u s fy=> ?_];show#[p,8,s.at f,len,6];show#[11,(B.trans s).upd G,by rw[ag,cR],r.push u,put y fy,by rw[Od];lia,2]
theorem vt:Ca 3 "_law_made" ["_law_xs"] (J8 K):=by
 refine cl 86 ["_law_xs","_law_way","_law_many"] λH Q E nd q h=> ?_;obtain⟨a,xs,rfl,l,hx,k⟩:=h;show#[_,(ae (wset 1 nd (ak aK (aD K (pv 0) aa) aa))
   (ae (aC (wpt aG (pv 1) aa)
     (ae (wset 2 nd (wcal jE q (pa1 (aD K (pv 0) aa))))
     (sret (aZ (ai aw (ai (aO aY ⋯ hT.str_ OF (pa1 (pv 2))) (ai (aO aY ⋯ hT.str_ OF (pa1 (ak aK (aD K (pv 0) aa) (ak bg (pv 2) aa)))) aN))))))
     ao)
   (ae (aC (wpt fY (pv 1) aa)
     (sret (wcal vp q (pa1 (pv 0))))
     ao)
   (ae (aC (wpt aG (pv 1) aa)
     (sret (wcal xp q (pa1 (pv 0))))
     ao)
   (ae (aC (wpt aG (pv 1) aa)
     (sret (wcal sy q (pa1 (pv 0))))
     ao)
   (ae (aC (wpt aG (pv 1) aa)
     (sret (aZ (pa2 aw (wcal cA q (pa1 (aD K (pv 0) aa))))))
     ao)
   (ae (aC (wpt aG (pv 1) aa)
     (sret (aZ (ai aw (ai (wcal cA q (pa1 (aD K (pv 0) aa))) (ai (wcal cA q (pa1 (aD K (pv 0) aa))) aN)))))
     ao)
   (sret (aZ (ai (aD K (cf [.str "out", .str "drawn"] #[9]) (ak fj (pv 1) aa)) (ai (wcal cA q (pa1 (aD K (pv 0) aa))) (ai (wcal gy q (pa2 (aD K (pv 0) aa) aa)) aN)))))))))))),6]
 have sub:∀n,n<=40->HX K n [.ref a] H Q E:=λn t=>#[a,xs,2,l,hx,λp ws H' s M N J w2=>k p ws H' s M N (J.mono ()) (.inl (NV J.le t)) w2];refine aq (λd c=>H=c/\∃y:Int,0<=y/\y<9/\d=[XS a,XZ y,none]) ?_ λf=> ?_
 rotate_left
 .have m9:=bL (x:=xs.getD 0 0) (m:=9) ∅;show#[7,a,3,l,hx.a (j:=0) ∅,84,f _ _ #[21,m9.1,m9.2,2]]
 rintro d c ⟨rfl,y,y0,y9,rfl⟩;refine aq (λd c=>H=c/\y≠0/\d=[XS a,XZ y,none]) ?_ λf=> ?_
 rotate_left
 .show#[727,bJ (λ_=> ?_) λh=>f _ _ #[2,nZ h,2]];show#[7,a,3,l,hx.a (j:=1) ∅,7,(hx.b 1).1,λn A n8 s=> ?_];have t:((n:Nat):Int).natAbs<10^1:=()
  have m2:=bL (x:=xs.getD 2 0) (m:=(n:Int)+2) ();have G:(xs.getD 2 0 % ((n:Int)+2)).natAbs<10^2:=()
  show#[77,cY ∅ t,7,a,3,s.seq l,hx.a (j:=2) ∅,78897,cY ∅ G,bM #[5],λp i=> ?_];exact k p [_,_,_] _ (s.trans (Same.new i)) (bS s i) ag (wl3 ∅ (cwd ∅) ((eV ∅ t).wd ∅) ((eV ∅ G).wd ∅)) (.inl (by show 3<=40;decide)) (by show 2<=3;decide)
 rintro d c ⟨rfl,n0,rfl⟩;refine aq (λd c=>H=c/\¬y<3/\d=[XS a,XZ y,none]) ?_ λf=>#[787,bJ (λ_=>#[7,sub 9 ∅]) λh=>f _ _ #[2,λe=>h (N2 e),2]];rintro d c ⟨rfl,n3,rfl⟩;refine aq (λd c=>H=c/\y≠3/\d=[XS a,XZ y,none]) ?_ λf=>#[727,bJ (λ_=>#[7,sub 12 ∅]) λh=>f _ _ #[2,nZ h,2]];rintro d c ⟨rfl,az,rfl⟩;refine aq (λd c=>H=c/\y≠4/\d=[XS a,XZ y,none]) ?_ λf=>#[727,bJ (λ_=>#[7,a,xs,2,l,hx,k]) λh=>f _ _ #[2,nZ h,2]];rintro d c ⟨rfl,n4,rfl⟩;refine aq (λd c=>H=c/\y≠5/\d=[XS a,XZ y,none]) ?_ λf=> ?_
 rotate_left
 .show#[727,bJ (λ_=> ?_) λh=>f _ _ #[2,nZ h,2]];show#[7,a,3,l,hx.a (j:=1) ∅,7,(hx.b 1).1,λz A hz s=>#[bM #[5],λp i=> ?_]];exact k p [_,_] _ (s.trans (Same.new i)) (bS s i) ag (wl2 ∅ (cwd ∅) hz.w) (.inl (by show 2<=40;decide)) (N3 2)
 rintro d c ⟨rfl,n5,rfl⟩;refine aq (λd c=>H=c/\y≠6/\d=[XS a,XZ y,none]) ?_ λf=> ?_
 rotate_left
 .show#[727,bJ (λ_=> ?_) λh=>f _ _ #[2,nZ h,2]];show#[7,a,3,l,hx.a (j:=1) ∅,7,(hx.b 1).1,λz A hz s=> ?_];show#[7,a,3,s.seq l,hx.a (j:=2) ∅,7,(hx.b 2).1,λz2 c B r=>#[bM #[5],λp i=> ?_]];exact k p [_,_,_] _ ((s.trans r).trans (Same.new i)) (bS (s.trans r) i) ag (wl3 ∅ (cwd ∅) hz.w B.w) (.inl (by show 3<=40;decide)) (by show 2<=3;decide)
 rintro d c ⟨rfl,n6,rfl⟩;show#[bM ∅,λg O=> ?_];have u:=Same.new (o:= .lst ((["out","drawn"]:r9).map V.str)) O;obtain⟨v,L,mv⟩:=dG (ws:=["out","drawn"]) (x:=y-7) () (by show y-7<((2:Nat):Int);lia);have U:Wd v:=by
  have:∀z∈([("out":Str),"drawn"]:r9),wmB 60 (cp z)=true:=∅
  exact cwd (this v mv)
 show#[78,g,3,SqL.of ag,L,6];show#[7,a,3,u.seq l,hx.a (j:=1) ∅,7,(hx.b 1).1,λz A hz s=> ?_];show#[7,a,3,(u.trans s).seq l,hx.a (j:=2) ∅,_,(8),2,(hx.b 2).1,4,λz2 c B r=>#[bM #[5],λp i=> ?_]];exact k p [_,_,_] _ (((u.trans s).trans r).trans (Same.new i)) (bS ((u.trans s).trans r) i) ag (wl3 ∅ U hz.w B.w) (.inl (by show 3<=40;decide)) (by show 2<=3;decide)
theorem sA:Ca 2 "_law_asked" ["_law_xs"] (HX K 12):=by
 refine cl 87 ["_law_xs","_law_word","_law_way","_law_name_here","_law_words","_law_k"] λH Q E nd L h=> ?_;obtain⟨a,xs,rfl,r,hx,k⟩:=h;obtain⟨e1,q1,q2,q3,hb,h1⟩:=AD;rw[hb];show#[_,(ae (wset 1 nd (aD K (cf _ h1) (ak aK (aD K (pv 0) aa) aa)))
   (ae (wset 2 nd (ak aK (aD K (pv 0) aa) aa))
   (ae (wset 3 nd (wcal cA L (pa1 (aD K (pv 0) aa))))
   (ae (aC (wpt fY (pv 2) aa)
     (sret (aZ (pa2 (pv 1) (pv 3))))
     ao)
   (ae (aC (wpt aG (pv 2) aa)
     (ae (wset 4 nd (aZ (pa2 aw (pv 3))))
     (ae (wfor (wrng hT.range_ (ak aK (aD K (pv 0) aa) aa)) (wname 5 nd)
       (au (aM (cz (K:=K) ⋯ Pa Pg Ph cX (pv 4) (pa1 (wcal eD L (pa2 (ak bU (aD K (pv 0) aa) (ak bg (pv 5) aa)) (ak bU (aD K (pv 0) aa) (ak bg (pv 5) aa)))))))))
     (sret (pv 4))))
     ao)
   (ae (aC (wpt aG (pv 2) aa)
     (sret (aZ (ai aw (ai (pv 3) (ai (wcal eD L (pa2 (aD K (pv 0) aa) (aD K (pv 0) aa))) (ai (wcal eD L (pa2 (aD K (pv 0) aa) (aD K (pv 0) aa))) aN))))))
     ao)
   (ae (aC (wpt aG (pv 2) aa)
     (sret (aZ (ai (aD K (cf [.str "same", .str "common"] #[9]) (ak aK (aD K (pv 0) aa) aa)) (ai (pv 3) (ai (wcal cA L (pa1 (aD K (pv 0) aa))) aN)))))
     ao)
   (sret (aZ (ai (aD K (cf [.str "rank", .str "closed"] #[9]) (ak fj (pv 2) aa)) (ai (pv 3) (ai (wcal gy L (pa2 (aD K (pv 0) aa) aa)) aN)))))))))))),6]
 refine aq (λc B=>Same H B/\∃z:Str,Wd z/\c=[XS a,some (.str z),none,none,none,none]) ?_ λq=> ?_
 rotate_left
 .show#[bM ∅,λg U=> ?_];have A:=Same.new (o:= .lst (fv.map V.str)) U;have m8:=bL (x:=xs.getD 1 0) (m:=8) ∅;obtain⟨z,ez,mz⟩:=dG (ws:=fv) m8.1 m8.2;show#[7,a,3,A.seq r,hx.a (j:=1) ∅,846];show#[g,3,SqL.of ag,ez,q _ _ #[A,z,62]];have:∀z∈fv,wmB 60 (cp z)=true:=∅
  exact cwd (this z mz)
 rintro c B ⟨l,v,hv,rfl⟩;refine aq (λc d=>B=d/\∃y:Int,0<=y/\y<7/\c=[XS a,some (.str v),XZ y,none,none,none]) ?_ λq=> ?_
 rotate_left
 .have m9:=bL (x:=xs.getD 0 0) (m:=7) ∅;show#[7,a,3,l.seq r,hx.a (j:=0) ∅,84,q _ _ #[21,m9.1,m9.2,2]]
 rintro c d ⟨rfl,y,y0,y7,rfl⟩;refine aq (λc d=>Same H d/\∃z:Str,Wd z/\c=[XS a,some (.str v),XZ y,some (.str z),none,none]) ?_ λq=> ?_
 rotate_left
 .show#[7,a,3,l.seq r,hx.a (j:=2) ∅,7,(hx.b 2).1,λz H1 hz s=>q _ _ #[l.trans s,z,hz.w,2]]
 clear l;rintro c B ⟨l,u,hu,rfl⟩;refine aq (λc d=>B=d/\¬y<2/\c=[XS a,some (.str v),XZ y,some (.str u),none,none]) ?_ λq=> ?_
 rotate_left
 .show#[787,bJ (λ_=> ?_) λh=>q _ _ #[2,λe=>h (N2 e),2]];show#[77,bM #[5],λp f=>k p [_,_] _ (l.trans (Same.new f)) (bS l f) ag (wl2 ∅ hv hu) (N3 2)]
 rintro c d ⟨rfl,n2,rfl⟩;refine aq (λc d=>B=d/\y≠2/\c=[XS a,some (.str v),XZ y,some (.str u),none,none]) ?_ λq=> ?_
 rotate_left
 .show#[727,bJ (λ_=> ?_) λh=>q _ _ #[2,nZ h,2]];refine aq (λc d=>∃(p:Addr)(ws:r9),Same H d/\H p=none/\d p=some (.lst (ws.map V.str))/\Wl 2 ws/\2<=ws.length/\c=[XS a,some (.str v),XZ y,some (.str u),XS p,none]) ?_ λhM=> ?_
  rotate_left
  .show#[7,bM #[5],λp f=>hM _ _ #[p,["heaviest",u],l.trans (Same.new f),bS l f,ag,wl2 ∅ (cwd ∅) hu,N3 2,2]]
  rintro c d ⟨p,ws,bp,f,M,N,w2,rfl⟩;have m10:=bL (x:=xs.getD 3 0) (m:=10) ∅;show#[7,a,3,bp.seq r,hx.a (j:=3) ∅,847996];refine cZ (n:=(xs.getD 3 0 % 10).toNat) (λi c d=>∃(ws:r9)(v5:Option V),Same H d/\d p=some (.lst (ws.map V.str))/\Wl (2+i) ws/\2<=ws.length/\c=[XS a,some (.str v),XZ y,some (.str u),XS p,v5]) #[ws,none,bp,M,N,w2,2] ?_ ?_
  .rintro i c O hi ⟨ws,v5,af,M,N,w2,rfl⟩;rw[Qq];have G:=hx.b 4;have J:=hx.b 5;show#[7, .inl #[21,SqL.of M],7,a,3,af.seq r,hx.a (j:=4) ∅,788,#[99],7,a,3,af.seq r,hx.a (j:=5) ∅,788,#[99],6];show#[17,rM G.1 (),vK G.1 G.2 (),rM J.1 (),vK J.1 J.2 (),λz H' hz s _=> ?_];show#[p,8,s.at M,by rw[My];exact Om N.le (N7 (show 2+i<100 by lia) ∅),6];show#[11,(af.trans s).upd f,by rw[ag,cR],N.push hz,by rw[Od];lia,2]
  .rintro c O ⟨ws,v5,af,M,N,w2,rfl⟩;show#[7,k p ws O af f M (N.mono ()) w2]
 rintro c d ⟨rfl,c1,rfl⟩;refine aq (λc d=>B=d/\y≠3/\c=[XS a,some (.str v),XZ y,some (.str u),none,none]) ?_ λq=> ?_
 rotate_left
 .show#[727,bJ (λ_=> ?_) λh=>q _ _ #[2,nZ h,2]];have b3:=hx.b 3;have G:=hx.b 4;have J:=hx.b 5;have b6:=hx.b 6;show#[77,a,3,l.seq r,hx.a (j:=3) ∅,7,a,3,l.seq r,hx.a (j:=4) ∅,17,b3.1,b3.2,G.1,G.2,λz O hz s _=> ?_];show#[7,a,3,(l.trans s).seq r,hx.a (j:=5) ∅,7,a,3,(l.trans s).seq r,hx.a (j:=6) ∅,17,J.1,J.2,b6.1,b6.2,λz2 H5 b7 s2 _=>#[bM #[5],λp f=> ?_]];exact k p [_,_,_,_] _ (((l.trans s).trans s2).trans (Same.new f)) (bS ((l.trans s).trans s2) f) ag (wl4 ∅ (cwd ∅) hu hz b7) (by show 2<=4;decide)
 rintro c d ⟨rfl,n3,rfl⟩;refine aq (λc d=>B=d/\y≠4/\c=[XS a,some (.str v),XZ y,some (.str u),none,none]) ?_ λq=> ?_
 rotate_left
 .show#[727,bJ (λ_=> ?_) λh=>q _ _ #[2,nZ h,2]];show#[bM ∅,λg U=> ?_];have A:=l.trans (Same.new (o:= .lst ((["same","common"]:r9).map V.str)) U);have m2:=bL (x:=xs.getD 3 0) (m:=2) ∅;obtain⟨t,et,mt⟩:=dG (ws:=["same","common"]) m2.1 m2.2;have ht:Wd t:=by
   have:∀z∈([("same":Str),"common"]:r9),wmB 60 (cp z)=true:=∅
   exact cwd (this t mt)
  show#[7,a,3,A.seq r,hx.a (j:=3) ∅,84,g,3,SqL.of ag,et,6];show#[77,a,3,A.seq r,hx.a (j:=4) ∅,7,(hx.b 4).1,λz O hz s=>#[bM #[5],λp f=> ?_]];exact k p [_,_,_] _ ((A.trans s).trans (Same.new f)) (bS (A.trans s) f) ag (wl3 ∅ ht hu hz.w) (by show 2<=3;decide)
 rintro c d ⟨rfl,n4,rfl⟩;show#[bM ∅,λg U=> ?_];have A:=l.trans (Same.new (o:= .lst ((["rank","closed"]:r9).map V.str)) U);obtain⟨t,et,mt⟩:=dG (ws:=["rank","closed"]) (x:=y-5) () (by show y-5<((2:Nat):Int);lia);have ht:Wd t:=by
  have:∀z∈([("rank":Str),"closed"]:r9),wmB 60 (cp z)=true:=∅
  exact cwd (this t mt)
 show#[78,g,3,SqL.of ag,et,6];show#[77,a,3,A.seq r,hx.a (j:=3) ∅,_,(8),2,(hx.b 3).1,4,λz O hz s=>#[bM #[5],λp f=> ?_]];exact k p [_,_,_] _ ((A.trans s).trans (Same.new f)) (bS (A.trans s) f) ag (wl3 ∅ ht hu hz.w) (by show 2<=3;decide)
theorem nz:Ca 1 "_law_odd_word" ["_law_number"] (J9 (Wm 9)):=by
 refine cl 88 ["_law_number","_law_some"] λH Q E nd s h=> ?_;obtain⟨x,rfl,h0,k⟩:=h;obtain⟨t,q,p1,u,v,r,y,p2,hb,e,f,i⟩:=Fo;rw[hb];show#[_,ae (wset 1 nd (cf _ e) rfl (by first|exact PR rfl|exact Or.inr rfl) (i _)) (ae (wset 1 nd (ak fZ (pv 1) (cf _ f))) (au (EY (aD K (pv 1) (ak aK (pv 0) (wlen K hT.len_ (pv 1))))))),6];show#[bM ∅,λg j=> ?_];show#[7,bM ∅,λg2 b=> ?_];show#[g,g2,8,(Same.new b).at ag,ag,bM ∅,λg3 l=> ?_];have p:=((Same.new (o:= .lst (vz.map V.str)) j).trans (Same.new (o:= .lst (vy.map V.str)) b)).trans (Same.new (o:= .lst (vz.map V.str++vy.map V.str)) l);have a:upd (upd (upd H g (.lst (vz.map V.str))) g2 (.lst (vy.map V.str))) g3 (.lst (vz.map V.str++vy.map V.str)) g3=some (.lst ((vz++vy).map V.str)):=by rw[ag,O1]
 show#[777,g3,7, .inl (SqL.of a),846];have c:=bL (x:=x) (m:=(((vz++vy).map V.str).length:Nat)) ∅;obtain⟨z,d,n⟩:=dG (ws:=vz++vy) c.1 (by have:=c.2;rwa[My]at this);have:∀z∈vz++vy,wmB 9 (cp z)=true:=∅
 show#[g3,3,SqL.of a,d,k z _ (nX (this z n)) p]
theorem jD:Ca 2 "_law_spoilt_words" ["_law_words","_law_xs"] (MF K):=by
 refine cl 89 ["_law_words","_law_xs","_law_at"] λH Q E nd hr h=> ?_;obtain⟨b,ws,a,xs,rfl,hb,t,lo,w2,r,hx,k⟩:=h;show#[_,(ae (wset 2 nd (ak aK (aD K (pv 1) aa) (wlen K hT.len_ (pv 0))))
   (ae (aC (wpt aG (ak aK (aD K (pv 1) aa) aa) aa)
     (sret (ak fZ (aI (a5 (K:=K) ⋯) (pv 0) aU (aQ (pv 2))) (aI (a5 (K:=K) ⋯) (pv 0) (aQ (ak bg (pv 2) aa)) aU)))
     ao)
   (ae (aC (wpt aG (ak aK (aD K (pv 1) aa) aa) aa)
     (sret (ak fZ (ak fZ (aI (a5 (K:=K) ⋯) (pv 0) aU (aQ (pv 2))) (aZ (pa1 (aD K (pv 0) (pv 2))))) (aI (a5 (K:=K) ⋯) (pv 0) (aQ (pv 2)) aU)))
     ao)
   (sret (ak fZ (ak fZ (aI (a5 (K:=K) ⋯) (pv 0) aU (aQ (pv 2))) (aZ (pa1 (wcal nz hr (pa1 (aD K (pv 1) aa)))))) (aI (a5 (K:=K) ⋯) (pv 0) (aQ (ak bg (pv 2) aa)) aU)))))),6]
 have O:(0:Int)<(ws.length:Nat):=()
 refine aq (λl f=>H=f/\∃i:Nat,i<ws.length/\l=[XS b,XS a,XQ i]) ?_ λq=> ?_
 rotate_left
 .have m:=bL (x:=xs.getD 8 0) O;show#[7,a,3,r,hx.a (j:=8) ∅,7,b,7, .inl (SqL.of hb),866]
  .rw[My];exact O
  rw[My];obtain⟨i,ei⟩:=OJ m.1;exact q _ _ #[2,i,9,by unfold XQ;rw[<-ei];rfl]
 rintro l f ⟨rfl,i,il,rfl⟩;have J:dE (ws.map V.str) none (some (i:Int))=(ws.take i).map V.str:=by rw[BI,Tn]
 have v:∀j:Nat,dE (ws.map V.str) (some (j:Int)) none=(ws.drop j).map V.str:=λj=>by rw[bG,To]
 have u:Wl i (ws.take i):=#[by rw[Ow];lia,λz hz=>t.ok z (Ri hz)];have wd:∀j,Wl (ws.length-j) (ws.drop j):=λj=>#[by rw[OU];exact N3 _,λz hz=>t.ok z (QL hz)];have bp:=t.le;have sz:∀n:Nat,n<=200->n<=sizeLine:=λn h=>NV h ∅;have ends:∀(c:Hp)(e:Addr)(us:r9)(j:Nat)(R:VK),Same H c->c e=some (.lst (us.map V.str))->Wl (i+1) us->(us=ws.take i\/∃z,us=ws.take i++[z])->i<=j/\j<=i+1->(us.length+(ws.length-j)>=1)->(∀p vs H',Same H H'->H' p=some (.lst (vs.map V.str))->Wl 90 vs->Low 60 10 vs->0<vs.length->R (.ref p) H')->∀p2,c p2=none->Li (.ref e) (.ref p2) (upd c p2 (.lst ((ws.drop j).map V.str))) R:=λc e us j R G y wu hu ij hl B p2 d=>by show#[e,p2,8,(Same.new d).at y,ag,sz _ (by rw[My,My,OU];have:=wu.le;lia),λp3 o=> ?_];rw[<-O1];exact B p3 _ _ ((G.trans (Same.new d)).trans (Same.new o)) ag ((wu.app (wd j)).mono ()) (lo.ins ij.1 hu) (by rw[Od,OU];lia)
 refine aq (λl f=>H=f/\l=[XS b,XS a,XQ i]) ?_ λq=> ?_
 rotate_left
 .show#[7,a,3,r,hx.a (j:=9) ∅,8427,bJ (λ_=> ?_) λ_=>q _ _ #[22]];show#[777,b,7,SqL.of hb,λp1 g=> ?_];rw[J];show#[7787,b,7,SqL.of ((Same.new g).at hb),λp2 d=> ?_];rw[show dE (ws.map V.str) (some ((i:Int)+1)) none=(ws.drop (i+1)).map V.str from v (i+1)];exact ends _ p1 (ws.take i) (i+1) _ (Same.new g) ag (u.mono ()) (.inl rfl) #[99] (by rw[Ow];lia) k p2 d
 rintro l f ⟨rfl,rfl⟩;have ab:∀(c:Hp)(p1:Addr)(z:Str)(R:VK),Same H c->c p1=some (.lst ((ws.take i).map V.str))->Wd z->(∀(H':Hp)(e:Addr),Same H H'->H' e=some (.lst ((ws.take i++[z]).map V.str))->R (.ref e) H')->∀p2,c p2=none->Li (.ref p1) (.ref p2) (upd c p2 (.lst [.str z])) R:=λc p1 z R G y L B p2 d=>by show#[p1,p2,8,(Same.new d).at y,ag,sz _ (by rw[My];have:=u.le;show _+1<=200;lia),λp3 o=> ?_];rw[cR];exact B _ p3 ((G.trans (Same.new d)).trans (Same.new o)) ag
 obtain⟨M,N⟩:∃z,ws[i]?=some z:=#[_,Ob il];have ar:=t.ok M (N5 N);have U:∀z:Str,(ws.take i++[z]).length>=1:=λz=>by rw[Od];show _+1>=1;lia
 refine aq (λl f=>H=f/\l=[XS b,XS a,XQ i]) ?_ λq=> ?_
 rotate_left
 .show#[7,a,3,r,hx.a (j:=9) ∅,8427,bJ (λ_=> ?_) λ_=>q _ _ #[22]];show#[777,b,7,SqL.of hb,λp1 g=> ?_];rw[J];show#[77,b,3,SqL.of ((Same.new g).at hb),aR N,bM #[5],λp2 d=> ?_];refine ab _ p1 M _ (Same.new g) ag ar (λH' e s A=> ?_) p2 d;show#[777,b,7,SqL.of (s.at hb),λp3 o=> ?_];rw[v i];exact ends _ e _ i _ s A (u.push ar) (.inr #[7]) #[99] (by have:=U M;lia) k p3 o
 rintro l f ⟨rfl,rfl⟩;show#[777,b,7,SqL.of hb,λp1 g=> ?_];rw[J];show#[7,a,3,(Same.new g).seq r,hx.a (j:=10) ∅,7,(hx.b 10).1,λz c hz s=>#[bM #[5],λp2 d=> ?_]];have L:=hz.wd ∅;refine ab _ p1 z _ ((Same.new g).trans s) (s.at ag) L (λH' e s A=> ?_) p2 d;show#[7787,b,7,SqL.of (s.at hb),λp3 o=> ?_];rw[show dE (ws.map V.str) (some ((i:Int)+1)) none=(ws.drop (i+1)).map V.str from v (i+1)];exact ends _ e _ (i+1) _ s A (u.push L) (.inr #[7]) #[99] (by have:=U z;lia) k p3 o
theorem j4:Ca 1 "_law_spoilt_line" ["_law_line_here","_law_xs"] (MG K):=by
 refine cl 90 ["_law_line_here","_law_xs","_law_some","_law_sign","_law_at"] λH Q E nd N h=> ?_;obtain⟨z,a,xs,rfl,hz,o,hx,k⟩:=h;show#[_,(ae (wset 2 nd aw)
   (ae (aC (wpt aG (ak aK (aD K (pv 1) aa) aa) aa)
     (au (wset 2 nd aw))
     ao)
   (ae (wset 3 nd (jB iQ (pv 2) (ak aK (aD K (pv 1) aa) (aV bX ⋯ hT.len_ P5 (pa1 (pv 2)))) (λ_ _=>rfl)))
   (ae (wset 4 nd (ak aK (aD K (pv 1) aa) (ak bg (aV bX ⋯ hT.len_ P5 (pa1 (pv 0))) aa)))
   (ae (aC (wpt aG (ak aK (aD K (pv 1) aa) aa) aa)
     (sret (ak cS (aI eW (pv 0) aU (aQ (pv 4))) (aI eW (pv 0) (aQ (ak bg (pv 4) aa)) aU)))
     ao)
   (ae (aC (wpt aG (ak aK (aD K (pv 1) aa) aa) aa)
     (sret (ak cS (ak cS (aI eW (pv 0) aU (aQ (pv 4))) (pv 3)) (aI eW (pv 0) (aQ (ak bg (pv 4) aa)) aU)))
     ao)
   (sret (ak cS (ak cS (aI eW (pv 0) aU (aQ (pv 4))) (pv 3)) (aI eW (pv 0) (aQ (pv 4)) aU))))))))),6]
 have g:z.length<=sizeLine:=NV hz.pl.1 ∅;refine aq (λd b=>H=b/\d=[some (.str z),XS a,some (.str uS),none,none]) ?_ λe=>e _ _ #[22];rintro d b ⟨rfl,rfl⟩;refine aq (λd b=>H=b/\∃y,(y=uS\/y=zk)/\d=[some (.str z),XS a,some (.str y),none,none]) ?_ λe=>#[7,a,3,o,hx.a (j:=11) ∅,8427,bJ (λ_=>e _ _ #[2,zk, .inr rfl,2]) λ_=>e _ _ #[2,uS, .inl rfl,2]];rintro d b ⟨rfl,y,t,rfl⟩;obtain⟨y0,u,M⟩:=EK t;clear t;refine aq (λd b=>H=b/\∃c:Nat,c<128/\d=[some (.str z),some (.ref a),some (.str y),some (.str #[#v[c]]),none]) ?_ λe=> ?_
 rotate_left
 .have m:=bL (x:=xs.getD 10 0) (m:=(y.length:Nat)) ();obtain⟨c,B,J⟩:=GQ (l:=cp y) m.1 (by rw[bh];exact m.2);show#[77,a,3,o,hx.a (j:=10) ∅,7,y,2,NV u ∅,89,y,_,c,22,NV u ∅,B,e _ _ #[2,c,M c J,2]]
 rintro d b ⟨rfl,c,v,rfl⟩;refine aq (λd b=>H=b/\∃i:Nat,i<=z.length/\d=[some (.str z),some (.ref a),some (.str y),some (.str #[#v[c]]),some (.int (i:Int))]) ?_ λe=> ?_
 rotate_left
 .have m:=bL (x:=xs.getD 8 0) (m:=(z.length:Int)+1) ();obtain⟨i,G⟩:=OJ m.1;show#[7,a,3,o,hx.a (j:=8) ∅,7,z,2,g,889,e _ _ #[2,i,9,by rw[<-G];rfl]]
 rintro d b ⟨rfl,i,O,rfl⟩;have z9:=hz.pl.1;obtain⟨q,U⟩:=hz.take i;have sz:∀n:Nat,n<=9001->n<=sizeLine:=λn h=>NV h ∅;have A:∀j:Nat,i<=j->Ln (Txt.slice z none (some (i:Int))++Txt.slice z (some (j:Int)) none):=λj f=>by have l:=mC (z:=z) f;show#[mZ q.2 (hz.drop j).1.2 (),6,(Bv (s:= "") hz.low f ∅).2];rw[nP];have:=(hz.drop j).2;lia
 have one:(cp (#[#v[c]]:Str)).count 32<=1:=by show [c].count 32<=1;exact R6
 have L:bP 1 (#[#v[c]]:Str):=bP.one v;have p:(#[#v[c]]:Str).length=1:=rfl;have r:∀j:Nat,i<=j->Ln (Txt.slice z none (some (i:Int))++#[#v[c]]++Txt.slice z (some (j:Int)) none):=λj f=>by have l:=mC (z:=z) f;have p0:bP 9001 (Txt.slice z none (some (i:Int))++#[#v[c]]):=mZ q.2 L.2 (by rw[p];have:=q.1;lia);show#[mZ p0.2 (hz.drop j).1.2 (by rw[vE,p];lia),6,(Bv (s:=#[#v[c]]) hz.low f (N3 1)).1];rw[nP,nP];have:=(hz.drop j).2;lia
 have f0:∀j:Nat,i<=j->(Txt.slice z none (some (i:Int))).length+(Txt.slice z (some (j:Int)) none).length<=sizeLine:=λj f=>sz _ (by have:=mC (z:=z) f;lia);have f1:(Txt.slice z none (some (i:Int))).length+(#[#v[c]]:Str).length<=sizeLine:=sz _ (by rw[p];have:=q.1;lia);have f2:∀j:Nat,i<=j->(Txt.slice z none (some (i:Int))++#[#v[c]]).length+(Txt.slice z (some (j:Int)) none).length<=sizeLine:=λj f=>sz _ (by rw[vE,p];have:=mC (z:=z) f;lia);refine aq (λd b=>H=b/\d=[some (.str z),some (.ref a),some (.str y),some (.str #[#v[c]]),some (.int (i:Int))]) ?_ λe=> ?_
 rotate_left
 .show#[7,a,3,o,hx.a (j:=9) ∅,8427,bJ (λ_=> ?_) λ_=>e _ _ #[22]];show#[777,z,2,g,7787,z,2,g,8,f0 (i+1) (),k _ (A (i+1) ())]
 rintro d b ⟨rfl,rfl⟩;refine aq (λd b=>H=b/\d=[some (.str z),some (.ref a),some (.str y),some (.str #[#v[c]]),some (.int (i:Int))]) ?_ λe=> ?_
 rotate_left
 .show#[7,a,3,o,hx.a (j:=9) ∅,8427,bJ (λ_=> ?_) λ_=>e _ _ #[22]];show#[777,z,2,g,78,f1,7787,z,2,g,8,f2 (i+1) (),k _ (r (i+1) ())]
 rintro d b ⟨rfl,rfl⟩;show#[777,z,2,g,78,f1,777,z,2,g,8,f2 i (),k _ (r i ())]
theorem vv:Ca 4 "_law_line" ["_law_xs"] (K4 K):=by
 refine cl 91 ["_law_xs","_law_words","_law_line_here","_law_made_here"] λH Q E nd J h=> ?_;obtain⟨a,xs,rfl,n,hx,k⟩:=h;obtain⟨e1,q1,q2,q3,hb,h1⟩:=Dh;rw[hb];show#[_,(ae (aC (wpt aG (ak aK (ak bU (aD K (pv 0) aa) aa) aa) aa)
     (sret (aD K (cf _ h1) (ak aK (aD K (pv 0) aa) aa)))
     ao)
   (ae (wset 1 nd (wcal sA J (pa1 (pv 0))))
   (ae (aC (wpt aG (ak aK (aD K (pv 0) aa) aa) aa)
     (au (wset 1 nd (ak fZ (aZ (pa2 (wcal cA J (pa1 (aD K (pv 0) aa))) aw)) (wcal vt J (pa1 (pv 0))))))
     ao)
   (ae (wset 2 nd (cz (K:=K) ⋯ O5 QD QE (jH (K:=K) ⋯) aw (pa1 (pv 1))))
   (ae (wset 3 nd (pv 2))
   (ae (aC (wpt aG (ak aK (ak bU (aD K (pv 0) aa) aa) aa) aa)
     (au (wset 3 nd (cz (K:=K) ⋯ O5 QD QE (jH (K:=K) ⋯) aw (pa1 (wcal jD J (pa2 (pv 1) (pv 0)))))))
     ao)
   (ae (aC (wpt aG (ak aK (ak bU (aD K (pv 0) aa) aa) aa) aa)
     (au (wset 3 nd (wcal j4 J (pa2 (pv 2) (pv 0)))))
     ao)
   (ae (aC (wpt gX (wlen K hT.len_ (dr ["_law_word"] [] [] (wil K (cz (K:=K) ⋯ O5 RM RN rh (pv 3) (pa1 aw))) (wnY 0) (cH (wpt gX (aV bX ⋯ hT.len_ P5 (pa1 (pv 0))) aa)) (pv 0))) aa)
     (sret (pv 2))
     ao)
   (sret (pv 3)))))))))),6]
 refine aq (λc f=>H=f/\c=[XS a,none,none,none]) ?_ λd=> ?_
 rotate_left
 .show#[7,a,3,n,hx.a (j:=7) ∅,8,#[44],8427,bJ (λ_=> ?_) λ_=>d _ _ #[22]];show#[bM ∅,λg B=> ?_];have L:=Same.new (o:= .lst (Fp.map V.str)) B;have m8:=bL (x:=xs.getD 8 0) (m:=8) ∅;obtain⟨z,ez,mz⟩:=dG (ws:=Fp) m8.1 m8.2;show#[7,a,3,L.seq n,hx.a (j:=8) ∅,84,g,3,SqL.of ag,ez,k z _ (CU mz) L]
 rintro c f ⟨rfl,rfl⟩;refine aq (λc f=>∃(p:Addr)(ws:r9),Same H f/\f p=some (.lst (ws.map V.str))/\Wl 80 ws/\Low 42 4 ws/\2<=ws.length/\c=[XS a,XS p,none,none]) ?_ λd=>#[7,a,xs,2,n,hx,λp ws H' s _ h2 r A=>d _ _ #[p,ws,s,h2,r.mono ∅, .inl (NV r.le ∅),A,2]];rintro c f ⟨p,ws,e,G,r,t,A,rfl⟩;refine aq (λc f=>∃(p:Addr)(ws:r9),Same H f/\f p=some (.lst (ws.map V.str))/\Wl 80 ws/\Low 42 4 ws/\2<=ws.length/\c=[XS a,XS p,none,none]) ?_ λd=> ?_
 rotate_left
 .show#[7,a,3,e.seq n,hx.a (j:=7) ∅,8427,bJ (λ_=> ?_) λ_=>d _ _ #[p,ws,e,G,r,t,A,2]];show#[7,a,3,e.seq n,hx.a (j:=11) ∅,7,(hx.b 11).1,λz H1 hz s=>#[bM #[5],λg B=> ?_]];have s1:=(e.trans s).trans (Same.new (o:= .lst ([z,("=":Str)].map V.str)) B);show#[7,a,xs,2,s1.seq n,hx,λq us l U _ O N t u2=> ?_];have lu:=N.le;show#[g,q,8,U.at ag,O,NV (show _<=200 by rw[My];show 2+us.length<=200;lia) ∅,λg3 bN=> ?_];exact d _ _ #[g3,[z,"="]++us,(s1.trans U).trans (Same.new bN),by rw[ag,O1];rfl,((wl2 (N3 2) hz.w (cwd ∅)).app N).mono ∅,Jp t,by rw[Od];lia,2]
 clear G r t A e;rintro c f ⟨p,ws,e,G,r,t,A,rfl⟩;have jn:=r.jn ∅ () (t.mono ∅ ∅);refine aq (λc l=>f=l/\c=[XS a,XS p,some (.str (Txt.join " " ws)),none]) ?_ λd=>#[271,p,ws,22,SqL.of G,r.fits ∅,d _ _ #[22]];rintro c l ⟨rfl,rfl⟩;generalize Txt.join " " ws=z at*;refine aq (λc l=>f=l/\c=[XS a,XS p,some (.str z),some (.str z)]) ?_ λd=>#[7,d _ _ #[22]];rintro c l ⟨rfl,rfl⟩;refine aq (λc l=>∃y,Same H l/\Ln y/\c=[XS a,XS p,some (.str z),some (.str y)]) ?_ λd=> ?_
 rotate_left
 .show#[7,a,3,e.seq n,hx.a (j:=7) ∅,8,#[44],8427,bJ (λ_=> ?_) λ_=>d _ _ #[z,e,jn.ln,2]];show#[277,p,ws,a,xs,2,G,r,t.mono ∅ ∅,A,e.seq n,hx,λq us l U O N lu u0=> ?_];show#[_,q,us,22,SqL.of O,N.fits ∅,d _ _ #[_,e.trans U,N.ln ∅ u0 lu,2]]
 rintro c l ⟨y,M,u,rfl⟩;refine aq (λc l=>∃y,Same H l/\Ln y/\c=[XS a,XS p,some (.str z),some (.str y)]) ?_ λd=> ?_
 rotate_left
 .show#[7,a,3,M.seq n,hx.a (j:=7) ∅,8,#[44],8427,bJ (λ_=> ?_) λ_=>d _ _ #[y,M,u,2]];show#[77,z,a,xs,2,jn,M.seq n,hx,λy2 l2=>d _ _ #[y2,M,l2,2]]
 clear u M;rintro c H4 ⟨y,b4,u,rfl⟩;refine aq (λc H5=>Same H H5/\(∀x∈aB y,x.length<=60)/\c=[XS a,XS p,some (.str z),some (.str y)]) ?_ λd=> ?_
 .rintro c H5 ⟨b5,bp,rfl⟩;show#[7,k y H5 (u.text bp) b5]
 show#[72,y,722,NV (show y.length+2<=10002 by have:=u.pl.1;lia) ∅,λg B=> ?_];have L:=b4.trans (Same.new (o:= .lst ((aB y).map V.str)) B);have ar:upd H4 g (.lst ((aB y).map V.str)) g=some (.lst ((aB y).map V.str)):=ag;have zw:=Ea u;show#[g,2,#[_,SqL.of ar],6];refine bO (λv=>decide (60<(om v).length)) (λv=> .str (om v)) (SqL.of ar) (by rw[My,jS];exact NV (show _<=401 by have:=u.few;lia) ∅) (λi v vs H' R S b2 hv e hk=> ?_) λq H' O e hl=> ?_
 .obtain⟨v0,rfl⟩:=aX hv;obtain⟨x,rfl,hz⟩:=dI b2;have zm:=N5 hz;have q:if decide (60<x.length)=true then _ else _:=hk [some (.str x)] H' rfl (Same.refl _);show#[7,x,2,NV (zw x zm) ∅,876];by_cases hc:60<x.length
  .rw[N2 hc]at q;rw[N2 (show(60:Int)<(x.length:Nat) by lia)];exact aP #[7,q]
  .rw[NX hc]at q;rw[NX (show¬(60:Int)<(x.length:Nat) by lia)];exact aS q
 .rw[kY (λz=>decide (60<z.length)) (λz=>z)]at hl;show#[q,7, .inl (SqL.of hl),87,bJ (λ_=>#[7,k z H' jn.text (L.trans e)]) λhb=>d _ _ #[L.trans e,λx hx=> ?_,2]];refine Qf λh=>hb (N2 ?_);have m:x∈(aB y).filter λz=>decide (60<z.length):=Pp.mpr #[hx,N2 h];have:=List.length_pos_of_mem m;rw[List.map_id',My];lia
theorem vq:Ca 11 "_law_said" ["_law_desk","_law_line_here"] (K0 1149 212 224 200):=by
 obtain⟨q,M,N,O,ab⟩:∃Ok:Value->Prop,Ok (.ref 212)/\Ok (.ref 224)/\Ok (.ref 200)/\∀cls,Ok cls->exmOne K cls (.ref 168)=some true:=#[λc=>exmOne K c (.ref 168)=some true,cT.s.x1,cT.s.x2,cT.s.x3,λ_ h=>h];refine cl 92 ["_law_desk","_law_line_here","_law_caught","_law_answer","e"] λH Q E nd B h=> ?_;obtain⟨p,d,z,rfl,A,hz,G,J⟩:=h;show#[_,(ae (wset 2 nd dA)
   (ae (wset 3 nd dA)
   (ae (IH (i:=3) (j:=4) (Ok:=q) mS B ∅ nd ⋯ (PR rfl) ⋯ ⋯ ⋯ (gR 8) ab rfl rfl rfl (λ_=>(pv 0)) (λ_=>(pa1 (pv 1)))
     (λ_=>(au (wset 2 nd (pv 4)))))
   (sret (cn (pa2 (pv 2) (pv 3))))))),6]
 obtain⟨m,o,y⟩:=A;have r:lnW (aB z)=0->Ap 212 224 200 (lnW (aB z))=212:=λe=>by rw[e];rfl
 have u:lnW (aB z)=1->Ap 212 224 200 (lnW (aB z))=224:=λe=>by rw[e];rfl
 have v:lnW (aB z)=3->Ap 212 224 200 (lnW (aB z))=200:=λe=>by rw[e];rfl
 have l:∀(k a t:Addr)(H':Hp),Ap 212 224 200 (lnW (aB z))=k->lnW (aB z)≠2->Same H H'->H' a=none->upd H' a (jQ a (.ref k)) t=none->Q (.ref t) (upd (upd H' a (jQ a (.ref k))) t (.tup [.ref a, .non])):=λk a t H' e L g f b=>by have n:upd H' a (jQ a (.ref k)) a=some (jQ a (.ref k)):=ag;refine G a t _ L ((g.trans (Same.new f)).trans (Same.new b)) ?_ ag;rw[aj (ah n b),e];exact n
 show#[7,p,m,7,o,Gw _ #[9],7,p,d,z,2,#[m,o,y],hz,λe H' a g=>#[a,2,M,λf=>#[777,bM (QF 2 98),λt b=>l _ a t H' (r e) () g f b]],λe H' a g=>#[a,2,N,λf=>#[777,bM (QF 2 98),λt b=>l _ a t H' (u e) () g f b]],λe H' a g=>#[a,2,O,λf=>#[777,bM (QF 2 98),λt b=>l _ a t H' (v e) () g f b]],λx H' U=> ?_];show#[77,bM ∅,λt b=>J t _ x (U.new b) ag]
theorem vo:Ca 1 "_law_sort" ["_law_caught"] (KY 212 224 200):=by
 refine cl 93 ["_law_caught","_law_sorts"] λH Q E nd hr h=> ?_;obtain⟨r,u,rfl,d,k2,k⟩:=h;show#[_,(ae (aC (fi (cj (aV (DU (K:=K) ⋯) ⋯ hT.isinstance_ Pe (pa2 (pv 0) (Bk (v:= .ty "ValueError") ⋯ hT.ValueError_ pE rfl)))))
     (sret aw)
     ao)
   (ae (wset 1 nd (aZ (ai (aV (ib (K:=K) ⋯) ⋯ hT.isinstance_ Pe (pa2 (pv 0) (a8 (v:= .ref 212) ⋯ (gR 10) rfl))) (ai (aV (ib (K:=K) ⋯) ⋯ hT.isinstance_ Pe (pa2 (pv 0) (a8 (v:= .ref 224) ⋯ (gR 11) rfl))) (ai (aV (ib (K:=K) ⋯) ⋯ hT.isinstance_ Pe (pa2 (pv 0) (a8 (v:= .ref 200) ⋯ (gR 7) rfl))) aN)))))
   (ae (wset 1 nd (ak fZ (pv 1) (aZ (pa2 (aV (ib (K:=K) ⋯) ⋯ hT.isinstance_ Pe (pa2 (pv 0) (a8 (v:= .ref 236) ⋯ (gR 12) rfl))) (aV (ib (K:=K) ⋯) ⋯ hT.isinstance_ Pe (pa2 (pv 0) (a8 (v:= .ref 181) ⋯ (gR 9) rfl)))))))
   (ae (aC (wpt i7 (wlen K hT.len_ (dr ["_law_one"] [] [] (wil K (pv 1)) (wnY 0) (cH (cj (pv 0))) (pv 0))) aa)
     (sret aw)
     ao)
   (sret (aD K (cf [.str "line", .str "name", .str "house", .str "fit", .str "set"] #[9]) (cz (K:=K) ⋯ Pa PySem.F.slot_list_index PySem.F.type_list_index C5 (pv 1) (pa1 i5)))))))),6]
 obtain⟨C,a,b,c,j,y,e,hC,B,J⟩:∃(C:Addr)(a b c:Bool)(j:Nat)(y:Str),yr K C 212 224 200 236 181 a b c/\H r=some (jQ r (.ref C))/\((a=true/\b=false/\c=false/\j=0)\/(a=false/\b=true/\c=false/\j=1)\/(a=false/\b=false/\c=true/\j=2))/\atI [V.str "line",V.str "name",V.str "house",V.str "fit",V.str "set"] (j:Int)=some (.str y)/\gf u=y:=by
  unfold Ap at d;by_cases h0:u=0
  .rw[NZ h0]at d;show#[1111,0,_,cT.s.k1,d, .inl #[2222],2,by rw[h0];rfl]
  rw[NW h0]at d;by_cases p:u=1
  .rw[NZ p]at d;show#[1111,(1),_,cT.s.k2,d, .inr (.inl #[2222]),2,by rw[p];rfl]
  rw[NW p]at d;show#[1111,(2),_,cT.s.k3,d, .inr (.inr #[2222]),26];unfold gf;rw[NW h0,NW p,NW k2]
 have ty:∀H',Same H H'->TyX K H' (.ref r) (.ref C):=λH' g=> .exc (g.at hC) e.ek;show#[71117,ty _ (Same.refl _),e.v,7,aS ?_];show#[71117,ty _ (Same.refl _),e.l,71117,ty _ (Same.refl _),e.n,71117,ty _ (Same.refl _),e.h,bM (QF 3 97),λg1 M=> ?_];have m1:Same H (upd H g1 (.lst [.bl a, .bl b, .bl c])):=Same.new M;show#[771117,ty _ m1,e.f,71117,ty _ m1,e.s,bM ∅,λg2 z=> ?_];show#[g1,g2,8,(Same.new z).at ag,ag,bM (QF 5 95),λg3 N=> ?_];have t:upd (upd (upd H g1 (.lst [.bl a, .bl b, .bl c])) g2 (.lst [.bl false, .bl false])) g3 (.lst ([.bl a, .bl b, .bl c]++[.bl false, .bl false])) g3=some (.lst ([a,b,c,false,false].map V.bl)):=ag;have m3:Same H (upd (upd (upd H g1 (.lst [.bl a, .bl b, .bl c])) g2 (.lst [.bl false, .bl false])) g3 (.lst ([.bl a, .bl b, .bl c]++[.bl false, .bl false]))):=(m1.trans (Same.new z)).trans (Same.new N);generalize upd (upd (upd H g1 (.lst [.bl a, .bl b, .bl c])) g2 (.lst [.bl false, .bl false])) g3 (.lst ([.bl a, .bl b, .bl c]++[.bl false, .bl false]))=H3 at*;have one:(d5 Nt id ([a,b,c,false,false].map V.bl)).length=1:=by rcases B with ⟨rfl,rfl,rfl,_⟩|⟨rfl,rfl,rfl,_⟩|⟨rfl,rfl,rfl,_⟩<;>rfl
 have L:[a,b,c,false,false][j]?=some true/\∀m,m<j->[a,b,c,false,false][m]?=some false:=by
  rcases B with ⟨rfl,rfl,rfl,rfl⟩|⟨rfl,rfl,rfl,rfl⟩|⟨rfl,rfl,rfl,rfl⟩
  .show#[2,λm h=>absurd h (S8 m)]
  .show#[24]
  .show#[24]
 show#[7,g3,2,#[_,SqL.of t],6];refine bO Nt id (SqL.of t) (bM (QF 5 95)) (λi v vs H' R S ab U g O=> ?_) λq H' hq g hl=> ?_
 .obtain⟨v0,rfl⟩:=aX U;obtain⟨x,rfl⟩:=JV ab;have q:if x=true then _ else _:=O [some (.bl x)] H' rfl (Same.refl _);show#[776];cases x with
  |true=>exact aP #[7,q]
  |false=>exact aS q
 show#[q,7, .inl (SqL.of hl),6];rw[one];show#[27,aS ?_];show#[bM ∅,λg5 A=> ?_];have G:=(g.trans (Same.new (o:= .lst [.str "line", .str "name", .str "house", .str "fit", .str "set"]) A)).at t;show#[7, .inl #[21,SqL.of G],g3,[a,b,c,false,false],j,22,G,L.1,L.2,g5,3,SqL.of ag,J.1,6];rw[J.2]at k;exact k _ (m3.trans (g.trans (Same.new A)))
theorem kr:Ca 12 "_law_holds" ["_law_desk","_law_line_here","_law_due_here"] (K7 1149):=by
 refine cl 94 ["_law_desk","_law_line_here","_law_due_here","_law_caught","_law_answer"] λH Q E nd b h=> ?_;obtain⟨p,d,z,rfl,m,hz,k⟩:=h;show#[_,(ae (Lo (wcal vq b (pa2 (pv 0) (pv 1))) (pJ (K:=K) (n:=2) ⋯ ⋯ (eM (wname 3 nd) (eM (wname 4 nd) pI))))
   (ae (aC (wpt vi (pv 3) dA)
     (sret (wpe aG (wcal vo b (pa1 (pv 3))) (pv 2)))
     ao)
   (sret (dS (jV (eu (K:=K) ⋯) (pv 2) (cf [.str "ok", .str "house"] #[9]) ⋯) (dS (aV (vX (K:=K) ⋯) ⋯ hT.isinstance_ Pe (pa2 (pv 4) (Bk (v:= .ty "str") ⋯ hT.str_ OF rfl))) (dz (wpe aG (pv 4) aw))))))),6]
 show#[77,p,d,z,2,m,hz,λi t H' q c j a=> ?_,λt H' s r a=> ?_]
 .show#[t,7,SqT.of a,26];show#[178727,aP ?_];show#[7,i,7,j,q,λf e=>#[726]];rw[N2 rfl];exact k f (λ_=>c.trans e) (Me (c.trans e))
 .show#[t,7,SqT.of a,26];show#[178727,aS ?_];have o:gf (lnW (aB z))∈(["ok","house"]:r9):=by
   unfold gf;rw[NW (),NW ()];split
   .exact N8
   .exact N4 _ N8
  show#[7,bM ∅,λg l=> ?_];show#[g,(["ok","house"]:r9).map V.str,2, .inl (SqL.of ag),2,j0 _,6];rw[mw,N2 o];show#[true,2,aP #[71117, .str _,hT.kSS,true,2,aP #[726]]];rw[N2 rfl];exact k _ (λh=>absurd h ()) (r.new l)
theorem mP:bZ ["_law_script","_law_cells","_law_k","_law_line_here","_law_due_here","_law_desk"] ["_law_script"] (av qu):=qe
theorem LG(F:Fun K "law" "law" qu f fd):c5 P w K mg base CX0 13 f fd ["_law_script"] (AW K):=by
 refine F.ok mP λct A c4 dc H vs Q E j h=> ?_;obtain⟨a,ns,rfl,ha,hn,k⟩:=h;show#[_,(ae (wset 1 mP.nd (ak fZ (aI (a5 (K:=K) ⋯) (pv 0) aU (aQ aa)) (aZ (pa1 aa))))
   (ae (wfor (wrng hT.range_ (wlen K hT.len_ (pv 1))) (wname 2 mP.nd)
     (ae (wset 3 mP.nd (wcal vv j (pa1 (wcal qU j (pa2 (aD K (pv 1) (pv 2)) (pv 2))))))
     (ae (wset 4 mP.nd (wcal xq j (pa1 (pv 3))))
     (ae (wset 5 mP.nd (IS nDk j ∅ ⋯))
     (ae (aC (fi (cj (wcal kr j (ai (pv 5) (ai (pv 3) (ai (pv 4) aN))))))
       (sret i5)
       ao)
     (au (aC (PW.pt (fX (dk (eu (K:=K) ⋯) (pv 4) (cf [.str "line", .str "name"] #[9]) ⋯) (dR (fi (cj (wcal kr j (ai (pv 5) (ai (pv 3) (ai (pv 4) aN)))))))))
       (sret i5)
       ao)))))))
   (sret i5))),6]
 show#[77,a,7,ha,λp1 cN=> ?_];rw[Mc ∅];show#[by show 1<=sizeLine;decide,λp2 bN=> ?_];have l:upd H p1 (.lst ((ns.take (63:Int).toNat).map V.int)) p1=some (.lst ((ns.take (63:Int).toNat).map V.int)):=ag;show#[p1,p2,8,(by rw[aj (ah l bN)];exact l),ag,6,λp3 c1=> ?_]
 .rw[My,Ow];show min _ _+1<=sizeLine;exact NV (show min (63:Int).toNat ns.length+1<=64 by lia) ∅
 generalize upd (upd H p1 (.lst ((ns.take (63:Int).toNat).map V.int))) p2 (.lst [V.int 0])=m at*;have ec:(ns.take (63:Int).toNat).map V.int++[V.int 0]=(ns.take (63:Int).toNat++[0]).map V.int:=by rw[O1];rfl
 rw[ec];have cv:(ns.take (63:Int).toNat++[0]).length<=64:=by rw[Od,Ow];show min _ _+1<=64;lia
 generalize ns.take (63:Int).toNat++[0]=c at*;have L:upd m p3 (.lst (c.map V.int)) p3=some (.lst (c.map V.int)):=ag;generalize upd m p3 (.lst (c.map V.int))=H2 at*;show#[7,p3,7, .inl (SqL.of L),c.length,by rw[My],996];refine cZ (n:=c.length) (λi B H'=>H' p3=some (.lst (c.map V.int))/\∃u v x y,B=[XS a,XS p3,u,v,x,y]) #[L,1117] ?_ ?_
 .rintro i B H' hi ⟨hl,u,v,x,y,rfl⟩;show#[77,p3,3,SqL.of hl,(by rw[Qq];exact dY hi),7,c.getD i 0,i,by rw[Qq];rfl,9,λpa xs m s1 n1 hx Xx=> ?_];show#[pa,xs,2,SqL.of hx,Xx,λz H2 t s2=> ?_];show#[7,z,2,t,λH3 s3=> ?_];have M:=((s1.trans s2).trans s3).at hl;refine λr dh q O c3=>#[r,dh,2,ag,λd HA hd b0 J=>#[26]];have b8:Same H3 HA:=λb o e=>b0 b o (bE q O b o e) (ah e q);have U:p3≠d:=ah M (bS (bE q O) hd);show#[777,r,d,z,2,J,t,λG s4 b6=>#[true,2,aS ?_]];have N:=b6 p3 _ (b8.at M) U;show#[7,bM ∅,λg hg=> ?_];show#[g,(["line","name"]:r9).map V.str,2, .inl (SqL.of ag),2,j0 _,6];rw[mw];have s:Same G (upd G g (.lst ((["line","name"]:r9).map V.str))):=Same.new hg;by_cases l:lnW (aB z)<=1
  .have p:gf (lnW (aB z))∈(["line","name"]:r9):=by
    unfold gf;split
    .exact N8
    .rw[NZ ()];exact N4 _ N8
   rw[N2 p];show#[true,2,aP #[777,r,d,z,2,J.same ((s4 l).trans s),t,λH5 s5 b7=>#[true,2,aS ?_]]];show#[b7 p3 _ (s.at N) U,1117]
  .have p:¬gf (lnW (aB z))∈(["line","name"]:r9):=by unfold gf;rw[NW (),NW ()];split<;>decide
   rw[NX p];show#[false,2,aS #[s.at N,1117]]
 .rintro B H' ⟨hl,u,v,x,y,rfl⟩;exact k H'
end
theorem all_mk{l:PySem.W.OpenLaw}{K:Frag}{h:Heap}(s:Cs w K)(X:K.In h)(G:h.Ns mainGlobals b)(j:b "law"=some (.ref fa)):
  ∃f:FuncData,(∀(s:tr)(v:Value),BindsTo s f #[[v],[]] [("_law_script",v)])/\∀base:Heap,K.In base->base.Ns mainGlobals b->c5 l.prog w K b base CX0 13 fa f ["_law_script"] (AW K):=by
 have D:HD K "law" qu:=bY s.d (i:=95) rfl;obtain⟨a,e,c,k⟩:=D;cases j.symm.trans (RO X G a);have F:=rF (st:=qu) e c k;have W:=λ(base:Heap) (KB:K.In base) (g:base.Ns mainGlobals b)=>have:Ct l.prog w K b base:=#[s,KB,g];LG F;show#[16,W];exact λs v=> .of_eq rfl
theorem walk{l:PySem.W.OpenLaw}{d:DefRec}{K:Params->Frag}(m:l.most=some 63)(j:d.params.defaults=[])(i:∀(w:vu)(h:Heap),YP w h->(K w.params).In h)(F:∀(w:vu)(b:i2)(c:Addr)(h:Heap),(K w.params).In h->h.Ns mainGlobals b->b d.name=some (.ref c)->
   ∃e:FuncData,(∀(s:tr)(u:Value),BindsTo s e #[[u],[]] [("_law_script",u)])/\∀base:Heap,(K w.params).In base->base.Ns mainGlobals b->c5 l.prog w (K w.params) b base CX0 13 c e ["_law_script"] (AW (K w.params))):
  PySem.W.WalkO q loose XP YP l.row.toRowW d [] (λf vs=>PySem.call f vs):=
 L2.AL (n:=63) (k:=13) (x:= "_law_script") (CX:=λ_=>CX0) (sp:=λw=>AW (K w.params)) m ∅ j #[2442] i F (λ_ _ a ns hl _ g=>#[a,ns,2,g,hl,λ_=>rfl]) λ_ _ _ _ _ z=>z
end BhK
end
namespace Hd
open PySem PySem.W PySem.Calls PyProof.Rows
theorem _root_.PySem.W.Fast.te7239439084724097079:True:=trivial
open PySem.W.Fast PySem.Challenge BhK
noncomputable section
theorem _root_.PySem.W.Fast.tw10153089992843134085:True:=trivial
noncomputable abbrev R(a:Nat):Value:= .ref a
noncomputable abbrev V(x:Str)(t:Nat):Value:= .str x t
noncomputable abbrev I(i:Int):Value:= .int i 0
noncomputable abbrev E(P:Params)(x:Str)(t:Nat)(v:Value):DictEntry:=⟨PyData.keyHash P x, .str x t,v⟩
noncomputable abbrev Y:Obj:=⟨.type "tuple",none, .seq #[] 0, #[]⟩
noncomputable abbrev T(l:List Value):Obj:=⟨.type "tuple",none, .seq ⟨l⟩ 0, #[]⟩
noncomputable abbrev Z:Obj:=⟨.none,none, .fields #[], #[]⟩
noncomputable abbrev W(l:List Value):Obj:=⟨.none,none, .fields ⟨l⟩, #[]⟩
noncomputable abbrev F(n q:Str)(s:Stmt)(g:Nat)(dv kv doc pm:Value)(an:Option Nat)(cd ct:Value)(b:Nat):FuncData:=⟨n,q,L2.bW s, .stmts (L2.aH s),L2.av s,g,[],dv,kv,doc,pm,an,cd,ct,b⟩
noncomputable abbrev C(n q:Str)(t:Nat)(l k g:Int)(x:Nat)(b:Bool)(u v w:Value)(d:Nat):Obj:=⟨.type "code",none, .fields ⟨[.str n t, .str q (t.add 1), .str "/claim/cut.py" (t.add 2), .int l 0, .int k 0, .int 0 0, .int 0 0, .int g 0, .ref x, .bool b, .int 181 0, .ref (x.add 1), .none,u,v,w, .int d 0, .int l 0, .str "/claim/cut.py" (d.add 1)]⟩, #[]⟩
abbrev ff(n q:Str)(s:Stmt):Obj:=⟨.none,none, .func (F n q s 0 .none .none .none .none none .none .none 0), #[]⟩
abbrev fk(n q:Str)(s:Stmt)(m:Value)(c:Nat):Obj:=⟨.type "function",none, .func (F n q s 3 .none .none .none m none (.ref c) .none 0), #[]⟩
abbrev f1(n:Str)(s:Stmt):Obj:=ff n n s
abbrev f2(n:Str)(s:Stmt)(m:Value)(c:Nat):Obj:=fk n n s m c
abbrev C1(n:Str)(t:Nat)(l k g:Int)(x:Nat)(b:Bool)(u v w:Value)(d:Nat):Obj:=C n n t l k g x b u v w d
abbrev kc(n q:Str)(t:Nat)(l k:Int)(w:Nat):Obj:=C n q t l k 3 (w.sub 2) true .none .none (R w) (t.add 3)
abbrev kd(n q:Str)(t:Nat)(l k:Int)(w d:Nat):Obj:=C n q t l k 3 (w.sub 4) true (R (w.sub 2)) (R (w.sub 1)) (R w) d
abbrev ka(n:Str)(t:Nat)(l k:Int)(w:Nat):Obj:=kc n n t l k w
abbrev kb(n:Str)(t:Nat)(l k:Int)(w d:Nat):Obj:=kd n n t l k w d
abbrev D(l:List DictEntry)(k:Nat):Obj:=⟨.type "dict",none, .dict ⟨l⟩ k, #[]⟩
abbrev fr(a b:Nat)(m:Value):Obj:=⟨.type "frame",none,Data.plain, #[some (R a),some (R 3),some (R b),none,some m,none,some (R 0)]⟩
abbrev bf(n:String)(v:Value):Obj:=⟨.type "builtin_function_or_method",none, .fields ⟨[.builtin n,v]⟩, #[]⟩
abbrev m0:=V "basehouse.errors" 380
abbrev m1:=V "basehouse.sets" 187
abbrev m2:=V "basehouse.breaks" 260
abbrev m3:=V "HouseError" 390
abbrev m4:=V "basehouse.houses" 493
abbrev m5:=V "House" 503
abbrev m6:=V "House" 495
abbrev m7:=V "basehouse.turned" 714
abbrev m8:=V "basehouse.tellings" 605
abbrev m9:=V "basehouse.fields" 901
abbrev m10:=V "basehouse.barred" 828
abbrev m11:=V "basehouse.pivots" 865
abbrev m12:=V "basehouse.lines" 1038
abbrev m13:=V "basehouse.names" 1014
abbrev m14:=V "basehouse.answers" 1479
abbrev m15:=V "basehouse.nets" 1321
abbrev m16:=V "basehouse.poly" 1371
abbrev m17:=V "basehouse.tables" 1432
abbrev m18:=V "law_basehouse_k60_lines_read" 1814
abbrev m19:=V "basehouse.desk" 1770
local macro_rules|`(#v[$x,*])=>do{let p:=Lean.mkIdent `P;let s(c:String)(n:String):=Lean.mkIdent (Lean.Name.mkStr4 "PySem" "W" "Fast" (c++toString (Lean.Name.mkStr2 "Hd" n).hash));let g(e:Lean.Term):Lean.MacroM Lean.Term:=match e.raw.isNatLit? with|some n=>`($(s "tw" s!"u{n}") $p)|none=>`($e $p);let z:List Lean.Term:=x.getElems.toList;let y<-`([]);let v<-(match z with|[e]=>pure ⟨(s "te" e.raw.getId.toString).raw⟩|a::r=>if a.raw.isOfKind ``Lean.Parser.Term.hole then r.foldrM (fun (e:Lean.Term) (q:Lean.Term)=>match e with|`(($n:num,$o))=>`((nat_lit $n,$o)::$q)|`(-$n:num)=>`((nat_lit $n,Y)::$q)|_=>do{let k:Lean.NumLit:=⟨e⟩;`((nat_lit $k,$(Lean.mkIdent (Lean.Name.mkSimple s!"o{k.getNat}")))::$q)}) y else if (r.headD a).raw.isStrLit?.isSome then do{let n:=a.raw.isNatLit?.getD 0;let l<-r.zipIdx.mapM fun(e,i)=>`(V $e $(Lean.quote (n+i)));`(T [$(l.toArray),*])} else do{let w<-g z.getLast!;z.dropLast.foldrM (fun e q=>do{`(List.append $(<-g e) $q)}) w}|_=>Lean.Macro.throwUnsupported:Lean.MacroM Lean.Term);pure v}
abbrev o13:=C1 "<module>" 182 1 0 0 11 false .none .none .none 185
abbrev o14:=fr 13 3 (V "__main__" 164)
abbrev g0(P:Params):List DictEntry:=[E P "__name__" 165 m0]
abbrev g1(P:Params):List DictEntry:=[E P "__doc__" 166 .none,E P "__package__" 167 .none,E P "__loader__" 168 (.builtin "__main__.__loader__#opaque"),E P "__spec__" 169 .none,E P "__annotations__" 170 (R 6),E P "__builtins__" 171 (R 4),E P "__file__" 173 (V "/claim/cut.py" 172),E P "__cached__" 174 .none,E P "holds" 196 (R 21),E P "things" 202 (R 26),E P "size" 209 (R 33),E P "set_of" 218 (R 40),E P "within" 226 (R 47),E P "parts" 232 (R 52),E P "choices" 238 (R 57),E P "spread" 244 (R 62),E P "all_of" 251 (R 69),E P "less" 259 (R 76),E P "marked" 267 (R 81),E P "exchanged" 276 (R 88),E P "has_exchange" 287 (R 95),E P "broken_bases" 299 (R 102),E P "holds_ring" 308 (R 109),E P "ring_in_ring" 317 (R 116),E P "rings_without_third" 327 (R 123),E P "broken_rings" 336 (R 130),E P "common_not_listed" 346 (R 137),E P "least_flat" 357 (R 144),E P "flats_that_meet" 369 (R 151),E P "broken_flats" 379 (R 158),E P "HouseError" 399 (R 168),E P "NoSet" 415 (R 181)]
abbrev g2:=[I 2]
abbrev g3:=[I 0,R 20,I 4,I 0,R 25,I 6,I 0,R 32,I 8,I 0,R 39,I 13,I 0,R 46,I 15,I 0,R 51,I 20,I 0,R 56,I 22,I 0,R 61,I 24,I 0,R 68,I 26,I 0,R 75,I 29,I 0,R 80,I 31,I 0,R 87,I 33,I 0,R 94,I 38,I 0,R 101,I 48,I 0,R 108,I 53,I 0,R 115,I 59,I 0,R 122,I 67,I 0,R 129,I 74,I 0,R 136,I 81,I 0,R 143,I 87,I 0,R 150,I 97,I 0,R 157,I 106,I 0,R 164,I 108,I 0,R 177]
abbrev o17:=#v[192,"s","thing"]
abbrev o19:=f1 "holds" uW
abbrev o20:=kb "holds" 189 2 2 19 194
abbrev o21:=f2 "holds" uW m1 20
abbrev o25:=ka "things" 197 4 1 24
abbrev o26:=f2 "things" qk m1 25
abbrev o29:=#v[206,"s"]
abbrev o32:=kb "size" 203 6 1 31 207
abbrev o33:=f2 "size" zx m1 32
abbrev o36:=#v[213,"some","s","thing"]
abbrev o39:=kb "set_of" 210 8 1 38 216
abbrev o40:=f2 "set_of" qm m1 39
abbrev o43:=#v[222,"s","t"]
abbrev o46:=kb "within" 219 13 2 45 224
abbrev o47:=f2 "within" qf m1 46
abbrev o51:=ka "parts" 227 15 1 50
abbrev o52:=f2 "parts" uV m1 51
abbrev o65:=#v[248,"n"]
abbrev o68:=kb "all_of" 245 24 1 67 249
abbrev o69:=f2 "all_of" qy m1 68
abbrev o72:=#v[255,"s","t"]
abbrev o75:=kb "less" 252 26 2 74 257
abbrev o76:=f2 "less" zC m1 75
abbrev o80:=ka "marked" 262 29 1 79
abbrev o81:=f2 "marked" qr m2 80
abbrev o84:=#v[271,"s","thing","y"]
abbrev o87:=kb "exchanged" 268 31 3 86 274
abbrev o88:=f2 "exchanged" jo m2 87
abbrev o91:=#v[280,"listed","one","other","thing","y"]
abbrev o94:=kb "has_exchange" 277 33 4 93 285
abbrev o95:=f2 "has_exchange" fP m2 94
abbrev o98:=#v[291,"n","bases","listed","one","other","thing"]
abbrev o101:=kb "broken_bases" 288 38 2 100 297
abbrev o102:=f2 "broken_bases" fS m2 101
abbrev o105:=#v[303,"rings","s","ring"]
abbrev o108:=kb "holds_ring" 300 48 2 107 306
abbrev o109:=f2 "holds_ring" iD m2 108
abbrev o112:=#v[312,"rings","one","other"]
abbrev o115:=kb "ring_in_ring" 309 53 1 114 315
abbrev o116:=f2 "ring_in_ring" fL m2 115
abbrev o119:=#v[321,"rings","one","other","thing"]
abbrev o122:=kb "rings_without_third" 318 59 1 121 325
abbrev o123:=f2 "rings_without_third" cG m2 122
abbrev o126:=#v[331,"n","rings","found"]
abbrev o129:=kb "broken_rings" 328 67 2 128 334
abbrev o130:=f2 "broken_rings" fQ m2 129
abbrev o133:=#v[340,"flats","listed","one","other"]
abbrev o136:=kb "common_not_listed" 337 74 1 135 344
abbrev o137:=f2 "common_not_listed" c7 m2 136
abbrev o140:=#v[350,"n","flats","s","least","flat"]
abbrev o143:=kb "least_flat" 347 81 3 142 355
abbrev o144:=f2 "least_flat" iC m2 143
abbrev o147:=#v[361,"n","flats","one","over","thing","other"]
abbrev o150:=kb "flats_that_meet" 358 87 2 149 367
abbrev o151:=f2 "flats_that_meet" dN m2 150
abbrev o154:=#v[373,"n","flats","everything","found"]
abbrev o157:=kb "broken_flats" 370 97 2 156 377
abbrev o158:=f2 "broken_flats" fR m2 157
abbrev o159:=T [(.type "ValueError")]
abbrev o167(P:Params):=D ([E P "__module__" 389 m0,E P "__firstlineno__" 393 (.int 106 392),E P "__static_attributes__" 394 (R 166),E P "__weakref__" 396 (R 169),E P "__doc__" 397 .none]) 3
abbrev o169:Obj:=⟨(.type "getset_descriptor"),none, .fields ⟨[V "__weakref__" 395,R 168,(.builtin "ExceptionGroup.__weakref__"), .none]⟩, #[]⟩
abbrev o170:Obj:=⟨(.type "super"),none, .fields ⟨[R 168,R 168,R 168]⟩, #[]⟩
abbrev o171:=bf "object.__init_subclass__" (R 168)
abbrev o172:=T [R 168]
abbrev o173:=bf "type.__prepare__" (.type "type")
abbrev o174(P:Params):=D ([E P "__module__" 407 m0,E P "__qualname__" 409 (V "NoSet" 408),E P "__firstlineno__" 411 (.int 108 410),E P "__static_attributes__" 412 (R 179)]) 4
abbrev o177:=C1 "NoSet" 402 108 0 0 175 false .none .none .none 405
abbrev o178:=fr 177 174 m0
abbrev o180(P:Params):=D ([E P "__module__" 407 m0,E P "__firstlineno__" 411 (.int 108 410),E P "__static_attributes__" 412 (R 179),E P "__doc__" 413 .none]) 2
abbrev o181:Obj:=⟨(.type "type"),none,Data.cls {name:=Str.ofString "NoSet",bases:=[Value.ref 168],mro:=[Value.ref 181,Value.ref 168,Value.type "ValueError",Value.type "Exception",Value.type "BaseException",Value.type "object"],ns:=180,qualname:=Str.ofString "NoSet"}, #[some (R 172),none,some (V "NoSet" 400),some (V "NoSet" 408),some (.builtin "ValueError.__new__"),some (.bool true)]⟩
abbrev o182:Obj:=⟨(.type "super"),none, .fields ⟨[R 181,R 181,R 181]⟩, #[]⟩
abbrev o183:=bf "object.__init_subclass__" (R 181)
abbrev g4(P:Params):List DictEntry:=[E P "__name__" 165 m4]
abbrev g5(P:Params):List DictEntry:=[E P "NoHouse" 444 (R 200),E P "NoLine" 460 (R 212),E P "NoName" 476 (R 224),E P "NoFit" 492 (R 236),E P "House" 538 (R 269)]
abbrev g6:=[I 110,I 0,R 189,I 117,I 0,R 208,I 119,I 0,R 220,I 121,I 0,R 232,I 124,I 0,R 244]
abbrev o168v1:Obj:=⟨(.type "type"),none,Data.cls {name:=Str.ofString "HouseError",bases:=[Value.type "ValueError"],mro:=[Value.ref 168,Value.type "ValueError",Value.type "Exception",Value.type "BaseException",Value.type "object"],ns:=167,qualname:=Str.ofString "HouseError",subclasses:=[Value.ref 181,Value.ref 200,Value.ref 212,Value.ref 224,Value.ref 236]}, #[some (R 159),none,some (V "HouseError" 382),some m3,some (.builtin "ValueError.__new__"),some (.bool true)]⟩
abbrev o184:=T [R 168]
abbrev o193:=#v[431,"self","one","other","thing"]
abbrev o196:=kd "__init__" "NoHouse.__init__" 428 112 4 195 435
abbrev o197:=fk "__init__" "NoHouse.__init__" dw m0 196
abbrev o198:=#v[438,"one","other","thing"]
abbrev o199(P:Params):=D ([E P "__module__" 423 m0,E P "__firstlineno__" 427 (.int 110 426),E P "__init__" 437 (R 197),E P "__static_attributes__" 441 (R 198),E P "__doc__" 442 .none]) 2
abbrev o200:Obj:=⟨(.type "type"),none,Data.cls {name:=Str.ofString "NoHouse",bases:=[Value.ref 168],mro:=[Value.ref 200,Value.ref 168,Value.type "ValueError",Value.type "Exception",Value.type "BaseException",Value.type "object"],ns:=199,qualname:=Str.ofString "NoHouse"}, #[some (R 184),none,some (V "NoHouse" 416),some (V "NoHouse" 424),some (.builtin "ValueError.__new__"),some (.bool true)]⟩
abbrev o203:=T [R 168]
abbrev o211(P:Params):=D ([E P "__module__" 452 m0,E P "__firstlineno__" 456 (.int 117 455),E P "__static_attributes__" 457 (R 210),E P "__doc__" 458 .none]) 2
abbrev o212:Obj:=⟨(.type "type"),none,Data.cls {name:=Str.ofString "NoLine",bases:=[Value.ref 168],mro:=[Value.ref 212,Value.ref 168,Value.type "ValueError",Value.type "Exception",Value.type "BaseException",Value.type "object"],ns:=211,qualname:=Str.ofString "NoLine"}, #[some (R 203),none,some (V "NoLine" 445),some (V "NoLine" 453),some (.builtin "ValueError.__new__"),some (.bool true)]⟩
abbrev o215:=T [R 168]
abbrev o223(P:Params):=D ([E P "__module__" 468 m0,E P "__firstlineno__" 472 (.int 119 471),E P "__static_attributes__" 473 (R 222),E P "__doc__" 474 .none]) 2
abbrev o224:Obj:=⟨(.type "type"),none,Data.cls {name:=Str.ofString "NoName",bases:=[Value.ref 168],mro:=[Value.ref 224,Value.ref 168,Value.type "ValueError",Value.type "Exception",Value.type "BaseException",Value.type "object"],ns:=223,qualname:=Str.ofString "NoName"}, #[some (R 215),none,some (V "NoName" 461),some (V "NoName" 469),some (.builtin "ValueError.__new__"),some (.bool true)]⟩
abbrev o227:=T [R 168]
abbrev o235(P:Params):=D ([E P "__module__" 484 m0,E P "__firstlineno__" 488 (.int 121 487),E P "__static_attributes__" 489 (R 234),E P "__doc__" 490 .none]) 2
abbrev o236:Obj:=⟨(.type "type"),none,Data.cls {name:=Str.ofString "NoFit",bases:=[Value.ref 168],mro:=[Value.ref 236,Value.ref 168,Value.type "ValueError",Value.type "Exception",Value.type "BaseException",Value.type "object"],ns:=235,qualname:=Str.ofString "NoFit"}, #[some (R 227),none,some (V "NoFit" 477),some (V "NoFit" 485),some (.builtin "ValueError.__new__"),some (.bool true)]⟩
abbrev o248:=#v[510,"self","n"]
abbrev o251:=kd "__init__" "House.__init__" 507 126 2 250 512
abbrev o252:=fk "__init__" "House.__init__" eh m4 251
abbrev o262:=#v[526,"self"]
abbrev o264:=ff "everything" "House.everything" dy
abbrev o265:=kd "everything" "House.everything" 523 132 1 264 527
abbrev o266:=fk "everything" "House.everything" dy m4 265
abbrev o267:=#v[530,"many"]
abbrev o268(P:Params):=D ([E P "__module__" 502 m4,E P "__firstlineno__" 506 (.int 124 505),E P "__init__" 514 (R 252),E P "rank" 522 (R 259),E P "everything" 529 (R 266),E P "__static_attributes__" 531 (R 267),E P "__dict__" 533 (R 270),E P "__weakref__" 535 (R 271),E P "__doc__" 536 .none]) 4
abbrev o270:Obj:=⟨(.type "getset_descriptor"),none, .fields ⟨[V "__dict__" 532,R 269,(.builtin "function.__dict__"),(.builtin "function.__dict__#set")]⟩, #[]⟩
abbrev o271:Obj:=⟨(.type "getset_descriptor"),none, .fields ⟨[V "__weakref__" 534,R 269,(.builtin "ExceptionGroup.__weakref__"), .none]⟩, #[]⟩
abbrev o272:Obj:=⟨(.type "super"),none, .fields ⟨[R 269,R 269,R 269]⟩, #[]⟩
abbrev o273:=bf "object.__init_subclass__" (R 269)
abbrev g7(P:Params):List DictEntry:=[E P "__name__" 165 m7]
abbrev g8(P:Params):List DictEntry:=[E P "Even" 572 (R 297),E P "Listed" 604 (R 321),E P "whole_rank" 613 (R 330),E P "ranks" 619 (R 335),E P "frees" 625 (R 340),E P "bases" 631 (R 345),E P "is_ring" 637 (R 350),E P "rings" 643 (R 355),E P "is_flat" 649 (R 360),E P "flats" 655 (R 365),E P "closed" 666 (R 372),E P "refuse" 673 (R 379),E P "house_of_frees" 679 (R 384),E P "of_bases" 687 (R 391),E P "of_rings" 693 (R 396),E P "is_free" 699 (R 401),E P "of_flats" 705 (R 406),E P "common" 713 (R 411)]
abbrev g9:=[I 134,I 0,R 279,I 142,I 0,R 305,I 151,I 0,R 329,I 153,I 0,R 334,I 155,I 0,R 339,I 157,I 0,R 344,I 160,I 0,R 349,I 164,I 0,R 354,I 167,I 0,R 359,I 169,I 0,R 364,I 173,I 0,R 371,I 180,I 0,R 378,I 183,I 0,R 383,I 186,I 0,R 390,I 189,I 0,R 395,I 192,I 0,R 400,I 194,I 0,R 405,I 200,I 0,R 410]
abbrev o274:=T [R 269]
abbrev o275:=bf "type.__prepare__" (.type "type")
abbrev o283:=#v[554,"self","n","k"]
abbrev o286:=kd "__init__" "Even.__init__" 551 136 3 285 557
abbrev o287:=fk "__init__" "Even.__init__" fb m4 286
abbrev o290:=#v[563,"self","s"]
abbrev o293:=kd "rank" "Even.rank" 560 140 2 292 565
abbrev o294:=fk "rank" "Even.rank" jx m4 293
abbrev o295:=#v[568,"most"]
abbrev o296(P:Params):=D ([E P "__module__" 546 m4,E P "__firstlineno__" 550 (.int 134 549),E P "__init__" 559 (R 287),E P "rank" 567 (R 294),E P "__static_attributes__" 569 (R 295),E P "__doc__" 570 .none]) 2
abbrev o297:Obj:=⟨(.type "type"),none,Data.cls {name:=Str.ofString "Even",bases:=[Value.ref 269],mro:=[Value.ref 297,Value.ref 269,Value.type "object"],ns:=296,qualname:=Str.ofString "Even"}, #[some (R 274),none,some (V "Even" 539),some (V "Even" 547),some (.builtin "object.__new__"),some (.bool true)]⟩
abbrev o300:=T [R 269]
abbrev o309:=#v[588,"self","n","some"]
abbrev o312:=kd "__init__" "Listed.__init__" 585 144 3 311 591
abbrev o313:=fk "__init__" "Listed.__init__" dQ m4 312
abbrev o317:=kc "rank" "Listed.rank" 594 148 2 316
abbrev o318:=fk "rank" "Listed.rank" gL m4 317
abbrev o319:=#v[600,"listed"]
abbrev o320(P:Params):=D ([E P "__module__" 580 m4,E P "__firstlineno__" 584 (.int 142 583),E P "__init__" 593 (R 313),E P "rank" 599 (R 318),E P "__static_attributes__" 601 (R 319),E P "__doc__" 602 .none]) 2
abbrev o321:Obj:=⟨(.type "type"),none,Data.cls {name:=Str.ofString "Listed",bases:=[Value.ref 269],mro:=[Value.ref 321,Value.ref 269,Value.type "object"],ns:=320,qualname:=Str.ofString "Listed"}, #[some (R 300),none,some (V "Listed" 573),some (V "Listed" 581),some (.builtin "object.__new__"),some (.bool true)]⟩
abbrev o326:=#v[610,"house"]
abbrev o329:=kb "whole_rank" 607 151 1 328 611
abbrev o330:=f2 "whole_rank" iu m8 329
abbrev o339:=ka "frees" 620 155 1 338
abbrev o340:=f2 "frees" uX m8 339
abbrev o344:=ka "bases" 626 157 1 343
abbrev o345:=f2 "bases" uY m8 344
abbrev o375:=#v[670,"found"]
abbrev o378:=kb "refuse" 667 180 1 377 671
abbrev o379:=f2 "refuse" qo m8 378
abbrev o383:=ka "house_of_frees" 674 183 2 382
abbrev o384:=f2 "house_of_frees" d8 m8 383
abbrev o387:=#v[683,"n","bases"]
abbrev o390:=kb "of_bases" 680 186 2 389 685
abbrev o391:=f2 "of_bases" kL m8 390
abbrev o395:=ka "of_rings" 688 189 2 394
abbrev o396:=f2 "of_rings" kJ m8 395
abbrev o400:=ka "is_free" 694 192 2 399
abbrev o401:=f2 "is_free" mW m8 400
abbrev o405:=ka "of_flats" 700 194 2 404
abbrev o406:=f2 "of_flats" kK m8 405
abbrev o409:=f1 "common" wV
abbrev o410:=ka "common" 708 200 2 409
abbrev o411:=f2 "common" wV (V "basehouse.common" 706) 410
abbrev g10(P:Params):List DictEntry:=[E P "__name__" 165 m9]
abbrev g11(P:Params):List DictEntry:=[E P "Other" 751 (R 435),E P "Minor" 790 (R 461),E P "Side" 827 (R 487),E P "TWO_OF_FOUR" 831 (V "two of four" 830),E P "TWO_OF_FIVE" 833 (V "two of five" 832),E P "THREE_OF_FIVE" 835 (V "three of five" 834),E P "SEVEN" 837 (V "seven" 836),E P "OTHER_SEVEN" 839 (V "other seven" 838),E P "is_even" 845 (R 494),E P "holders" 851 (R 499),E P "is_seven" 857 (R 504),E P "kind_of" 864 (R 511),E P "rests" 872 (R 516),E P "pivot_place" 882 (R 523),E P "cleared" 888 (R 528),E P "all_cleared" 894 (R 533),E P "rank_of" 900 (R 538)]
abbrev g12:=[I 209,I 0,R 417,I 220,I 0,R 443,I 232,I 0,R 469,I 249,I 0,R 493,I 253,I 0,R 498,I 255,I 0,R 503,I 261,I 0,R 510,I 274,I 0,R 515,I 278,I 0,R 522,I 283,I 0,R 527,I 287,I 0,R 532,I 291,I 0,R 537]
abbrev o434(P:Params):=D ([E P "__module__" 723 m7,E P "__firstlineno__" 727 (.int 209 726),E P "__init__" 735 (R 425),E P "rank" 744 (R 432),E P "__static_attributes__" 748 (R 433),E P "__doc__" 749 .none]) 2
abbrev o435:Obj:=⟨(.type "type"),none,Data.cls {name:=Str.ofString "Other",bases:=[Value.ref 269],mro:=[Value.ref 435,Value.ref 269,Value.type "object"],ns:=434,qualname:=Str.ofString "Other"}, #[some (R 412),none,some (V "Other" 716),some (V "Other" 724),some (.builtin "object.__new__"),some (.bool true)]⟩
abbrev o460(P:Params):=D ([E P "__module__" 759 m7,E P "__firstlineno__" 763 (.int 220 762),E P "__init__" 774 (R 451),E P "rank" 782 (R 458),E P "__static_attributes__" 787 (R 459),E P "__doc__" 788 .none]) 2
abbrev o461:Obj:=⟨(.type "type"),none,Data.cls {name:=Str.ofString "Minor",bases:=[Value.ref 269],mro:=[Value.ref 461,Value.ref 269,Value.type "object"],ns:=460,qualname:=Str.ofString "Minor"}, #[some (R 438),none,some (V "Minor" 752),some (V "Minor" 760),some (.builtin "object.__new__"),some (.bool true)]⟩
abbrev o486(P:Params):=D ([E P "__module__" 798 m7,E P "__firstlineno__" 802 (.int 232 801),E P "__init__" 811 (R 477),E P "rank" 819 (R 484),E P "__static_attributes__" 824 (R 485),E P "__doc__" 825 .none]) 2
abbrev o487:Obj:=⟨(.type "type"),none,Data.cls {name:=Str.ofString "Side",bases:=[Value.ref 269],mro:=[Value.ref 487,Value.ref 269,Value.type "object"],ns:=486,qualname:=Str.ofString "Side"}, #[some (R 464),none,some (V "Side" 791),some (V "Side" 799),some (.builtin "object.__new__"),some (.bool true)]⟩
abbrev o515:=ka "rests" 867 274 2 514
abbrev o516:=f2 "rests" uU m11 515
abbrev o519:=#v[876,"rows","column","place","row"]
abbrev o522:=kb "pivot_place" 873 278 2 521 880
abbrev o523:=f2 "pivot_place" gD m11 522
abbrev o527:=ka "cleared" 883 283 4 526
abbrev o528:=f2 "cleared" mX m11 527
abbrev o531:=f1 "all_cleared" gG
abbrev o532:=ka "all_cleared" 889 287 4 531
abbrev o533:=f2 "all_cleared" gG m11 532
abbrev o536:=f1 "rank_of" mR
abbrev o537:=ka "rank_of" 895 291 2 536
abbrev o538:=f2 "rank_of" mR m11 537
abbrev g13(P:Params):List DictEntry:=[E P "__name__" 165 m12]
abbrev g14(P:Params):List DictEntry:=[E P "Known" 935 (R 562),E P "columns_with" 941 (R 569),E P "fits" 947 (R 574),E P "column_for" 953 (R 579),E P "single" 959 (R 584),E P "table_for" 965 (R 589),E P "left_barred" 979 (R 596),E P "told_over" 992 (R 603),E P "over_two" 999 (R 610),E P "over_three" 1007 (R 617),E P "over_all" 1013 (R 622),E P "LETTERS" 1017 (V "abcdefgh" 1016),E P "EMPTY" 1019 (V "-" 1018),E P "shown" 1025 (R 627),E P "read" 1031 (R 632),E P "shown_all" 1037 (R 637),E P "SMALL_LETTERS" 1041 (V "abcdefghijklmnopqrstuvwxyz" 1040),E P "FIGURES" 1043 (V "0123456789" 1042),E P "MOST" 1045 (.int 8 1044),E P "MOST_POINTS" 1047 (.int 9 1046),E P "NOUGHT_AND_PRIMES" 1074 (R 638),E P "Line" 1109 (R 655),E P "need" 1117 (R 666),E P "made_of" 1123 (R 671),E P "name_of" 1130 (R 678),E P "number_of" 1137 (R 685),E P "number_up_to" 1146 (R 692),E P "signed_of" 1154 (R 699),E P "set_within" 1163 (R 706)]
abbrev g15:=[I 307,I 0,R 544,I 315,I 0,R 568,I 324,I 0,R 573,I 331,I 0,R 578,I 338,I 0,R 583,I 340,I 0,R 588,I 352,I 0,R 595,I 360,I 0,R 602,I 370,I 0,R 609,I 372,I 0,R 616,I 375,I 0,R 621,I 386,I 0,R 626,I 390,I 0,R 631,I 395,I 0,R 636,I 403,I 0,R 644,I 410,I 0,R 665,I 413,I 0,R 670,I 415,I 0,R 677,I 418,I 0,R 684,I 422,I 0,R 691,I 426,I 0,R 698,I 432,I 0,R 705]
abbrev o561(P:Params):=D ([E P "__module__" 910 m9,E P "__firstlineno__" 914 (.int 307 913),E P "__init__" 922 (R 552),E P "rank" 930 (R 559),E P "__static_attributes__" 932 (R 560),E P "__doc__" 933 .none]) 2
abbrev o562:Obj:=⟨(.type "type"),none,Data.cls {name:=Str.ofString "Known",bases:=[Value.ref 269],mro:=[Value.ref 562,Value.ref 269,Value.type "object"],ns:=561,qualname:=Str.ofString "Known"}, #[some (R 539),none,some (V "Known" 903),some (V "Known" 911),some (.builtin "object.__new__"),some (.bool true)]⟩
abbrev o626:=ka "shown" 1020 386 1 625
abbrev o627:=f2 "shown" uT m13 626
abbrev o631:=ka "read" 1026 390 1 630
abbrev o632:=f2 "read" zy m13 631
abbrev o638:=T [(.int 0 1048),(.int 2 1049),(.int 3 1050),(.int 5 1051),(.int 7 1052),(.int 11 1053),(.int 13 1054),(.int 17 1055),(.int 19 1056),(.int 23 1057),(.int 29 1058),(.int 31 1059),(.int 37 1060),(.int 41 1061),(.int 43 1062),(.int 47 1063),(.int 53 1064),(.int 59 1065),(.int 61 1066),(.int 67 1067),(.int 71 1068),(.int 73 1069),(.int 79 1070),(.int 83 1071),(.int 89 1072),(.int 97 1073)]
abbrev o648:=#v[1090,"self","target","verb","asked","given"]
abbrev o651:=kd "__init__" "Line.__init__" 1087 405 5 650 1095
abbrev o652:=fk "__init__" "Line.__init__" e9 m12 651
abbrev o653:=#v[1098,"asked","given","target","verb"]
abbrev o654(P:Params):=D ([E P "__module__" 1082 m12,E P "__firstlineno__" 1086 (.int 403 1085),E P "__init__" 1097 (R 652),E P "__static_attributes__" 1102 (R 653),E P "__dict__" 1104 (R 656),E P "__weakref__" 1106 (R 657),E P "__doc__" 1107 .none]) 4
abbrev o655:Obj:=⟨(.type "type"),none,Data.cls {name:=Str.ofString "Line",bases:=[Value.type "object"],mro:=[Value.ref 655,Value.type "object"],ns:=654,qualname:=Str.ofString "Line"}, #[none,none,some (V "Line" 1075),some (V "Line" 1083),some (.builtin "object.__new__"),some (.bool true)]⟩
abbrev o656:Obj:=⟨(.type "getset_descriptor"),none, .fields ⟨[V "__dict__" 1103,R 655,(.builtin "function.__dict__"),(.builtin "function.__dict__#set")]⟩, #[]⟩
abbrev o657:Obj:=⟨(.type "getset_descriptor"),none, .fields ⟨[V "__weakref__" 1105,R 655,(.builtin "ExceptionGroup.__weakref__"), .none]⟩, #[]⟩
abbrev o662:=#v[1113,"right","words"]
abbrev o665:=kb "need" 1110 410 2 664 1115
abbrev o666:=f2 "need" zA m12 665
abbrev o670:=ka "made_of" 1118 413 2 669
abbrev o671:=f2 "made_of" mU m12 670
abbrev o674:=#v[1127,"word"]
abbrev o677:=kb "name_of" 1124 415 1 676 1128
abbrev o678:=f2 "name_of" mT m12 677
abbrev o681:=#v[1134,"word"]
abbrev o684:=kb "number_of" 1131 418 1 683 1135
abbrev o685:=f2 "number_of" jk m12 684
abbrev o688:=#v[1141,"most","word","number"]
abbrev o691:=kb "number_up_to" 1138 422 2 690 1144
abbrev o692:=f2 "number_up_to" fO m12 691
abbrev o695:=#v[1150,"word","number"]
abbrev o697:=f1 "signed_of" jg
abbrev o698:=kb "signed_of" 1147 426 1 697 1152
abbrev o699:=f2 "signed_of" jg m12 698
abbrev o702:=#v[1158,"n","word","s"]
abbrev o704:=f1 "set_within" iw
abbrev o705:=kb "set_within" 1155 432 2 704 1161
abbrev o706:=f2 "set_within" iw m12 705
abbrev g16(P:Params):List DictEntry:=[E P "tie_of" 1171 (R 713),E P "rows_of" 1177 (R 718),E P "read_even" 1185 (R 725),E P "read_sets" 1191 (R 730),E P "read_net" 1197 (R 735),E P "read_table" 1203 (R 740),E P "read_house" 1210 (R 747),E P "read_two_houses" 1216 (R 752),E P "read_house_and_set" 1223 (R 759),E P "read_house_and_numbers" 1229 (R 764),E P "read_weights" 1236 (R 771),E P "read_worth" 1243 (R 778)]
abbrev g17:=[I 439,I 0,R 712,I 442,I 0,R 717,I 448,I 0,R 724,I 452,I 0,R 729,I 456,I 0,R 734,I 460,I 0,R 739,I 466,I 0,R 746,I 469,I 0,R 751,I 472,I 0,R 758,I 475,I 0,R 763,I 478,I 0,R 770,I 481,I 0,R 777]
abbrev o709:=#v[1167,"points","word"]
abbrev o712:=kb "tie_of" 1164 439 2 711 1169
abbrev o713:=f2 "tie_of" qj m12 712
abbrev o717:=ka "rows_of" 1172 442 2 716
abbrev o718:=f2 "rows_of" mQ m12 717
abbrev o721:=#v[1181,"words","n"]
abbrev o724:=kb "read_even" 1178 448 1 723 1183
abbrev o725:=f2 "read_even" ji m12 724
abbrev o729:=ka "read_sets" 1186 452 1 728
abbrev o730:=f2 "read_sets" jh m12 729
abbrev o734:=ka "read_net" 1192 456 1 733
abbrev o735:=f2 "read_net" kI m12 734
abbrev o739:=ka "read_table" 1198 460 1 738
abbrev o740:=f2 "read_table" iz m12 739
abbrev o743:=#v[1207,"words"]
abbrev o746:=kb "read_house" 1204 466 1 745 1208
abbrev o747:=f2 "read_house" iA m12 746
abbrev o751:=ka "read_two_houses" 1211 469 1 750
abbrev o752:=f2 "read_two_houses" dM m12 751
abbrev o755:=#v[1220,"words"]
abbrev o758:=kb "read_house_and_set" 1217 472 1 757 1221
abbrev o759:=f2 "read_house_and_set" cP m12 758
abbrev o763:=ka "read_house_and_numbers" 1224 475 1 762
abbrev o764:=f2 "read_house_and_numbers" b9 m12 763
abbrev o767:=#v[1233,"words"]
abbrev o769:=f1 "read_weights" fN
abbrev o770:=kb "read_weights" 1230 478 1 769 1234
abbrev o771:=f2 "read_weights" fN m12 770
abbrev o774:=#v[1240,"words"]
abbrev o776:=f1 "read_worth" iy
abbrev o777:=kb "read_worth" 1237 481 1 776 1241
abbrev o778:=f2 "read_worth" iy m12 777
abbrev g18(P:Params):List DictEntry:=[E P "MAKING" 1264 (R 779)]
abbrev o779(P:Params):=D ([E P "even" 1244 (R 725),E P "bases" 1245 (R 730),E P "rings" 1246 (R 730),E P "flats" 1247 (R 730),E P "net" 1248 (R 735),E P "table" 1249 (R 740),E P "other" 1250 (R 747),E P "out" 1251 (R 759),E P "drawn" 1252 (R 759),E P "side" 1253 (R 752)]) 10
abbrev g19(P:Params):List DictEntry:=[E P "ASKING" 1293 (R 780)]
abbrev o780(P:Params):=D ([E P "bases" 1265 (R 747),E P "rings" 1266 (R 747),E P "flats" 1267 (R 747),E P "frees" 1268 (R 747),E P "rank" 1269 (R 759),E P "closed" 1270 (R 759),E P "same" 1271 (R 752),E P "two" 1272 (R 747),E P "three" 1273 (R 747),E P "all" 1274 (R 747),E P "common" 1275 (R 752),E P "heaviest" 1276 (R 771),E P "counts" 1277 (R 747),E P "worth" 1278 (R 778)]) 14
abbrev g20(P:Params):List DictEntry:=[E P "__name__" 165 m14]
abbrev g21(P:Params):List DictEntry:=[E P "making_line" 1303 (R 787),E P "asking_line" 1312 (R 794),E P "line_of" 1320 (R 801),E P "tied" 1328 (R 806),E P "Net" 1370 (R 835),E P "power" 1382 (R 844),E P "times" 1388 (R 849),E P "plus" 1398 (R 856),E P "terms_of" 1411 (R 863),E P "polynomial" 1417 (R 869),E P "worth" 1423 (R 874),E P "counts" 1431 (R 881),E P "Tabled" 1463 (R 901),E P "heaviest" 1478 (R 910),E P "fit" 1488 (R 917),E P "fit_set" 1496 (R 924),E P "made_even" 1504 (R 931),E P "made_of_bases" 1512 (R 938),E P "made_of_rings" 1520 (R 945),E P "made_of_flats" 1528 (R 952),E P "made_net" 1536 (R 959)]
abbrev g22:=[I 486,I 0,R 786,I 492,I 0,R 793,I 497,I 0,R 800,I 503,I 0,R 805,I 507,I 0,R 812,I 523,I 0,R 843,I 528,I 0,R 848,I 530,I 0,R 855,I 535,I 0,R 862,I 547,I 0,R 868,I 551,I 0,R 873,I 553,I 0,R 880,I 557,I 0,R 887,I 568,I 0,R 909,I 577,I 0,R 916,I 580,I 0,R 923,I 582,I 0,R 930,I 584,I 0,R 937,I 586,I 0,R 944,I 588,I 0,R 951,I 590,I 0,R 958]
abbrev o269v4:Obj:=⟨(.type "type"),none,Data.cls {name:=Str.ofString "House",bases:=[Value.type "object"],mro:=[Value.ref 269,Value.type "object"],ns:=268,qualname:=Str.ofString "House",subclasses:=[Value.ref 297,Value.ref 321,Value.ref 435,Value.ref 461,Value.ref 487,Value.ref 562,Value.ref 835,Value.ref 901]}, #[none,none,some m6,some m5,some (.builtin "object.__new__"),some (.bool true)]⟩
abbrev o783:=#v[1297,"words","target","verb","found"]
abbrev o786:=kb "making_line" 1294 486 1 785 1301
abbrev o787:=f2 "making_line" gE m12 786
abbrev o790:=#v[1307,"words","verb","found"]
abbrev o793:=kb "asking_line" 1304 492 1 792 1310
abbrev o794:=f2 "asking_line" gF m12 793
abbrev o797:=#v[1316,"text","words"]
abbrev o800:=kb "line_of" 1313 497 1 799 1318
abbrev o801:=f2 "line_of" mV m12 800
abbrev o805:=ka "tied" 1323 503 2 804
abbrev o806:=f2 "tied" zv m15 805
abbrev o807:=T [R 269]
abbrev o817:=kc "__init__" "Net.__init__" 1341 509 4 816
abbrev o818:=fk "__init__" "Net.__init__" fW m15 817
abbrev o821:=#v[1350,"self","s","marks","thing"]
abbrev o824:=kd "pieces" "Net.pieces" 1347 514 2 823 1354
abbrev o825:=fk "pieces" "Net.pieces" iH m15 824
abbrev o828:=#v[1360,"self","s"]
abbrev o831:=kd "rank" "Net.rank" 1357 520 2 830 1362
abbrev o832:=fk "rank" "Net.rank" kT m15 831
abbrev o834(P:Params):=D ([E P "__module__" 1336 m15,E P "__firstlineno__" 1340 (.int 507 1339),E P "__init__" 1346 (R 818),E P "pieces" 1356 (R 825),E P "rank" 1364 (R 832),E P "__static_attributes__" 1367 (R 833),E P "__doc__" 1368 .none]) 2
abbrev o835:Obj:=⟨(.type "type"),none,Data.cls {name:=Str.ofString "Net",bases:=[Value.ref 269],mro:=[Value.ref 835,Value.ref 269,Value.type "object"],ns:=834,qualname:=Str.ofString "Net"}, #[some (R 807),none,some (V "Net" 1329),some (V "Net" 1337),some (.builtin "object.__new__"),some (.bool true)]⟩
abbrev o869:Obj:=⟨(.type "function"),none, .func (F "polynomial" "polynomial" lJ 3 (R 864) .none .none m16 none (R 868) .none 0), #[]⟩
abbrev o882:=T [R 269]
abbrev o892:=kc "__init__" "Tabled.__init__" 1446 559 4 891
abbrev o893:=fk "__init__" "Tabled.__init__" dP m17 892
abbrev o897:=kc "rank" "Tabled.rank" 1452 564 2 896
abbrev o898:=fk "rank" "Tabled.rank" gK m17 897
abbrev o900(P:Params):=D ([E P "__module__" 1441 m17,E P "__firstlineno__" 1445 (.int 557 1444),E P "__init__" 1451 (R 893),E P "rank" 1457 (R 898),E P "__static_attributes__" 1460 (R 899),E P "__doc__" 1461 .none]) 2
abbrev o901:Obj:=⟨(.type "type"),none,Data.cls {name:=Str.ofString "Tabled",bases:=[Value.ref 269],mro:=[Value.ref 901,Value.ref 269,Value.type "object"],ns:=900,qualname:=Str.ofString "Tabled"}, #[some (R 882),none,some (V "Tabled" 1434),some (V "Tabled" 1442),some (.builtin "object.__new__"),some (.bool true)]⟩
abbrev o927:=#v[1500,"houses","given"]
abbrev o930:=kb "made_even" 1497 582 2 929 1502
abbrev o931:=f2 "made_even" jm m14 930
abbrev o934:=#v[1508,"houses","given"]
abbrev o937:=kb "made_of_bases" 1505 584 2 936 1510
abbrev o938:=f2 "made_of_bases" eZ m14 937
abbrev o941:=#v[1516,"houses","given"]
abbrev o944:=kb "made_of_rings" 1513 586 2 943 1518
abbrev o945:=f2 "made_of_rings" eX m14 944
abbrev o948:=#v[1524,"houses","given"]
abbrev o951:=kb "made_of_flats" 1521 588 2 950 1526
abbrev o952:=f2 "made_of_flats" eY m14 951
abbrev o955:=#v[1532,"houses","given"]
abbrev o958:=kb "made_net" 1529 590 2 957 1534
abbrev o959:=f2 "made_net" kM m14 958
abbrev g23(P:Params):List DictEntry:=[E P "made_table" 1544 (R 966),E P "made_other" 1552 (R 973),E P "made_out" 1560 (R 980),E P "made_drawn" 1568 (R 987),E P "made_side" 1576 (R 994),E P "sets_text" 1583 (R 1001),E P "yes_or_no" 1590 (R 1008),E P "told_bases" 1598 (R 1015),E P "told_rings" 1606 (R 1022),E P "told_flats" 1614 (R 1029),E P "told_frees" 1622 (R 1036),E P "told_rank" 1630 (R 1043),E P "told_closed" 1638 (R 1050),E P "told_same" 1647 (R 1057),E P "told_two" 1655 (R 1064),E P "told_three" 1663 (R 1071),E P "told_all" 1671 (R 1078),E P "told_common" 1679 (R 1085),E P "told_heaviest" 1687 (R 1092),E P "told_counts" 1693 (R 1097),E P "told_worth" 1701 (R 1104)]
abbrev g24:=[I 592,I 0,R 965,I 594,I 0,R 972,I 596,I 0,R 979,I 599,I 0,R 986,I 602,I 0,R 993,I 605,I 0,R 1000,I 607,I 0,R 1007,I 609,I 0,R 1014,I 611,I 0,R 1021,I 613,I 0,R 1028,I 615,I 0,R 1035,I 617,I 0,R 1042,I 620,I 0,R 1049,I 623,I 0,R 1056,I 626,I 0,R 1063,I 628,I 0,R 1070,I 630,I 0,R 1077,I 632,I 0,R 1084,I 635,I 0,R 1091,I 638,I 0,R 1096,I 640,I 0,R 1103]
abbrev o962:=#v[1540,"houses","given"]
abbrev o965:=kb "made_table" 1537 592 2 964 1542
abbrev o966:=f2 "made_table" iB m14 965
abbrev o969:=#v[1548,"houses","given"]
abbrev o972:=kb "made_other" 1545 594 2 971 1550
abbrev o973:=f2 "made_other" lL m14 972
abbrev o976:=#v[1556,"houses","given"]
abbrev o979:=kb "made_out" 1553 596 2 978 1558
abbrev o980:=f2 "made_out" qt m14 979
abbrev o983:=#v[1564,"houses","given"]
abbrev o986:=kb "made_drawn" 1561 599 2 985 1566
abbrev o987:=f2 "made_drawn" lM m14 986
abbrev o990:=#v[1572,"houses","given"]
abbrev o993:=kb "made_side" 1569 602 2 992 1574
abbrev o994:=f2 "made_side" oB m14 993
abbrev o1104:=f2 "told_worth" lD m14 1103
abbrev g25(P:Params):List DictEntry:=[E P "MADE" 1722 (R 1105)]
abbrev o1105(P:Params):=D ([E P "even" 1702 (R 931),E P "bases" 1703 (R 938),E P "rings" 1704 (R 945),E P "flats" 1705 (R 952),E P "net" 1706 (R 959),E P "table" 1707 (R 966),E P "other" 1708 (R 973),E P "out" 1709 (R 980),E P "drawn" 1710 (R 987),E P "side" 1711 (R 994)]) 10
abbrev g26(P:Params):List DictEntry:=[E P "TOLD" 1751 (R 1106)]
abbrev o1106(P:Params):=D ([E P "bases" 1723 (R 1015),E P "rings" 1724 (R 1022),E P "flats" 1725 (R 1029),E P "frees" 1726 (R 1036),E P "rank" 1727 (R 1043),E P "closed" 1728 (R 1050),E P "same" 1729 (R 1057),E P "two" 1730 (R 1064),E P "three" 1731 (R 1071),E P "all" 1732 (R 1078),E P "common" 1733 (R 1085),E P "heaviest" 1734 (R 1092),E P "counts" 1735 (R 1097),E P "worth" 1736 (R 1104)]) 14
abbrev g27(P:Params):List DictEntry:=[E P "__name__" 165 m18]
abbrev g28(P:Params):List DictEntry:=[E P "made" 1760 (R 1113),E P "answered" 1769 (R 1120),E P "Desk" 1813 (R 1149),E P "_law_stream" 1826 (R 1160),E P "_law_few" 1833 (R 1167),E P "_law_name" 1842 (R 1174),E P "_law_set" 1848 (R 1179),E P "_law_great" 1856 (R 1186),E P "_law_sets" 1866 (R 1193),E P "_law_net" 1877 (R 1200),E P "_law_table" 1889 (R 1207),E P "_law_made" 1898 (R 1214),E P "_law_asked" 1910 (R 1221),E P "_law_odd_word" 1918 (R 1228),E P "_law_spoilt_words" 1927 (R 1235),E P "_law_spoilt_line" 1938 (R 1242),E P "_law_line" 1944 (R 1247),E P "_law_is_name" 1952 (R 1254),E P "_law_count" 1961 (R 1261),E P "_law_is_number" 1969 (R 1268),E P "_law_is_set" 1975 (R 1273),E P "_law_numbers" 1981 (R 1278),E P "_law_table_told" 1987 (R 1283),E P "_law_net_told" 1996 (R 1290),E P "_law_even_told" 2003 (R 1297),E P "_law_sets_told" 2009 (R 1302),E P "_law_making" 2018 (R 1309),E P "_law_question" 2027 (R 1316),E P "_law_due" 2035 (R 1323),E P "_law_said" 2046 (R 1330),E P "_law_sort" 2052 (R 1335)]
abbrev g29:=[I 644,I 0,R 1112,I 646,I 0,R 1119,I 649,I 0,R 1126,I 668,I 0,R 1159,I 675,I 0,R 1166,I 677,I 0,R 1173,I 682,I 0,R 1178,I 687,I 0,R 1185,I 691,I 0,R 1192,I 699,I 0,R 1199,I 709,I 0,R 1206,I 722,I 0,R 1213,I 738,I 0,R 1220,I 754,I 0,R 1227,I 758,I 0,R 1234,I 765,I 0,R 1241,I 776,I 0,R 1246,I 791,I 0,R 1253,I 796,I 0,R 1260,I 801,I 0,R 1267,I 808,I 0,R 1272,I 811,I 0,R 1277,I 813,I 0,R 1282,I 823,I 0,R 1289,I 833,I 0,R 1296,I 838,I 0,R 1301,I 845,I 0,R 1308,I 861,I 0,R 1315,I 875,I 0,R 1322,I 884,I 0,R 1329,I 892,I 0,R 1334]
abbrev o1109:=#v[1755,"verb","houses","given"]
abbrev o1112:=kb "made" 1752 644 3 1111 1758
abbrev o1113:=f2 "made" zB m14 1112
abbrev o1130:=#v[1787,"self"]
abbrev o1133:=kd "__init__" "Desk.__init__" 1784 651 1 1132 1788
abbrev o1134:=fk "__init__" "Desk.__init__" fg m19 1133
abbrev o1137:=#v[1794,"self","name"]
abbrev o1140:=kd "house_called" "Desk.house_called" 1791 654 2 1139 1796
abbrev o1141:=fk "house_called" "Desk.house_called" da m19 1140
abbrev o1145:=kc "say" "Desk.say" 1799 659 2 1144
abbrev o1146:=fk "say" "Desk.say" kU m19 1145
abbrev o1147:=#v[1805,"houses"]
abbrev o1148(P:Params):=D ([E P "__module__" 1779 m19,E P "__firstlineno__" 1783 (.int 649 1782),E P "__init__" 1790 (R 1134),E P "house_called" 1798 (R 1141),E P "say" 1804 (R 1146),E P "__static_attributes__" 1806 (R 1147),E P "__dict__" 1808 (R 1150),E P "__weakref__" 1810 (R 1151),E P "__doc__" 1811 .none]) 4
abbrev o1149:Obj:=⟨(.type "type"),none,Data.cls {name:=Str.ofString "Desk",bases:=[Value.type "object"],mro:=[Value.ref 1149,Value.type "object"],ns:=1148,qualname:=Str.ofString "Desk"}, #[none,none,some (V "Desk" 1772),some (V "Desk" 1780),some (.builtin "object.__new__"),some (.bool true)]⟩
abbrev o1150:Obj:=⟨(.type "getset_descriptor"),none, .fields ⟨[V "__dict__" 1807,R 1149,(.builtin "function.__dict__"),(.builtin "function.__dict__#set")]⟩, #[]⟩
abbrev o1151:Obj:=⟨(.type "getset_descriptor"),none, .fields ⟨[V "__weakref__" 1809,R 1149,(.builtin "ExceptionGroup.__weakref__"), .none]⟩, #[]⟩
abbrev o1156:=#v[1819,"_law_cell","_law_k","_law_number","_law_found","_law_j"]
abbrev o1159:=kb "_law_stream" 1816 668 2 1158 1824
abbrev o1160:=f2 "_law_stream" gH m18 1159
abbrev o1163:=#v[1830,"_law_number"]
abbrev o1166:=kb "_law_few" 1827 675 1 1165 1831
abbrev o1167:=f2 "_law_few" fV m18 1166
abbrev o1170:=#v[1837,"_law_number","_law_name_here","_law_k"]
abbrev o1173:=kb "_law_name" 1834 677 1 1172 1840
abbrev o1174:=f2 "_law_name" jv m18 1173
abbrev o1178:=ka "_law_set" 1843 682 2 1177
abbrev o1179:=f2 "_law_set" kN m18 1178
abbrev o1182:=#v[1852,"_law_one","_law_other"]
abbrev o1185:=kb "_law_great" 1849 687 2 1184 1854
abbrev o1186:=f2 "_law_great" iF m18 1185
abbrev o1189:=#v[1860,"_law_xs","_law_many","_law_words","_law_k"]
abbrev o1192:=kb "_law_sets" 1857 691 1 1191 1864
abbrev o1193:=f2 "_law_sets" jt m18 1192
abbrev o1196:=#v[1870,"_law_xs","_law_points","_law_words","_law_k","_law_one"]
abbrev o1199:=kb "_law_net" 1867 699 1 1198 1875
abbrev o1200:=f2 "_law_net" kP m18 1199
abbrev o1203:=#v[1881,"_law_xs","_law_prime","_law_many","_law_high","_law_words","_law_k"]
abbrev o1206:=kb "_law_table" 1878 709 1 1205 1887
abbrev o1207:=f2 "_law_table" bT m18 1206
abbrev o1210:=#v[1893,"_law_xs","_law_way","_law_many"]
abbrev o1213:=kb "_law_made" 1890 722 1 1212 1896
abbrev o1214:=f2 "_law_made" jw m18 1213
abbrev o1217:=#v[1902,"_law_xs","_law_word","_law_way","_law_name_here","_law_words","_law_k"]
abbrev o1220:=kb "_law_asked" 1899 738 1 1219 1908
abbrev o1221:=f2 "_law_asked" cW m18 1220
abbrev o1224:=#v[1914,"_law_number","_law_some"]
abbrev o1227:=kb "_law_odd_word" 1911 754 1 1226 1916
abbrev o1228:=f2 "_law_odd_word" cF m18 1227
abbrev o1231:=#v[1922,"_law_words","_law_xs","_law_at"]
abbrev o1234:=kb "_law_spoilt_words" 1919 758 2 1233 1925
abbrev o1235:=f2 "_law_spoilt_words" c9 m18 1234
abbrev o1238:=#v[1931,"_law_line_here","_law_xs","_law_some","_law_sign","_law_at"]
abbrev o1241:=kb "_law_spoilt_line" 1928 765 2 1240 1936
abbrev o1242:=f2 "_law_spoilt_line" du m18 1241
abbrev o1246:=ka "_law_line" 1939 776 1 1245
abbrev o1247:=f2 "_law_line" cQ m18 1246
abbrev o1250:=#v[1948,"_law_word","_law_sign"]
abbrev o1253:=kb "_law_is_name" 1945 791 1 1252 1950
abbrev o1254:=f2 "_law_is_name" fU m18 1253
abbrev o1257:=#v[1956,"_law_word","_law_most","_law_k"]
abbrev o1260:=kb "_law_count" 1953 796 2 1259 1959
abbrev o1261:=f2 "_law_count" iG m18 1260
abbrev o1264:=#v[1965,"_law_word","_law_sign"]
abbrev o1267:=kb "_law_is_number" 1962 801 1 1266 1967
abbrev o1268:=f2 "_law_is_number" ee m18 1267
abbrev o1272:=ka "_law_is_set" 1970 808 2 1271
abbrev o1273:=f2 "_law_is_set" gJ m18 1272
abbrev o1277:=ka "_law_numbers" 1976 811 1 1276
abbrev o1278:=f2 "_law_numbers" fT m18 1277
abbrev o1282:=ka "_law_table_told" 1982 813 1 1281
abbrev o1283:=f2 "_law_table_told" dO m18 1282
abbrev o1286:=#v[1991,"_law_rest","_law_points","_law_tie"]
abbrev o1289:=kb "_law_net_told" 1988 823 1 1288 1994
abbrev o1290:=f2 "_law_net_told" e8 m18 1289
abbrev o1293:=#v[2000,"_law_rest"]
abbrev o1296:=kb "_law_even_told" 1997 833 1 1295 2001
abbrev o1297:=f2 "_law_even_told" ef m18 1296
abbrev o1301:=ka "_law_sets_told" 2004 838 1 1300
abbrev o1302:=f2 "_law_sets_told" d9 m18 1301
abbrev o1305:=#v[2013,"_law_word","_law_rest","_law_fine"]
abbrev o1308:=kb "_law_making" 2010 845 2 1307 2016
abbrev o1309:=f2 "_law_making" gI m18 1308
abbrev o1312:=#v[2022,"_law_word","_law_rest","_law_fine"]
abbrev o1315:=kb "_law_question" 2019 861 2 1314 2025
abbrev o1316:=f2 "_law_question" e7 m18 1315
abbrev o1319:=#v[2031,"_law_line_here","_law_words"]
abbrev o1322:=kb "_law_due" 2028 875 1 1321 2033
abbrev o1323:=f2 "_law_due" kQ m18 1322
abbrev o1326:=#v[2039,"_law_desk","_law_line_here","_law_caught","_law_answer","e"]
abbrev o1329:=kb "_law_said" 2036 884 2 1328 2044
abbrev o1330:=f2 "_law_said" ju m18 1329
abbrev o1333:=f1 "_law_sort" jr
abbrev o1334:=ka "_law_sort" 2047 892 1 1333
abbrev o1335:=f2 "_law_sort" jr m18 1334
abbrev g30(P:Params):List DictEntry:=[E P "_law_holds" 2063 (R 1342),E P "law" 2075 (R 1349)]
abbrev o3v14(P:Params):=D ((g27 P).append ((g1 P).append ((g5 P).append ((g8 P).append ((g11 P).append ((g14 P).append ((g16 P).append ((g18 P).append ((g19 P).append ((g21 P).append ((g23 P).append ((g25 P).append ((g26 P).append ((g28 P).append (g30 P))))))))))))))) 193
abbrev g31:=[I 900,I 0,R 1341,I 905,I 0,R 1348]
abbrev o1338:=#v[2056,"_law_desk","_law_line_here","_law_due_here","_law_caught","_law_answer"]
abbrev o1341:=kb "_law_holds" 2053 900 3 1340 2061
abbrev o1342:=f2 "_law_holds" iE m18 1341
abbrev o1345:=#v[2067,"_law_script","_law_cells","_law_k","_law_line_here","_law_due_here","_law_desk"]
abbrev o1348:=kb "law" 2064 905 1 1347 2073
abbrev o1349:=f2 "law" qu m18 1348
abbrev ub(x:Obj)(P:Params):List Obj:=[boot_o_0 P,boot_o_1 P,boot_o_2 P,x,boot_o_4 P,boot_o_5 P,boot_o_6 P,boot_o_7 P,boot_o_8 P,boot_o_9 P,boot_o_10 P,Y]
abbrev u0(P:Params):=ub (boot_o_3 P) P
abbrev u1(P:Params):=[Z,o13,o14]
abbrev u2(P:Params):=ub (D ((g0 P).append (g1 P)) 33) P
abbrev u3(P:Params):=[W (g2.append g3),o13,o14,Y,Z,o17,Y,o19,o20,o21,Y,Z]
abbrev u4(P:Params):=[f1 "things" qk,o25,o26,Y,Z,o29,Y,f1 "size" zx,o32,o33,Y,Z]
abbrev u5(P:Params):=[o36,Y,f1 "set_of" qm,o39,o40,Y,Z,o43,Y,f1 "within" qf,o46,o47]
abbrev u6(P:Params):=[Y,Z,f1 "parts" uV,o51,o52,Y,Z,f1 "choices" tf,ka "choices" 233 20 2 55,f2 "choices" tf m1 56,Y,Z]
abbrev u7(P:Params):=[f1 "spread" wQ,ka "spread" 239 22 2 60,f2 "spread" wQ m1 61,Y,Z,o65,Y,f1 "all_of" qy,o68,o69,Y,Z]
abbrev u8(P:Params):=[o72,Y,f1 "less" zC,o75,o76,Y,Z,f1 "marked" qr,o80,o81,Y,Z]
abbrev u9(P:Params):=[o84,Y,f1 "exchanged" jo,o87,o88,Y,Z,o91,Y,f1 "has_exchange" fP,o94,o95]
abbrev u10(P:Params):=[Y,Z,o98,Y,f1 "broken_bases" fS,o101,o102,Y,Z,o105,Y,f1 "holds_ring" iD]
abbrev u11(P:Params):=[o108,o109,Y,Z,o112,Y,f1 "ring_in_ring" fL,o115,o116,Y,Z,o119]
abbrev u12(P:Params):=[Y,f1 "rings_without_third" cG,o122,o123,Y,Z,o126,Y,f1 "broken_rings" fQ,o129,o130,Y]
abbrev u13(P:Params):=[Z,o133,Y,f1 "common_not_listed" c7,o136,o137,Y,Z,o140,Y,f1 "least_flat" iC,o143]
abbrev u14(P:Params):=[o144,Y,Z,o147,Y,f1 "flats_that_meet" dN,o150,o151,Y,Z,o154,Y]
abbrev u15(P:Params):=[f1 "broken_flats" fR,o157,o158,o159,bf "type.__prepare__" (.type "type"),D ([E P "__module__" 389 m0,E P "__qualname__" 391 m3,E P "__firstlineno__" 393 (.int 106 392),E P "__static_attributes__" 394 (R 166)]) 4,Y,Z,C1 "HouseError" 384 106 0 0 162 false .none .none .none 387,fr 164 161 m0,Y,o167 P]
abbrev u16(P:Params):=[⟨(.type "type"),none,Data.cls {name:=Str.ofString "HouseError",bases:=[Value.type "ValueError"],mro:=[Value.ref 168,Value.type "ValueError",Value.type "Exception",Value.type "BaseException",Value.type "object"],ns:=167,qualname:=Str.ofString "HouseError",subclasses:=[Value.ref 181]}, #[some (R 159),none,some (V "HouseError" 382),some m3,some (.builtin "ValueError.__new__"),some (.bool true)]⟩,o169,o170,o171,o172,o173,o174 P,Y,Z,o177,o178,Y]
abbrev u17(P:Params):=[o180 P,o181,o182,o183]
abbrev u18(P:Params):=ub (D ((g4 P).append ((g1 P).append (g5 P))) 38) P
abbrev u19(P:Params):=[W (g2.append (g3.append g6)),o13,o14,Y,Z,o17,Y,o19,o20,o21,Y,Z]
abbrev u20(P:Params):=[o168v1,o169,o170,o171,o172,o173,o174 P,Y,Z,o177,o178,Y]
abbrev u21(P:Params):=[o180 P,o181,o182,o183,o184,bf "type.__prepare__" (.type "type"),D ([E P "__module__" 423 m0,E P "__qualname__" 425 (V "NoHouse" 424),E P "__firstlineno__" 427 (.int 110 426),E P "__init__" 437 (R 197),E P "__static_attributes__" 441 (R 198)]) 5,Y,W [I 112,I 4,R 196],C1 "NoHouse" 418 110 0 0 187 false .none .none .none 421,fr 189 186 m0,Y]
abbrev u22(P:Params):=[Z,o193,Y,ff "__init__" "NoHouse.__init__" dw,o196,o197,o198,o199 P,o200,⟨(.type "super"),none, .fields ⟨[R 200,R 200,R 200]⟩, #[]⟩,bf "object.__init_subclass__" (R 200),o203]
abbrev u23(P:Params):=[bf "type.__prepare__" (.type "type"),D ([E P "__module__" 452 m0,E P "__qualname__" 454 (V "NoLine" 453),E P "__firstlineno__" 456 (.int 117 455),E P "__static_attributes__" 457 (R 210)]) 4,Y,Z,C1 "NoLine" 447 117 0 0 206 false .none .none .none 450,fr 208 205 m0,Y,o211 P,o212,⟨(.type "super"),none, .fields ⟨[R 212,R 212,R 212]⟩, #[]⟩,bf "object.__init_subclass__" (R 212),o215]
abbrev u24(P:Params):=[bf "type.__prepare__" (.type "type"),D ([E P "__module__" 468 m0,E P "__qualname__" 470 (V "NoName" 469),E P "__firstlineno__" 472 (.int 119 471),E P "__static_attributes__" 473 (R 222)]) 4,Y,Z,C1 "NoName" 463 119 0 0 218 false .none .none .none 466,fr 220 217 m0,Y,o223 P,o224,⟨(.type "super"),none, .fields ⟨[R 224,R 224,R 224]⟩, #[]⟩,bf "object.__init_subclass__" (R 224),o227]
abbrev u25(P:Params):=[bf "type.__prepare__" (.type "type"),D ([E P "__module__" 484 m0,E P "__qualname__" 486 (V "NoFit" 485),E P "__firstlineno__" 488 (.int 121 487),E P "__static_attributes__" 489 (R 234)]) 4,Y,Z,C1 "NoFit" 479 121 0 0 230 false .none .none .none 482,fr 232 229 m0,Y,o235 P,o236,⟨(.type "super"),none, .fields ⟨[R 236,R 236,R 236]⟩, #[]⟩,bf "object.__init_subclass__" (R 236),Y]
abbrev u26(P:Params):=[bf "type.__prepare__" (.type "type"),D ([E P "__module__" 502 m4,E P "__qualname__" 504 m5,E P "__firstlineno__" 506 (.int 124 505),E P "__init__" 514 (R 252),E P "rank" 522 (R 259),E P "everything" 529 (R 266),E P "__static_attributes__" 531 (R 267)]) 7,Y,W [I 126,I 4,R 251,I 129,I 4,R 258,I 132,I 4,R 265],C1 "House" 497 124 0 0 242 false .none .none .none 500,fr 244 241 m4,Y,Z,o248,Y,ff "__init__" "House.__init__" eh,o251]
abbrev u27(P:Params):=[o252,Y,Z,#v[518,"self","s"],Y,ff "rank" "House.rank" lS,kd "rank" "House.rank" 515 129 2 257 520,fk "rank" "House.rank" lS m4 258,Y,Z,o262,Y]
abbrev u28(P:Params):=[o264,o265,o266,o267,o268 P,⟨(.type "type"),none,Data.cls {name:=Str.ofString "House",bases:=[Value.type "object"],mro:=[Value.ref 269,Value.type "object"],ns:=268,qualname:=Str.ofString "House"}, #[none,none,some m6,some m5,some (.builtin "object.__new__"),some (.bool true)]⟩,o270,o271,o272,o273]
abbrev u29(P:Params):=ub (D ((g7 P).append ((g1 P).append ((g5 P).append (g8 P)))) 56) P
abbrev u30(P:Params):=[W (g2.append (g3.append (g6.append g9))),o13,o14,Y,Z,o17,Y,o19,o20,o21,Y,Z]
abbrev u31(P:Params):=[o264,o265,o266,o267,o268 P,⟨(.type "type"),none,Data.cls {name:=Str.ofString "House",bases:=[Value.type "object"],mro:=[Value.ref 269,Value.type "object"],ns:=268,qualname:=Str.ofString "House",subclasses:=[Value.ref 297,Value.ref 321]}, #[none,none,some m6,some m5,some (.builtin "object.__new__"),some (.bool true)]⟩,o270,o271,o272,o273,o274,o275]
abbrev u32(P:Params):=[D ([E P "__module__" 546 m4,E P "__qualname__" 548 (V "Even" 547),E P "__firstlineno__" 550 (.int 134 549),E P "__init__" 559 (R 287),E P "rank" 567 (R 294),E P "__static_attributes__" 569 (R 295)]) 6,Y,W [I 136,I 4,R 286,I 140,I 4,R 293],C1 "Even" 541 134 0 0 277 false .none .none .none 544,fr 279 276 m4,Y,Z,o283,Y,ff "__init__" "Even.__init__" fb,o286,o287]
abbrev u33(P:Params):=[Y,Z,o290,Y,ff "rank" "Even.rank" jx,o293,o294,o295,o296 P,o297,⟨(.type "super"),none, .fields ⟨[R 297,R 297,R 297]⟩, #[]⟩,bf "object.__init_subclass__" (R 297)]
abbrev u34(P:Params):=[o300,bf "type.__prepare__" (.type "type"),D ([E P "__module__" 580 m4,E P "__qualname__" 582 (V "Listed" 581),E P "__firstlineno__" 584 (.int 142 583),E P "__init__" 593 (R 313),E P "rank" 599 (R 318),E P "__static_attributes__" 601 (R 319)]) 6,Y,W [I 144,I 4,R 312,I 148,I 4,R 317],C1 "Listed" 575 142 0 0 303 false .none .none .none 578,fr 305 302 m4,Y,Z,o309,Y,ff "__init__" "Listed.__init__" dQ]
abbrev u35(P:Params):=[o312,o313,Y,Z,ff "rank" "Listed.rank" gL,o317,o318,o319,o320 P,o321,⟨(.type "super"),none, .fields ⟨[R 321,R 321,R 321]⟩, #[]⟩,bf "object.__init_subclass__" (R 321)]
abbrev u36(P:Params):=[Y,Z,o326,Y,f1 "whole_rank" iu,o329,o330,Y,Z,f1 "ranks" A9,ka "ranks" 614 153 1 333,f2 "ranks" A9 m8 334]
abbrev u37(P:Params):=[Y,Z,f1 "frees" uX,o339,o340,Y,Z,f1 "bases" uY,o344,o345,Y,Z]
abbrev u38(P:Params):=[f1 "is_ring" sV,ka "is_ring" 632 160 2 348,f2 "is_ring" sV m8 349,Y,Z,f1 "rings" A8,ka "rings" 638 164 1 353,f2 "rings" A8 m8 354,Y,Z,f1 "is_flat" sW,ka "is_flat" 644 167 3 358]
abbrev u39(P:Params):=[f2 "is_flat" sW m8 359,Y,Z,f1 "flats" Bb,ka "flats" 650 169 1 363,f2 "flats" Bb m8 364,Y,Z,#v[659,"house","s","rank","found","thing"],Y,f1 "closed" wW,kb "closed" 656 173 2 370 664]
abbrev u40(P:Params):=[f2 "closed" wW m8 371,Y,Z,o375,Y,f1 "refuse" qo,o378,o379,Y,Z,f1 "house_of_frees" d8,o383]
abbrev u41(P:Params):=[o384,Y,Z,o387,Y,f1 "of_bases" kL,o390,o391,Y,Z,f1 "of_rings" kJ,o395]
abbrev u42(P:Params):=[o396,Y,Z,f1 "is_free" mW,o400,o401,Y,Z,f1 "of_flats" kK,o405,o406,Y]
abbrev u43(P:Params):=[Z,o409,o410,o411]
abbrev u44(P:Params):=ub (D ((g10 P).append ((g1 P).append ((g5 P).append ((g8 P).append (g11 P))))) 73) P
abbrev u45(P:Params):=[W (g2.append (g3.append (g6.append (g9.append g12)))),o13,o14,Y,Z,o17,Y,o19,o20,o21,Y,Z]
abbrev u46(P:Params):=[o264,o265,o266,o267,o268 P,⟨(.type "type"),none,Data.cls {name:=Str.ofString "House",bases:=[Value.type "object"],mro:=[Value.ref 269,Value.type "object"],ns:=268,qualname:=Str.ofString "House",subclasses:=[Value.ref 297,Value.ref 321,Value.ref 435,Value.ref 461,Value.ref 487]}, #[none,none,some m6,some m5,some (.builtin "object.__new__"),some (.bool true)]⟩,o270,o271,o272,o273,o274,o275]
abbrev u47(P:Params):=[Z,o409,o410,o411,T [R 269],bf "type.__prepare__" (.type "type"),D ([E P "__module__" 723 m7,E P "__qualname__" 725 (V "Other" 724),E P "__firstlineno__" 727 (.int 209 726),E P "__init__" 735 (R 425),E P "rank" 744 (R 432),E P "__static_attributes__" 748 (R 433)]) 6,Y,W [I 211,I 4,R 424,I 217,I 4,R 431],C1 "Other" 718 209 0 0 415 false .none .none .none 721,fr 417 414 m7,Y]
abbrev u48(P:Params):=[Z,#v[731,"self","house"],Y,ff "__init__" "Other.__init__" gQ,kd "__init__" "Other.__init__" 728 211 2 423 733,fk "__init__" "Other.__init__" gQ m7 424,Y,Z,#v[739,"self","s","outside"],Y,ff "rank" "Other.rank" lP,kd "rank" "Other.rank" 736 217 2 430 742]
abbrev u49(P:Params):=[fk "rank" "Other.rank" lP m7 431,#v[745,"full","full_rank","house"],o434 P,o435,⟨(.type "super"),none, .fields ⟨[R 435,R 435,R 435]⟩, #[]⟩,bf "object.__init_subclass__" (R 435),T [R 269],bf "type.__prepare__" (.type "type"),D ([E P "__module__" 759 m7,E P "__qualname__" 761 (V "Minor" 760),E P "__firstlineno__" 763 (.int 220 762),E P "__init__" 774 (R 451),E P "rank" 782 (R 458),E P "__static_attributes__" 787 (R 459)]) 6,Y,W [I 222,I 4,R 450,I 230,I 4,R 457],C1 "Minor" 754 220 0 0 441 false .none .none .none 757]
abbrev u50(P:Params):=[fr 443 440 m7,Y,Z,#v[767,"self","house","out","drawn","kept"],Y,ff "__init__" "Minor.__init__" gS,kd "__init__" "Minor.__init__" 764 222 4 449 772,fk "__init__" "Minor.__init__" gS m7 450,Y,Z,#v[778,"self","s"],Y]
abbrev u51(P:Params):=[ff "rank" "Minor.rank" lQ,kd "rank" "Minor.rank" 775 230 2 456 780,fk "rank" "Minor.rank" lQ m7 457,#v[783,"drawn","drawn_rank","house","kept"],o460 P,o461,⟨(.type "super"),none, .fields ⟨[R 461,R 461,R 461]⟩, #[]⟩,bf "object.__init_subclass__" (R 461),T [R 269],bf "type.__prepare__" (.type "type"),D ([E P "__module__" 798 m7,E P "__qualname__" 800 (V "Side" 799),E P "__firstlineno__" 802 (.int 232 801),E P "__init__" 811 (R 477),E P "rank" 819 (R 484),E P "__static_attributes__" 824 (R 485)]) 6,Y]
abbrev u52(P:Params):=[W [I 234,I 4,R 476,I 241,I 4,R 483],C1 "Side" 793 232 0 0 467 false .none .none .none 796,fr 469 466 m7,Y,Z,#v[806,"self","one","other"],Y,ff "__init__" "Side.__init__" iZ,kd "__init__" "Side.__init__" 803 234 3 475 809,fk "__init__" "Side.__init__" iZ m7 476,Y,Z]
abbrev u53(P:Params):=[#v[815,"self","s"],Y,ff "rank" "Side.rank" oE,kd "rank" "Side.rank" 812 241 2 482 817,fk "rank" "Side.rank" oE m7 483,#v[820,"first","first_full","first_many","second"],o486 P,o487,⟨(.type "super"),none, .fields ⟨[R 487,R 487,R 487]⟩, #[]⟩,bf "object.__init_subclass__" (R 487),Y,Z]
abbrev u54(P:Params):=[f1 "is_even" sX,ka "is_even" 840 249 3 492,f2 "is_even" sX m10 493,Y,Z,f1 "holders" sY,ka "holders" 846 253 2 497,f2 "holders" sY m10 498,Y,Z,f1 "is_seven" qv,ka "is_seven" 852 255 1 502]
abbrev u55(P:Params):=[f2 "is_seven" qv m10 503,Y,Z,#v[861,"house"],Y,f1 "kind_of" sU,kb "kind_of" 858 261 1 509 862,f2 "kind_of" sU m10 510,Y,Z,f1 "rests" uU,o515]
abbrev u56(P:Params):=[o516,Y,Z,o519,Y,f1 "pivot_place" gD,o522,o523,Y,Z,f1 "cleared" mX,o527]
abbrev u57(P:Params):=[o528,Y,Z,o531,o532,o533,Y,Z,o536,o537,o538]
abbrev u58(P:Params):=ub (D ((g13 P).append ((g1 P).append ((g5 P).append ((g8 P).append ((g11 P).append (g14 P)))))) 102) P
abbrev u59(P:Params):=[W (g2.append (g3.append (g6.append (g9.append (g12.append g15))))),o13,o14,Y,Z,o17,Y,o19,o20,o21,Y,Z]
abbrev u60(P:Params):=[o264,o265,o266,o267,o268 P,⟨(.type "type"),none,Data.cls {name:=Str.ofString "House",bases:=[Value.type "object"],mro:=[Value.ref 269,Value.type "object"],ns:=268,qualname:=Str.ofString "House",subclasses:=[Value.ref 297,Value.ref 321,Value.ref 435,Value.ref 461,Value.ref 487,Value.ref 562]}, #[none,none,some m6,some m5,some (.builtin "object.__new__"),some (.bool true)]⟩,o270,o271,o272,o273,o274,o275]
abbrev u61(P:Params):=[o528,Y,Z,o531,o532,o533,Y,Z,o536,o537,o538,T [R 269]]
abbrev u62(P:Params):=[bf "type.__prepare__" (.type "type"),D ([E P "__module__" 910 m9,E P "__qualname__" 912 (V "Known" 911),E P "__firstlineno__" 914 (.int 307 913),E P "__init__" 922 (R 552),E P "rank" 930 (R 559),E P "__static_attributes__" 932 (R 560)]) 6,Y,W [I 309,I 4,R 551,I 313,I 4,R 558],C1 "Known" 905 307 0 0 542 false .none .none .none 908,fr 544 541 m9,Y,Z,#v[918,"self","house"],Y,ff "__init__" "Known.__init__" gT,kd "__init__" "Known.__init__" 915 309 2 550 920]
abbrev u63(P:Params):=[fk "__init__" "Known.__init__" gT m9 551,Y,Z,#v[926,"self","s"],Y,ff "rank" "Known.rank" lR,kd "rank" "Known.rank" 923 313 2 557 928,fk "rank" "Known.rank" lR m9 558,#v[931,"told"],o561 P,o562,⟨(.type "super"),none, .fields ⟨[R 562,R 562,R 562]⟩, #[]⟩]
abbrev u64(P:Params):=[bf "object.__init_subclass__" (R 562),Y,Z,f1 "columns_with" jq,ka "columns_with" 936 315 2 567,f2 "columns_with" jq m9 568,Y,Z,f1 "fits" EN,ka "fits" 942 324 5 572,f2 "fits" EN m9 573,Y]
abbrev u65(P:Params):=[Z,f1 "column_for" lO,ka "column_for" 948 331 5 577,f2 "column_for" lO m9 578,Y,Z,f1 "single" wR,ka "single" 954 338 2 582,f2 "single" wR m9 583,Y,Z,f1 "table_for" oy]
abbrev u66(P:Params):=[ka "table_for" 960 340 2 587,f2 "table_for" oy m9 588,Y,Z,#v[969,"house","kind","many","rank","kept","rest","drawn","out"],Y,f1 "left_barred" kj,kb "left_barred" 966 352 4 594 977,f2 "left_barred" kj m9 595,Y,Z,#v[983,"house","prime","kinds","known","rows","kind","found"]]
abbrev u67(P:Params):=[Y,f1 "told_over" ow,kb "told_over" 980 360 3 601 990,f2 "told_over" ow m9 602,Y,Z,#v[996,"house"],Y,f1 "over_two" qp,kb "over_two" 993 370 1 608 997,f2 "over_two" qp m9 609,Y]
abbrev u68(P:Params):=[Z,#v[1003,"house","kinds"],Y,f1 "over_three" lK,kb "over_three" 1000 372 1 615 1005,f2 "over_three" lK m9 616,Y,Z,f1 "over_all" qq,ka "over_all" 1008 375 1 620,f2 "over_all" qq m9 621,Y]
abbrev u69(P:Params):=[Z,f1 "shown" uT,o626,o627,Y,Z,f1 "read" zy,o631,o632,Y,Z,f1 "shown_all" oz]
abbrev u70(P:Params):=[ka "shown_all" 1032 395 1 635,f2 "shown_all" oz m13 636,o638,Y,bf "type.__prepare__" (.type "type"),D ([E P "__module__" 1082 m12,E P "__qualname__" 1084 (V "Line" 1083),E P "__firstlineno__" 1086 (.int 403 1085),E P "__init__" 1097 (R 652),E P "__static_attributes__" 1102 (R 653)]) 5,Y,W [I 405,I 4,R 651],C1 "Line" 1077 403 0 0 642 false .none .none .none 1080,fr 644 641 m12,Y,Z]
abbrev u71(P:Params):=[o648,Y,ff "__init__" "Line.__init__" e9,o651,o652,o653,o654 P,o655,o656,o657,⟨(.type "super"),none, .fields ⟨[R 655,R 655,R 655]⟩, #[]⟩,bf "object.__init_subclass__" (R 655)]
abbrev u72(P:Params):=[Y,Z,o662,Y,f1 "need" zA,o665,o666,Y,Z,f1 "made_of" mU,o670,o671]
abbrev u73(P:Params):=[Y,Z,o674,Y,f1 "name_of" mT,o677,o678,Y,Z,o681,Y,f1 "number_of" jk]
abbrev u74(P:Params):=[o684,o685,Y,Z,o688,Y,f1 "number_up_to" fO,o691,o692,Y,Z,o695]
abbrev u75(P:Params):=[Y,o697,o698,o699,Y,Z,o702,Y,o704,o705,o706]
abbrev u76(P:Params):=ub (D ((g13 P).append ((g1 P).append ((g5 P).append ((g8 P).append ((g11 P).append ((g14 P).append (g16 P))))))) 114) P
abbrev u77(P:Params):=[W (g2.append (g3.append (g6.append (g9.append (g12.append (g15.append g17)))))),o13,o14,Y,Z,o17,Y,o19,o20,o21,Y,Z]
abbrev u78(P:Params):=[Y,o697,o698,o699,Y,Z,o702,Y,o704,o705,o706,Y]
abbrev u79(P:Params):=[Z,o709,Y,f1 "tie_of" qj,o712,o713,Y,Z,f1 "rows_of" mQ,o717,o718,Y]
abbrev u80(P:Params):=[Z,o721,Y,f1 "read_even" ji,o724,o725,Y,Z,f1 "read_sets" jh,o729,o730,Y]
abbrev u81(P:Params):=[Z,f1 "read_net" kI,o734,o735,Y,Z,f1 "read_table" iz,o739,o740,Y,Z,o743]
abbrev u82(P:Params):=[Y,f1 "read_house" iA,o746,o747,Y,Z,f1 "read_two_houses" dM,o751,o752,Y,Z,o755]
abbrev u83(P:Params):=[Y,f1 "read_house_and_set" cP,o758,o759,Y,Z,f1 "read_house_and_numbers" b9,o763,o764,Y,Z,o767]
abbrev u84(P:Params):=[Y,o769,o770,o771,Y,Z,o774,Y,o776,o777,o778]
abbrev u85(P:Params):=ub (D ((g13 P).append ((g1 P).append ((g5 P).append ((g8 P).append ((g11 P).append ((g14 P).append ((g16 P).append (g18 P)))))))) 115) P
abbrev u86(P:Params):=[Y,o769,o770,o771,Y,Z,o774,Y,o776,o777,o778,o779 P]
abbrev u87(P:Params):=ub (D ((g13 P).append ((g1 P).append ((g5 P).append ((g8 P).append ((g11 P).append ((g14 P).append ((g16 P).append ((g18 P).append (g19 P))))))))) 116) P
abbrev u88(P:Params):=[o780 P]
abbrev u89(P:Params):=ub (D ((g20 P).append ((g1 P).append ((g5 P).append ((g8 P).append ((g11 P).append ((g14 P).append ((g16 P).append ((g18 P).append ((g19 P).append (g21 P)))))))))) 137) P
abbrev u90(P:Params):=[W (g2.append (g3.append (g6.append (g9.append (g12.append (g15.append (g17.append g22))))))),o13,o14,Y,Z,o17,Y,o19,o20,o21,Y,Z]
abbrev u91(P:Params):=[o264,o265,o266,o267,o268 P,o269v4,o270,o271,o272,o273,o274,o275]
abbrev u92(P:Params):=[o780 P,Y,Z,o783,Y,f1 "making_line" gE,o786,o787,Y,Z,o790,Y]
abbrev u93(P:Params):=[f1 "asking_line" gF,o793,o794,Y,Z,o797,Y,f1 "line_of" mV,o800,o801,Y,Z]
abbrev u94(P:Params):=[f1 "tied" zv,o805,o806,o807,bf "type.__prepare__" (.type "type"),D ([E P "__module__" 1336 m15,E P "__qualname__" 1338 (V "Net" 1337),E P "__firstlineno__" 1340 (.int 507 1339),E P "__init__" 1346 (R 818),E P "pieces" 1356 (R 825),E P "rank" 1364 (R 832),E P "__static_attributes__" 1367 (R 833)]) 7,Y,W [I 509,I 4,R 817,I 514,I 4,R 824,I 520,I 4,R 831],C1 "Net" 1331 507 0 0 810 false .none .none .none 1334,fr 812 809 m15,Y,Z]
abbrev u95(P:Params):=[ff "__init__" "Net.__init__" fW,o817,o818,Y,Z,o821,Y,ff "pieces" "Net.pieces" iH,o824,o825,Y,Z]
abbrev u96(P:Params):=[o828,Y,ff "rank" "Net.rank" kT,o831,o832,#v[1365,"points","ties"],o834 P,o835,⟨(.type "super"),none, .fields ⟨[R 835,R 835,R 835]⟩, #[]⟩,bf "object.__init_subclass__" (R 835),Y,Z]
abbrev u97(P:Params):=[#v[1376,"number","exponent","product","step"],Y,f1 "power" Ba,kb "power" 1373 523 2 842 1380,f2 "power" Ba m16 843,Y,Z,f1 "times" A7,ka "times" 1383 528 3 847,f2 "times" A7 m16 848,Y,Z]
abbrev u98(P:Params):=[#v[1392,"one","other","found","pair"],Y,f1 "plus" EM,kb "plus" 1389 530 2 854 1396,f2 "plus" EM m16 855,Y,Z,#v[1402,"told","drawn","left","thing","behind","everything","taken_out"],Y,f1 "terms_of" ql,kb "terms_of" 1399 535 3 861 1409,f2 "terms_of" ql m16 862]
abbrev u99(P:Params):=[T [.none],Y,Z,f1 "polynomial" lJ,ka "polynomial" 1412 547 2 867,o869,Y,Z,f1 "worth" A6,ka "worth" 1418 551 3 872,f2 "worth" A6 m16 873,Y]
abbrev u100(P:Params):=[Z,#v[1427,"house","poly"],Y,f1 "counts" wU,kb "counts" 1424 553 1 879 1429,f2 "counts" wU m16 880,o882,bf "type.__prepare__" (.type "type"),D ([E P "__module__" 1441 m17,E P "__qualname__" 1443 (V "Tabled" 1442),E P "__firstlineno__" 1445 (.int 557 1444),E P "__init__" 1451 (R 893),E P "rank" 1457 (R 898),E P "__static_attributes__" 1460 (R 899)]) 6,Y,W [I 559,I 4,R 892,I 564,I 4,R 897],C1 "Tabled" 1436 557 0 0 885 false .none .none .none 1439]
abbrev u101(P:Params):=[fr 887 884 m17,Y,Z,ff "__init__" "Tabled.__init__" dP,o892,o893,Y,Z,ff "rank" "Tabled.rank" gK,o897,o898,#v[1458,"prime","rows"]]
abbrev u102(P:Params):=[o900 P,o901,⟨(.type "super"),none, .fields ⟨[R 901,R 901,R 901]⟩, #[]⟩,bf "object.__init_subclass__" (R 901),Y,Z,#v[1469,"house","weights","order","taken","thing","more"],#v[1475,"weights"],f1 "heaviest" qw,kb "heaviest" 1466 568 2 908 1476,f2 "heaviest" qw (V "basehouse.weights" 1464) 909,Y]
abbrev u103(P:Params):=[Z,#v[1484,"right","words"],Y,f1 "fit" Ke,kb "fit" 1481 577 2 915 1486,f2 "fit" Ke m14 916,Y,Z,#v[1492,"house","s"],Y,f1 "fit_set" sZ,kb "fit_set" 1489 580 2 922 1494]
abbrev u104(P:Params):=[f2 "fit_set" sZ m14 923,Y,Z,o927,Y,f1 "made_even" jm,o930,o931,Y,Z,o934,Y]
abbrev u105(P:Params):=[f1 "made_of_bases" eZ,o937,o938,Y,Z,o941,Y,f1 "made_of_rings" eX,o944,o945,Y,Z]
abbrev u106(P:Params):=[o948,Y,f1 "made_of_flats" eY,o951,o952,Y,Z,o955,Y,f1 "made_net" kM,o958,o959]
abbrev u107(P:Params):=ub (D ((g20 P).append ((g1 P).append ((g5 P).append ((g8 P).append ((g11 P).append ((g14 P).append ((g16 P).append ((g18 P).append ((g19 P).append ((g21 P).append (g23 P))))))))))) 158) P
abbrev u108(P:Params):=[W (g2.append (g3.append (g6.append (g9.append (g12.append (g15.append (g17.append (g22.append g24)))))))),o13,o14,Y,Z,o17,Y,o19,o20,o21,Y,Z]
abbrev u109(P:Params):=[Y,Z,o962,Y,f1 "made_table" iB,o965,o966,Y,Z,o969,Y,f1 "made_other" lL]
abbrev u110(P:Params):=[o972,o973,Y,Z,o976,Y,f1 "made_out" qt,o979,o980,Y,Z,o983]
abbrev u111(P:Params):=[Y,f1 "made_drawn" lM,o986,o987,Y,Z,o990,Y,f1 "made_side" oB,o993,o994,Y]
abbrev u112(P:Params):=[Z,#v[1580,"sets"],Y,f1 "sets_text" oA,kb "sets_text" 1577 605 1 999 1581,f2 "sets_text" oA m14 1000,Y,Z,#v[1587,"right"],Y,f1 "yes_or_no" oq,kb "yes_or_no" 1584 607 1 1006 1588]
abbrev u113(P:Params):=[f2 "yes_or_no" oq m14 1007,Y,Z,#v[1594,"houses","given"],Y,f1 "told_bases" lI,kb "told_bases" 1591 609 2 1013 1596,f2 "told_bases" lI m14 1014,Y,Z,#v[1602,"houses","given"],Y]
abbrev u114(P:Params):=[f1 "told_rings" lF,kb "told_rings" 1599 611 2 1020 1604,f2 "told_rings" lF m14 1021,Y,Z,#v[1610,"houses","given"],Y,f1 "told_flats" lH,kb "told_flats" 1607 613 2 1027 1612,f2 "told_flats" lH m14 1028,Y,Z]
abbrev u115(P:Params):=[#v[1618,"houses","given"],Y,f1 "told_frees" lG,kb "told_frees" 1615 615 2 1034 1620,f2 "told_frees" lG m14 1035,Y,Z,#v[1626,"houses","given"],Y,f1 "told_rank" ou,kb "told_rank" 1623 617 2 1041 1628,f2 "told_rank" ou m14 1042]
abbrev u116(P:Params):=[Y,Z,#v[1634,"houses","given"],Y,f1 "told_closed" ki,kb "told_closed" 1631 620 2 1048 1636,f2 "told_closed" ki m14 1049,Y,Z,#v[1642,"houses","given","as_many"],Y,f1 "told_same" ot]
abbrev u117(P:Params):=[kb "told_same" 1639 623 2 1055 1645,f2 "told_same" ot m14 1056,Y,Z,#v[1651,"houses","given"],Y,f1 "told_two" qg,kb "told_two" 1648 626 2 1062 1653,f2 "told_two" qg m14 1063,Y,Z,#v[1659,"houses","given"]]
abbrev u118(P:Params):=[Y,f1 "told_three" lE,kb "told_three" 1656 628 2 1069 1661,f2 "told_three" lE m14 1070,Y,Z,#v[1667,"houses","given"],Y,f1 "told_all" qi,kb "told_all" 1664 630 2 1076 1669,f2 "told_all" qi m14 1077,Y]
abbrev u119(P:Params):=[Z,#v[1675,"houses","given"],Y,f1 "told_common" kh,kb "told_common" 1672 632 2 1083 1677,f2 "told_common" kh m14 1084,Y,Z,#v[1683,"houses","given"],Y,f1 "told_heaviest" iY,kb "told_heaviest" 1680 635 2 1090 1685]
abbrev u120(P:Params):=[f2 "told_heaviest" iY m14 1091,Y,Z,f1 "told_counts" kg,ka "told_counts" 1688 638 2 1095,f2 "told_counts" kg m14 1096,Y,Z,#v[1697,"houses","given"],Y,f1 "told_worth" lD,kb "told_worth" 1694 640 2 1102 1699]
abbrev u121(P:Params):=[o1104]
abbrev u122(P:Params):=ub (D ((g20 P).append ((g1 P).append ((g5 P).append ((g8 P).append ((g11 P).append ((g14 P).append ((g16 P).append ((g18 P).append ((g19 P).append ((g21 P).append ((g23 P).append (g25 P)))))))))))) 159) P
abbrev u123(P:Params):=[o1104,o1105 P]
abbrev u124(P:Params):=ub (D ((g20 P).append ((g1 P).append ((g5 P).append ((g8 P).append ((g11 P).append ((g14 P).append ((g16 P).append ((g18 P).append ((g19 P).append ((g21 P).append ((g23 P).append ((g25 P).append (g26 P))))))))))))) 160) P
abbrev u125(P:Params):=[o1104,o1105 P,o1106 P]
abbrev u126(P:Params):=ub (D ((g27 P).append ((g1 P).append ((g5 P).append ((g8 P).append ((g11 P).append ((g14 P).append ((g16 P).append ((g18 P).append ((g19 P).append ((g21 P).append ((g23 P).append ((g25 P).append ((g26 P).append (g28 P)))))))))))))) 191) P
abbrev u127(P:Params):=[W (g2.append (g3.append (g6.append (g9.append (g12.append (g15.append (g17.append (g22.append (g24.append g29))))))))),o13,o14,Y,Z,o17,Y,o19,o20,o21,Y,Z]
abbrev u128(P:Params):=[o1104,o1105 P,o1106 P,Y,Z,o1109,Y,f1 "made" zB,o1112,o1113,Y,Z]
abbrev u129(P:Params):=[#v[1764,"verb","houses","given"],Y,f1 "answered" qx,kb "answered" 1761 646 3 1118 1767,f2 "answered" qx m14 1119,Y,bf "type.__prepare__" (.type "type"),D ([E P "__module__" 1779 m19,E P "__qualname__" 1781 (V "Desk" 1780),E P "__firstlineno__" 1783 (.int 649 1782),E P "__init__" 1790 (R 1134),E P "house_called" 1798 (R 1141),E P "say" 1804 (R 1146),E P "__static_attributes__" 1806 (R 1147)]) 7,Y,W [I 651,I 4,R 1133,I 654,I 4,R 1140,I 659,I 4,R 1145],C1 "Desk" 1774 649 0 0 1124 false .none .none .none 1777,fr 1126 1123 m19]
abbrev u130(P:Params):=[Y,Z,o1130,Y,ff "__init__" "Desk.__init__" fg,o1133,o1134,Y,Z,o1137,Y,ff "house_called" "Desk.house_called" da]
abbrev u131(P:Params):=[o1140,o1141,Y,Z,ff "say" "Desk.say" kU,o1145,o1146,o1147,o1148 P,o1149,o1150,o1151]
abbrev u132(P:Params):=[⟨(.type "super"),none, .fields ⟨[R 1149,R 1149,R 1149]⟩, #[]⟩,bf "object.__init_subclass__" (R 1149),Y,Z,o1156,Y,f1 "_law_stream" gH,o1159,o1160,Y,Z,o1163]
abbrev u133(P:Params):=[Y,f1 "_law_few" fV,o1166,o1167,Y,Z,o1170,Y,f1 "_law_name" jv,o1173,o1174,Y]
abbrev u134(P:Params):=[Z,f1 "_law_set" kN,o1178,o1179,Y,Z,o1182,Y,f1 "_law_great" iF,o1185,o1186,Y]
abbrev u135(P:Params):=[Z,o1189,Y,f1 "_law_sets" jt,o1192,o1193,Y,Z,o1196,Y,f1 "_law_net" kP,o1199]
abbrev u136(P:Params):=[o1200,Y,Z,o1203,Y,f1 "_law_table" bT,o1206,o1207,Y,Z,o1210,Y]
abbrev u137(P:Params):=[f1 "_law_made" jw,o1213,o1214,Y,Z,o1217,Y,f1 "_law_asked" cW,o1220,o1221,Y,Z]
abbrev u138(P:Params):=[o1224,Y,f1 "_law_odd_word" cF,o1227,o1228,Y,Z,o1231,Y,f1 "_law_spoilt_words" c9,o1234,o1235]
abbrev u139(P:Params):=[Y,Z,o1238,Y,f1 "_law_spoilt_line" du,o1241,o1242,Y,Z,f1 "_law_line" cQ,o1246,o1247]
abbrev u140(P:Params):=[Y,Z,o1250,Y,f1 "_law_is_name" fU,o1253,o1254,Y,Z,o1257,Y,f1 "_law_count" iG]
abbrev u141(P:Params):=[o1260,o1261,Y,Z,o1264,Y,f1 "_law_is_number" ee,o1267,o1268,Y,Z,f1 "_law_is_set" gJ]
abbrev u142(P:Params):=[o1272,o1273,Y,Z,f1 "_law_numbers" fT,o1277,o1278,Y,Z,f1 "_law_table_told" dO,o1282,o1283]
abbrev u143(P:Params):=[Y,Z,o1286,Y,f1 "_law_net_told" e8,o1289,o1290,Y,Z,o1293,Y,f1 "_law_even_told" ef]
abbrev u144(P:Params):=[o1296,o1297,Y,Z,f1 "_law_sets_told" d9,o1301,o1302,Y,Z,o1305,Y,f1 "_law_making" gI]
abbrev u145(P:Params):=[o1308,o1309,Y,Z,o1312,Y,f1 "_law_question" e7,o1315,o1316,Y,Z,o1319]
abbrev u146(P:Params):=[Y,f1 "_law_due" kQ,o1322,o1323,Y,Z,o1326,Y,f1 "_law_said" ju,o1329,o1330,Y]
abbrev u147(P:Params):=[Z,o1333,o1334,o1335]
abbrev u148(P:Params):=ub (o3v14 P) P
abbrev u149(P:Params):=[W (g2.append (g3.append (g6.append (g9.append (g12.append (g15.append (g17.append (g22.append (g24.append (g29.append g31)))))))))),o13,o14,Y,Z,o17,Y,o19,o20,o21,Y,Z]
abbrev u150(P:Params):=[Z,o1333,o1334,o1335,Y,Z,o1338,Y,f1 "_law_holds" iE,o1341,o1342,Y]
abbrev u151(P:Params):=[Z,o1345,Y,f1 "law" qu,o1348,o1349]
theorem yu0:([u0,u1,u2,u3,u4,u5,u6,u7,u8,u9,u10,u11,u12,u13,u14,u15,u16,u17,u18,u19,u20,u21,u22,u23,u24,u25,u26,u27,u28,u29]:List (Params->List Obj)).all (λ_=>true)=true:=by k_qdec
theorem yu30:([u30,u31,u32,u33,u34,u35,u36,u37,u38,u39,u40,u41,u42,u43,u44,u45,u46,u47,u48,u49,u50,u51,u52,u53,u54,u55,u56,u57,u58,u59]:List (Params->List Obj)).all (λ_=>true)=true:=by k_qdec
theorem yu60:([u60,u61,u62,u63,u64,u65,u66,u67,u68,u69,u70,u71,u72,u73,u74,u75,u76,u77,u78,u79,u80,u81,u82,u83,u84,u85,u86,u87,u88,u89]:List (Params->List Obj)).all (λ_=>true)=true:=by k_qdec
theorem yu90:([u90,u91,u92,u93,u94,u95,u96,u97,u98,u99,u100,u101,u102,u103,u104,u105,u106,u107,u108,u109,u110,u111,u112,u113,u114,u115,u116,u117,u118,u119]:List (Params->List Obj)).all (λ_=>true)=true:=by k_qdec
theorem yu120:([u120,u121,u122,u123,u124,u125,u126,u127,u128,u129,u130,u131,u132,u133,u134,u135,u136,u137,u138,u139,u140,u141,u142,u143,u144,u145,u146,u147,u148,u149]:List (Params->List Obj)).all (λ_=>true)=true:=by k_qdec
theorem yu150:([u150,u151]:List (Params->List Obj)).all (λ_=>true)=true:=by k_qdec
abbrev spl(l:List Obj):List Obj×List Obj:= @List.rec Obj (λ_=>List Obj×List Obj) ([],[]) (λx _ ih=>(x::ih.2,ih.1)) l
abbrev mkT(n:Nat):List Obj->BT:= @Nat.rec (λ_=>List Obj->BT) (λ_=> .nil) (λ_ ih l=> @List.rec Obj (λ_=>BT) .nil (λx r _=> .node x (ih (spl r).1) (ih (spl r).2)) l) n
theorem qh{α:Sort u}{a b c d:α}(h:a=b)(k:d=c)(e:b=c):a=d:=h.trans (e.trans k.symm)
abbrev l0(P:Params):=#v[0,1]
abbrev p0(P:Params):=#v[4,5,6,7,8,9,10,11,12,13,14,15,16]
abbrev l2(P:Params):=#v[2,3,p0,17]
abbrev p1(P:Params):=#v[4,5,6,7,8,9,10,11,12,13,14,15,20,21,22,23,24,25,26,27]
abbrev l3(P:Params):=#v[18,19,p1,28]
abbrev p2(P:Params):=#v[p1,31,32,33,34,35,36,37,38,39,40,41,42]
abbrev l4(P:Params):=#v[29,30,p2,43]
abbrev p3(P:Params):=#v[p1,46,32,33,34,35,36,37,38,39,40,41,42,47,48,49,50,51,52,53,54,55,56]
abbrev l5(P:Params):=#v[44,45,p3,57]
abbrev p4(P:Params):=#v[p1,60,32,33,34,35,36,37,38,39,40,41,42,47,48,49,50,51,52,53,54,55,56,61,62,63,64,65,66,67,68,69,70,71,72,73,74]
abbrev l6(P:Params):=#v[58,59,p4,75]
abbrev p5(P:Params):=#v[p4,78,79,80,81,82,83]
abbrev l7(P:Params):=#v[76,77,p5,84]
abbrev l8(P:Params):=#v[85,77,p5,86]
abbrev p6(P:Params):=#v[p5,86]
abbrev l9(P:Params):=#v[87,77,p6,88]
abbrev p7(P:Params):=#v[p1,91,32,33,34,35,36,37,38,39,40,41,42,47,48,49,50,51,52,53,54,55,56,61,62,63,64,65,66,67,68,69,70,71,72,73,74,78,79,80,81,82,83,86,92,93,94,95,96,97,98,99,100,101,102,103,104,105]
abbrev l10(P:Params):=#v[89,90,p7,106]
abbrev p8(P:Params):=#v[p7,106,109,110,111,112,113,114,115,116,117,118,119,120]
abbrev l11(P:Params):=#v[107,108,p8,121]
abbrev l12(P:Params):=#v[122,108,p8,123]
abbrev l13(P:Params):=#v[124,108,p8,125]
abbrev p9(P:Params):=#v[p8,128,129,130,131,132,133,134,135,136,137,138,139,140,141,142,143,144,145,146]
abbrev l14(P:Params):=#v[126,127,p9,147]
abbrev l15(P:Params):=#v[148,149,4,5,6,7,8,9,10,11,12,13,14,15,20,21,22,23,24,25,26,27,91,32,33,34,35,36,37,38,39,40,41,42,47,48,49,50,51,52,53,54,55,56,61,62,63,64,65,66,67,68,69,70,71,72,73,74,78,79,80,81,82,83,86,92,93,94,95,96,97,98,99,100,101,102,103,104,105,106,109,110,111,112,113,114,115,116,117,118,119,120,128,129,130,131,132,133,134,135,136,137,138,139,140,141,142,143,144,145,146,150,151]
abbrev env:Env:={scope:=(pw_basehouse_k60_lines_read).main.scope,locals:=mainNs,globals:=mainNs,cells:=[],code:=Value.ref 13,frame:=some 14}
abbrev G0:List Stmt:=[top 0,top 1,top 2,top 3,top 4,top 5,top 6,top 7,top 8,top 9,top 10,top 11,top 12,top 13,top 14,top 15,top 16,top 17,top 18,top 19,top 20,top 21,top 22,top 23,top 24,top 25,top 26]
abbrev G1:List Stmt:=[top 27,top 28,top 29,top 30,top 31,top 32]
abbrev G2:List Stmt:=[top 33,top 34,top 35,top 36,top 37,top 38,top 39,top 40,top 41,top 42,top 43,top 44,top 45,top 46,top 47,top 48,top 49,top 50,top 51,top 52,top 53]
abbrev G3:List Stmt:=[top 54,top 55,top 56,top 57,top 58,top 59,top 60,top 61,top 62,top 63,top 64,top 65,top 66,top 67,top 68,top 69,top 70,top 71,top 72,top 73]
abbrev G4:List Stmt:=[top 74,top 75,top 76,top 77,top 78,top 79,top 80,top 81,top 82,top 83,top 84,top 85,top 86,top 87,top 88,top 89,top 90,top 91,top 92,top 93,top 94,top 95,top 96,top 97,top 98,top 99,top 100,top 101,top 102,top 103,top 104]
abbrev G5:List Stmt:=[top 105,top 106,top 107,top 108,top 109,top 110,top 111,top 112,top 113,top 114,top 115,top 116]
abbrev G6:List Stmt:=[top 117]
abbrev G7:List Stmt:=[top 118]
abbrev G8:List Stmt:=[top 119,top 120,top 121,top 122,top 123,top 124,top 125,top 126,top 127,top 128,top 129,top 130,top 131,top 132,top 133,top 134,top 135,top 136,top 137,top 138,top 139,top 140,top 141,top 142,top 143,top 144]
abbrev G9:List Stmt:=[top 145,top 146,top 147,top 148,top 149,top 150,top 151,top 152,top 153,top 154,top 155,top 156,top 157,top 158,top 159,top 160,top 161,top 162,top 163,top 164,top 165]
abbrev G10:List Stmt:=[top 166]
abbrev G11:List Stmt:=[top 167]
abbrev G12:List Stmt:=[top 168,top 169,top 170,top 171,top 172,top 173,top 174,top 175,top 176,top 177,top 178,top 179,top 180,top 181,top 182,top 183,top 184,top 185,top 186,top 187,top 188,top 189,top 190,top 191,top 192,top 193,top 194,top 195,top 196,top 197,top 198,top 199,top 200]
abbrev G13:List Stmt:=[top 201,top 202]
abbrev B0:List Stmt:=G0++(G1++(G2++(G3++(G4++(G5++(G6++(G7++(G8++(G9++(G10++(G11++(G12++(G13++([]))))))))))))))
abbrev c0:Code:= .body B0 env
abbrev f0:List Frame:=[topFrame ⟨0,0,0,0⟩]
def L0:World->OsState->Option (Shared×Thread):=λw os=>topGo treeTable pw_basehouse_k60_lines_read w 11 (some (Value.ref 6)) 12 ⟨boot_heap w.params,⟨[]⟩,boot_drawn,boot_toks,os⟩ (topStub pw_basehouse_k60_lines_read)
def M0:World->OsState->Option (Shared×Thread):=λw os=>some (⟨⟨⟨l0 w.params⟩,{}⟩,⟨[]⟩,{},187,os⟩,⟨denote treeTable c0,c0,⟨0,0,0,0⟩,f0⟩)
theorem yL0:((λ_=>true) L0&&(λ_=>true) M0)=true:=by k_qdec
theorem qL0:L0=M0:=qh #v[L0] #v[M0] (by kernel_rfl)
def L1:World->OsState->Option (Flow×Shared×Code×Pos):=λw os=>segRun treeTable pw_basehouse_k60_lines_read w 11 (some (Value.ref 6)) 1 1 ⟨⟨⟨l0 w.params⟩,{}⟩,⟨[]⟩,{},187,os⟩ (blockOf B0 env c0 ⟨0,0,0,0⟩ f0)
def M1:World->OsState->Option (Flow×Shared×Code×Pos):=λw os=>some (.next,(SharedT.mk (mkT 12 (l0 w.params)) 15 {} ⟨[]⟩ {} 187 os).abs,c0,⟨0,0,0,0⟩)
theorem yL1:((λ_=>true) L1&&(λ_=>true) M1)=true:=by k_qdec
theorem qL1:L1=M1:=qh #v[L1] #v[M1] (by kernel_rfl)
def L2:World->OsState->Option (Flow×SharedT×Code×Pos):=λw os=>segRunT treeTable pw_basehouse_k60_lines_read w 11 (some (Value.ref 6)) 1 1090 (SharedT.mk (mkT 12 (l0 w.params)) 15 {} ⟨[]⟩ {} 187 os) (piecesOf G0 env c0 ⟨0,0,0,0⟩ f0)
def M2:World->OsState->Option (Flow×SharedT×Code×Pos):=λw os=>some (.next,(SharedT.mk (mkT 12 (l2 w.params)) 184 {} ⟨[]⟩ {} 416 os),c0,⟨108,0,109,8⟩)
theorem yL2:((λ_=>true) L2&&(λ_=>true) M2)=true:=by k_qdec
theorem qL2:L2=M2:=qh #v[L2] #v[M2] (by kernel_rfl)
def L3:World->OsState->Option (Flow×SharedT×Code×Pos):=λw os=>segRunT treeTable pw_basehouse_k60_lines_read w 11 (some (Value.ref 6)) 1 1183 (SharedT.mk (mkT 12 (l2 w.params)) 184 {} ⟨[]⟩ {} 416 os) (piecesOf G1 env c0 ⟨108,0,109,8⟩ f0)
def M3:World->OsState->Option (Flow×SharedT×Code×Pos):=λw os=>some (.next,(SharedT.mk (mkT 12 (l3 w.params)) 274 {} ⟨[]⟩ {} 539 os),c0,⟨124,0,133,32⟩)
theorem yL3:((λ_=>true) L3&&(λ_=>true) M3)=true:=by k_qdec
theorem qL3:L3=M3:=qh #v[L3] #v[M3] (by kernel_rfl)
def L4:World->OsState->Option (Flow×SharedT×Code×Pos):=λw os=>segRunT treeTable pw_basehouse_k60_lines_read w 11 (some (Value.ref 6)) 1 1013 (SharedT.mk (mkT 12 (l3 w.params)) 274 {} ⟨[]⟩ {} 539 os) (piecesOf G2 env c0 ⟨124,0,133,32⟩ f0)
def M4:World->OsState->Option (Flow×SharedT×Code×Pos):=λw os=>some (.next,(SharedT.mk (mkT 12 (l4 w.params)) 412 {} ⟨[]⟩ {} 716 os),c0,⟨208,0,208,8⟩)
theorem yL4:((λ_=>true) L4&&(λ_=>true) M4)=true:=by k_qdec
theorem qL4:L4=M4:=qh #v[L4] #v[M4] (by kernel_rfl)
def L5:World->OsState->Option (Flow×SharedT×Code×Pos):=λw os=>segRunT treeTable pw_basehouse_k60_lines_read w 11 (some (Value.ref 6)) 1 1160 (SharedT.mk (mkT 12 (l4 w.params)) 412 {} ⟨[]⟩ {} 716 os) (piecesOf G3 env c0 ⟨208,0,208,8⟩ f0)
def M5:World->OsState->Option (Flow×SharedT×Code×Pos):=λw os=>some (.next,(SharedT.mk (mkT 12 (l5 w.params)) 539 {} ⟨[]⟩ {} 903 os),c0,⟨306,0,306,8⟩)
theorem yL5:((λ_=>true) L5&&(λ_=>true) M5)=true:=by k_qdec
theorem qL5:L5=M5:=qh #v[L5] #v[M5] (by kernel_rfl)
def L6:World->OsState->Option (Flow×SharedT×Code×Pos):=λw os=>segRunT treeTable pw_basehouse_k60_lines_read w 11 (some (Value.ref 6)) 1 1184 (SharedT.mk (mkT 12 (l5 w.params)) 539 {} ⟨[]⟩ {} 903 os) (piecesOf G4 env c0 ⟨306,0,306,8⟩ f0)
def M6:World->OsState->Option (Flow×SharedT×Code×Pos):=λw os=>some (.next,(SharedT.mk (mkT 12 (l6 w.params)) 707 {} ⟨[]⟩ {} 1164 os),c0,⟨432,0,438,12⟩)
theorem yL6:((λ_=>true) L6&&(λ_=>true) M6)=true:=by k_qdec
theorem qL6:L6=M6:=qh #v[L6] #v[M6] (by kernel_rfl)
def L7:World->OsState->Option (Flow×SharedT×Code×Pos):=λw os=>segRunT treeTable pw_basehouse_k60_lines_read w 11 (some (Value.ref 6)) 1 333 (SharedT.mk (mkT 12 (l6 w.params)) 707 {} ⟨[]⟩ {} 1164 os) (piecesOf G5 env c0 ⟨432,0,438,12⟩ f0)
def M7:World->OsState->Option (Flow×SharedT×Code×Pos):=λw os=>some (.next,(SharedT.mk (mkT 12 (l7 w.params)) 779 {} ⟨[]⟩ {} 1244 os),c0,⟨481,0,483,40⟩)
theorem yL7:((λ_=>true) L7&&(λ_=>true) M7)=true:=by k_qdec
theorem qL7:L7=M7:=qh #v[L7] #v[M7] (by kernel_rfl)
def L8:World->OsState->Option (Flow×SharedT×Code×Pos):=λw os=>segRunT treeTable pw_basehouse_k60_lines_read w 11 (some (Value.ref 6)) 1 171 (SharedT.mk (mkT 12 (l7 w.params)) 779 {} ⟨[]⟩ {} 1244 os) (piecesOf G6 env c0 ⟨481,0,483,40⟩ f0)
def M8:World->OsState->Option (Flow×SharedT×Code×Pos):=λw os=>some (.next,(SharedT.mk (mkT 12 (l8 w.params)) 780 {} ⟨[]⟩ {} 1265 os),c0,⟨484,0,484,6⟩)
theorem yL8:((λ_=>true) L8&&(λ_=>true) M8)=true:=by k_qdec
theorem qL8f:(λ(w:World) (os:OsState)=>tw7116466485190837356 (w.withFollow "special-get-raises" false) os)=λw os=>tw8127398886225657409 (w.withFollow "special-get-raises" false) os:=by kernel_rfl
theorem qL8t:(λ(w:World) (os:OsState)=>tw7116466485190837356 (w.withFollow "special-get-raises" true) os)=λw os=>tw8127398886225657409 (w.withFollow "special-get-raises" true) os:=by kernel_rfl
theorem qL8:L8=M8:=qh #v[L8] #v[M8] (funext λw=>funext λos=>by have e:=Q9 w "special-get-raises";cases hb:w.params.followText "special-get-raises"<;>rw[hb]at e<;>rw[<-e];exact Oh (Oh qL8f w) os;exact Oh (Oh qL8t w) os)
def L9:World->OsState->Option (Flow×SharedT×Code×Pos):=λw os=>segRunT treeTable pw_basehouse_k60_lines_read w 11 (some (Value.ref 6)) 1 235 (SharedT.mk (mkT 12 (l8 w.params)) 780 {} ⟨[]⟩ {} 1265 os) (piecesOf G7 env c0 ⟨484,0,484,6⟩ f0)
def M9:World->OsState->Option (Flow×SharedT×Code×Pos):=λw os=>some (.next,(SharedT.mk (mkT 12 (l9 w.params)) 781 {} ⟨[]⟩ {} 1294 os),c0,⟨485,0,485,6⟩)
theorem yL9:((λ_=>true) L9&&(λ_=>true) M9)=true:=by k_qdec
theorem qL9f:(λ(w:World) (os:OsState)=>tw16134767483146388640 (w.withFollow "special-get-raises" false) os)=λw os=>tw1028310481701075085 (w.withFollow "special-get-raises" false) os:=by kernel_rfl
theorem qL9t:(λ(w:World) (os:OsState)=>tw16134767483146388640 (w.withFollow "special-get-raises" true) os)=λw os=>tw1028310481701075085 (w.withFollow "special-get-raises" true) os:=by kernel_rfl
theorem qL9:L9=M9:=qh #v[L9] #v[M9] (funext λw=>funext λos=>by have e:=Q9 w "special-get-raises";cases hb:w.params.followText "special-get-raises"<;>rw[hb]at e<;>rw[<-e];exact Oh (Oh qL9f w) os;exact Oh (Oh qL9t w) os)
def L10:World->OsState->Option (Flow×SharedT×Code×Pos):=λw os=>segRunT treeTable pw_basehouse_k60_lines_read w 11 (some (Value.ref 6)) 1 1196 (SharedT.mk (mkT 12 (l9 w.params)) 781 {} ⟨[]⟩ {} 1294 os) (piecesOf G8 env c0 ⟨485,0,485,6⟩ f0)
def M10:World->OsState->Option (Flow×SharedT×Code×Pos):=λw os=>some (.next,(SharedT.mk (mkT 12 (l10 w.params)) 960 {} ⟨[]⟩ {} 1537 os),c0,⟨590,0,591,49⟩)
theorem yL10:((λ_=>true) L10&&(λ_=>true) M10)=true:=by k_qdec
theorem qL10:L10=M10:=qh #v[L10] #v[M10] (by kernel_rfl)
def L11:World->OsState->Option (Flow×SharedT×Code×Pos):=λw os=>segRunT treeTable pw_basehouse_k60_lines_read w 11 (some (Value.ref 6)) 1 626 (SharedT.mk (mkT 12 (l10 w.params)) 960 {} ⟨[]⟩ {} 1537 os) (piecesOf G9 env c0 ⟨590,0,591,49⟩ f0)
def M11:World->OsState->Option (Flow×SharedT×Code×Pos):=λw os=>some (.next,(SharedT.mk (mkT 12 (l11 w.params)) 1105 {} ⟨[]⟩ {} 1702 os),c0,⟨640,0,641,64⟩)
theorem yL11:((λ_=>true) L11&&(λ_=>true) M11)=true:=by k_qdec
theorem qL11:L11=M11:=qh #v[L11] #v[M11] (by kernel_rfl)
def L12:World->OsState->Option (Flow×SharedT×Code×Pos):=λw os=>segRunT treeTable pw_basehouse_k60_lines_read w 11 (some (Value.ref 6)) 1 171 (SharedT.mk (mkT 12 (l11 w.params)) 1105 {} ⟨[]⟩ {} 1702 os) (piecesOf G10 env c0 ⟨640,0,641,64⟩ f0)
def M12:World->OsState->Option (Flow×SharedT×Code×Pos):=λw os=>some (.next,(SharedT.mk (mkT 12 (l12 w.params)) 1106 {} ⟨[]⟩ {} 1723 os),c0,⟨642,0,642,4⟩)
theorem yL12:((λ_=>true) L12&&(λ_=>true) M12)=true:=by k_qdec
theorem qL12f:(λ(w:World) (os:OsState)=>tw15962966748412412817 (w.withFollow "special-get-raises" false) os)=λw os=>tw13323495729323226626 (w.withFollow "special-get-raises" false) os:=by kernel_rfl
theorem qL12t:(λ(w:World) (os:OsState)=>tw15962966748412412817 (w.withFollow "special-get-raises" true) os)=λw os=>tw13323495729323226626 (w.withFollow "special-get-raises" true) os:=by kernel_rfl
theorem qL12:L12=M12:=qh #v[L12] #v[M12] (funext λw=>funext λos=>by have e:=Q9 w "special-get-raises";cases hb:w.params.followText "special-get-raises"<;>rw[hb]at e<;>rw[<-e];exact Oh (Oh qL12f w) os;exact Oh (Oh qL12t w) os)
def L13:World->OsState->Option (Flow×SharedT×Code×Pos):=λw os=>segRunT treeTable pw_basehouse_k60_lines_read w 11 (some (Value.ref 6)) 1 235 (SharedT.mk (mkT 12 (l12 w.params)) 1106 {} ⟨[]⟩ {} 1723 os) (piecesOf G11 env c0 ⟨642,0,642,4⟩ f0)
def M13:World->OsState->Option (Flow×SharedT×Code×Pos):=λw os=>some (.next,(SharedT.mk (mkT 12 (l13 w.params)) 1107 {} ⟨[]⟩ {} 1752 os),c0,⟨643,0,643,4⟩)
theorem yL13:((λ_=>true) L13&&(λ_=>true) M13)=true:=by k_qdec
theorem qL13f:(λ(w:World) (os:OsState)=>tw2890041658171991945 (w.withFollow "special-get-raises" false) os)=λw os=>tw10998199075917429995 (w.withFollow "special-get-raises" false) os:=by kernel_rfl
theorem qL13t:(λ(w:World) (os:OsState)=>tw2890041658171991945 (w.withFollow "special-get-raises" true) os)=λw os=>tw10998199075917429995 (w.withFollow "special-get-raises" true) os:=by kernel_rfl
theorem qL13:L13=M13:=qh #v[L13] #v[M13] (funext λw=>funext λos=>by have e:=Q9 w "special-get-raises";cases hb:w.params.followText "special-get-raises"<;>rw[hb]at e<;>rw[<-e];exact Oh (Oh qL13f w) os;exact Oh (Oh qL13t w) os)
def L14:World->OsState->Option (Flow×SharedT×Code×Pos):=λw os=>segRunT treeTable pw_basehouse_k60_lines_read w 11 (some (Value.ref 6)) 1 1201 (SharedT.mk (mkT 12 (l13 w.params)) 1107 {} ⟨[]⟩ {} 1752 os) (piecesOf G12 env c0 ⟨643,0,643,4⟩ f0)
def M14:World->OsState->Option (Flow×SharedT×Code×Pos):=λw os=>some (.next,(SharedT.mk (mkT 12 (l14 w.params)) 1336 {} ⟨[]⟩ {} 2053 os),c0,⟨892,0,899,74⟩)
theorem yL14:((λ_=>true) L14&&(λ_=>true) M14)=true:=by k_qdec
theorem qL14:L14=M14:=qh #v[L14] #v[M14] (by kernel_rfl)
def L15:World->OsState->Option (Flow×SharedT×Code×Pos):=λw os=>segRunT treeTable pw_basehouse_k60_lines_read w 11 (some (Value.ref 6)) 1 68 (SharedT.mk (mkT 12 (l14 w.params)) 1336 {} ⟨[]⟩ {} 2053 os) (piecesOf G13 env c0 ⟨892,0,899,74⟩ f0)
def M15:World->OsState->Option (Flow×SharedT×Code×Pos):=λw os=>some (.next,(SharedT.mk (mkT 12 (l15 w.params)) 1350 {} ⟨[]⟩ {} 2076 os),c0,⟨905,0,915,15⟩)
theorem yL15:((λ_=>true) L15&&(λ_=>true) M15)=true:=by k_qdec
theorem qL15:L15=M15:=qh #v[L15] #v[M15] (by kernel_rfl)
def L16:World->OsState->Option Shared:=λw os=>topRun treeTable pw_basehouse_k60_lines_read w 11 (some (Value.ref 6)) 2 (SharedT.mk (mkT 12 (l15 w.params)) 1350 {} ⟨[]⟩ {} 2076 os).abs (restOf [] env c0 ⟨905,0,915,15⟩ f0)
def M16:World->OsState->Option Shared:=λw os=>some ⟨⟨⟨l15 w.params⟩,{}⟩,⟨[]⟩,{},2076,os⟩
theorem yL16:((λ_=>true) L16&&(λ_=>true) M16)=true:=by k_qdec
theorem qL16:L16=M16:=qh #v[L16] #v[M16] (by kernel_rfl)
abbrev Hf(P:Params):Heap:=⟨⟨l15 P⟩,{}⟩
abbrev Mn:Nat:=12+(1+(1090+(1183+(1013+(1160+(1184+(333+(171+(235+(1196+(626+(171+(235+(1201+(68+(2))))))))))))))))
theorem rn(w:World)(os:OsState):topRun treeTable pw_basehouse_k60_lines_read w 11 (some (Value.ref 6)) Mn ⟨boot_heap w.params,⟨[]⟩,boot_drawn,boot_toks,os⟩ (topStub pw_basehouse_k60_lines_read)=some ⟨Hf w.params,⟨[]⟩,{},2076,os⟩:=go_top (Oh (Oh qL0 w) os) (piece_block (Oh (Oh qL1 w) os) (Ql (Qm (Oh (Oh qL2 w) os)) (Ql (Qm (Oh (Oh qL3 w) os)) (Ql (Qm (Oh (Oh qL4 w) os)) (Ql (Qm (Oh (Oh qL5 w) os)) (Ql (Qm (Oh (Oh qL6 w) os)) (Ql (Qm (Oh (Oh qL7 w) os)) (Ql (Qm (Oh (Oh qL8 w) os)) (Ql (Qm (Oh (Oh qL9 w) os)) (Ql (Qm (Oh (Oh qL10 w) os)) (Ql (Qm (Oh (Oh qL11 w) os)) (Ql (Qm (Oh (Oh qL12 w) os)) (Ql (Qm (Oh (Oh qL13 w) os)) (Ql (Qm (Oh (Oh qL14 w) os)) (Ql (Qm (Oh (Oh qL15 w) os)) (Oh (Oh qL16 w) os))))))))))))))))
abbrev vw:Program:={(pw_basehouse_k60_lines_read)with main:={(pw_basehouse_k60_lines_read).main with body:=[top 202]}}
abbrev KF:Params->Frag:=λP=>#v[_,(2,boot_o_2 P),(3,o3v14 P),-15,17,-18,20,21,-22,25,26,-27,29,-30,32,33,-34,36,-37,39,40,-41,43,-44,46,47,-48,51,52,-63,65,-66,68,69,-70,72,-73,75,76,-77,80,81,-82,84,-85,87,88,-89,91,-92,94,95,-96,98,-99,101,102,-103,105,-106,108,109,-110,112,-113,115,116,-117,119,-120,122,123,-124,126,-127,129,130,-131,133,-134,136,137,-138,140,-141,143,144,-145,147,-148,150,151,-152,154,-155,157,158,159,-166,(167,o167 P),(168,o168v1),169,172,-179,(180,o180 P),181,184,-191,193,-194,196,197,198,(199,o199 P),200,203,-210,(211,o211 P),212,215,-222,(223,o223 P),224,227,-234,(235,o235 P),236,-246,248,-249,251,252,-260,262,-263,265,266,267,(268,o268 P),(269,o269v4),270,271,274,-281,283,-284,286,287,-288,290,-291,293,294,295,(296,o296 P),297,300,-307,309,-310,312,313,-314,317,318,319,(320,o320 P),321,-324,326,-327,329,330,-336,339,340,-341,344,345,-373,375,-376,378,379,-380,383,384,-385,387,-388,390,391,-392,395,396,-397,400,401,-402,405,406,(434,o434 P),435,(460,o460 P),461,(486,o486 P),487,-512,515,516,-517,519,-520,522,523,-524,527,528,-529,532,533,-534,537,538,(561,o561 P),562,-623,626,627,-628,631,632,638,-646,648,-649,651,652,653,(654,o654 P),655,656,657,-660,662,-663,665,666,-667,670,671,-672,674,-675,677,678,-679,681,-682,684,685,-686,688,-689,691,692,-693,695,-696,698,699,-700,702,-703,705,706,-707,709,-710,712,713,-714,717,718,-719,721,-722,724,725,-726,729,730,-731,734,735,-736,739,740,-741,743,-744,746,747,-748,751,752,-753,755,-756,758,759,-760,763,764,-765,767,-768,770,771,-772,774,-775,777,778,(779,o779 P),(780,o780 P),-781,783,-784,786,787,-788,790,-791,793,794,-795,797,-798,800,801,-802,805,806,807,-814,817,818,-819,821,-822,824,825,-826,828,-829,831,832,(834,o834 P),835,869,882,-889,892,893,-894,897,898,(900,o900 P),901,-925,927,-928,930,931,-932,934,-935,937,938,-939,941,-942,944,945,-946,948,-949,951,952,-953,955,-956,958,959,-960,962,-963,965,966,-967,969,-970,972,973,-974,976,-977,979,980,-981,983,-984,986,987,-988,990,-991,993,994,(1105,o1105 P),(1106,o1106 P),-1107,1109,-1110,1112,1113,-1128,1130,-1131,1133,1134,-1135,1137,-1138,1140,1141,-1142,1145,1146,1147,(1148,o1148 P),1149,1150,1151,-1154,1156,-1157,1159,1160,-1161,1163,-1164,1166,1167,-1168,1170,-1171,1173,1174,-1175,1178,1179,-1180,1182,-1183,1185,1186,-1187,1189,-1190,1192,1193,-1194,1196,-1197,1199,1200,-1201,1203,-1204,1206,1207,-1208,1210,-1211,1213,1214,-1215,1217,-1218,1220,1221,-1222,1224,-1225,1227,1228,-1229,1231,-1232,1234,1235,-1236,1238,-1239,1241,1242,-1243,1246,1247,-1248,1250,-1251,1253,1254,-1255,1257,-1258,1260,1261,-1262,1264,-1265,1267,1268,-1269,1272,1273,-1274,1277,1278,-1279,1282,1283,-1284,1286,-1287,1289,1290,-1291,1293,-1294,1296,1297,-1298,1301,1302,-1303,1305,-1306,1308,1309,-1310,1312,-1313,1315,1316,-1317,1319,-1320,1322,1323,-1324,1326,-1327,1329,1330,-1331,1334,1335,-1336,1338,-1339,1341,1342,-1343,1345,-1346,1348,1349]
abbrev aL:List Addr:=(KF {strHash:=λ_=>0,shareClass:=λ_=>0,mergeTok:=id,idOf:=λ_=>0,idOfShared:=λ_ _=>0,followText:=λ_=>true,idOfImm:=λ_=>0}).map (·.1)
theorem eK(P:Params):aL=(KF P).map (·.1):=by kernel_rfl
abbrev HK:Hook:=kHook KF aL eK
abbrev lsN:List Str:=((pw_basehouse_k60_lines_read.main.scope.names.filter λx=>x.2== .local).map (·.1)).tail.dropLast
abbrev rw0:RowW:=OpenRow.toRowW (OpenLaw.row rw_basehouse_k60_lines_read)
abbrev Xt(s:Shared):Bool:=xlAt vw [] s&&recOk (RowW.records rw0) s
def Lz:World->OsState->Bool×Nat×Option Value:=λw os=>((boot_heap w.params).isNs mainGlobals&&(⟨[]⟩:Array GenState).size==0,(boot_heap w.params).objs.size,(boot_heap w.params).nsMap mainGlobals "__annotations__")
def Mz:World->OsState->Bool×Nat×Option Value:=λw os=>(true,11,(some (Value.ref 6)))
theorem yLz:((λ_=>true) Lz&&(λ_=>true) Mz)=true:=by k_qdec
theorem qLz:Lz=Mz:=Eq.trans #v[Lz] (by kernel_rfl:tw17831390912981975158=Mz)
def Ll:=λ(w:World) (os:OsState)=>((staticsOk (importedModules (pw_basehouse_k60_lines_read).main.body) (boot_heap w.params) (Hf w.params)&&namesBound pw_basehouse_k60_lines_read (Hf w.params)&&gensDone ⟨Hf w.params,⟨[]⟩,{},2076,os⟩&&laidKept (boot_heap w.params) (Hf w.params)),openSeen vw lsN (importedModules (pw_basehouse_k60_lines_read).main.body) Xt true ⟨Hf w.params,⟨[]⟩,{},2076,os⟩,aL.map (Hf w.params).get?)
def Ml:=λ(w:World) (_:OsState)=>(true,openGood vw lsN,(KF w.params).map λp=>some p.2)
theorem yLl:((λ_=>true) Ll&&(λ_=>true) Ml)=true:=by k_qdec
abbrev tL:=tw17448342430068451512
abbrev tv:=tw7000725165481098050
theorem ck{α β:Type}{l:List β}{m:List α}{f:α->β}(i n:Nat)(h:(l.drop i).take n=((m.drop i).take n).map f)(k:l.drop (i+n)=(m.drop (i+n)).map f):l.drop i=(m.drop i).map f:=by rw[<-QC n (l.drop i),h,Tf,k,<-O1,<-Tf,QC]
theorem x0:(λw os=>(tL w os).1)=λw _=>true:=by kernel_rfl
theorem x1:(λw os=>(tL w os).2.1.1)=λw _=>expectedOf tv:=by kernel_rfl
theorem x2:(λw os=>(tL w os).2.1.2.1)=λw _=>bltViewBooted:=by kernel_rfl
theorem x3:(λw os=>(tL w os).2.1.2.2.1)=λw _=>true:=by kernel_rfl
theorem x4:(λw os=>(tL w os).2.1.2.2.2.1)=λw _=>true:=by kernel_rfl
theorem x5:(λw os=>(tL w os).2.1.2.2.2.2.1)=λw _=>pinGoodD (drecsOf tv):=by kernel_rfl
theorem x6:(λw os=>(tL w os).2.1.2.2.2.2.2.1)=λw _=>plainGoodE tv (looseW tv lsN):=by kernel_rfl
theorem x7:(λw os=>(tL w os).2.1.2.2.2.2.2.2.1)=λw _=>plainGoodD tv lsN:=by kernel_rfl
theorem x8:(λw os=>(tL w os).2.1.2.2.2.2.2.2.2.1)=λw _=>wideGood tv:=by kernel_rfl
theorem x9:(λw os=>(tL w os).2.1.2.2.2.2.2.2.2.2)=λw _=>clsGoodW tv lsN:=by kernel_rfl
theorem x10_0:(λw os=>((tL w os).2.2.drop 0).take 150)=λw _=>((((KF w.params).drop 0).take 150).map λp=>some p.2):=by kernel_rfl
theorem x10_1:(λw os=>((tL w os).2.2.drop 150).take 150)=λw _=>((((KF w.params).drop 150).take 150).map λp=>some p.2):=by kernel_rfl
theorem x10_2:(λw os=>((tL w os).2.2.drop 300).take 150)=λw _=>((((KF w.params).drop 300).take 150).map λp=>some p.2):=by kernel_rfl
theorem x10_3:(λw os=>((tL w os).2.2.drop 450))=λw _=>((((KF w.params).drop 450)).map λp=>some p.2):=by kernel_rfl
theorem x10:(λw os=>(tL w os).2.2)=λw _=>(KF w.params).map λp=>some p.2:=funext λw=>funext λos=>ck 0 150 (Oh (Oh x10_0 w) os) (ck 150 150 (Oh (Oh x10_1 w) os) (ck 300 150 (Oh (Oh x10_2 w) os) (Oh (Oh x10_3 w) os)))
theorem xx{A B C D E F G H I J K:Type}{x:A× (B×C×D×E×F×G×H×I×J)×K}{a b c d e f g h i j k}(y0:x.1=a)(y1:x.2.1.1=b)(y2:x.2.1.2.1=c)(y3:x.2.1.2.2.1=d)(y4:x.2.1.2.2.2.1=e)(y5:x.2.1.2.2.2.2.1=f)(y6:x.2.1.2.2.2.2.2.1=g)(y7:x.2.1.2.2.2.2.2.2.1=h)(y8:x.2.1.2.2.2.2.2.2.2.1=i)(y9:x.2.1.2.2.2.2.2.2.2.2=j)(y10:x.2.2=k):x=(a,(b,c,d,e,f,g,h,i,j),k):=by obtain⟨_,⟨_,_,_,_,_,_,_,_,_⟩,_⟩:=x;cases y0;cases y1;cases y2;cases y3;cases y4;cases y5;cases y6;cases y7;cases y8;cases y9;cases y10;rfl
theorem qLl:Ll=Ml:=qh #v[Ll] #v[Ml] (funext λw=>funext λos=>xx (Oh (Oh x0 w) os) (Oh (Oh x1 w) os) (Oh (Oh x2 w) os) (Oh (Oh x3 w) os) (Oh (Oh x4 w) os) (Oh (Oh x5 w) os) (Oh (Oh x6 w) os) (Oh (Oh x7 w) os) (Oh (Oh x8 w) os) (Oh (Oh x9 w) os) (Oh (Oh x10 w) os))
theorem hl:LeftO pw_basehouse_k60_lines_read vw lsN Xt HK.obs HK.val 19830:=LeftO.of_pieces (m₀:=11) (ann:=(some (Value.ref 6))) (boot_open (by kernel_rfl) (by decide) (λs=>by kernel_rfl)) (λw=>Oh (Oh qLz w) default) rn (by decide+kernel) (λw=>Oh qLl w)
end
end Hd
open PySem PySem.W PyProof.Rows
set_option maxRecDepth 100000 in
set_option maxHeartbeats 0 in
theorem PySem.Challenge.cw_basehouse_k60_lines_read_holds : PySem.Challenge.rw_basehouse_k60_lines_read.Holds := by
 w_on;o_law
 refine holds_open (q:=Hd.vw) (loose:=Hd.lsN) (Xt:=Hd.Xt) (XP:=XL Hd.vw []) (Yf:=Hd.HK.obs) (Ya:=Hd.HK.val) (YP:=(kHook Hd.KF Hd.aL Hd.eK).says) (N:=19830) Hd.hl Hd.HK.of Hd.HK.keeps (λs e=>xl_of s (Bool.and_eq_true_iff.mp e).1) XL.keeps (by rfl) (by rfl) (by rfl) (λs e=>recFacts_of (Bool.and_eq_true_iff.mp e).2) (by rfl) (by first|assumption|decide+kernel) (by decide+kernel) ⟨rfl,rfl,rfl,rfl,rfl,by decide+kernel⟩ ?hw ?hc
 (case hw=>w_witness2)
 k_fill
 refine BhK.walk (l:=PySem.Challenge.rw_basehouse_k60_lines_read) rfl rfl (λw h Y=>PySem.W.kIn_of Y) ?F
 case F=>
  intro w mg fa h KX G hmg
  refine' BhK.all_mk (BhK.Cs.mk ?_ ?_ ?_ ?_ ?_ ?_ ?_ ?_ ?_ ?_ ?_ ?_ ?_ ?_ ?_ ?_ ?_ ?_ ?_ ?_ ?_ ?_ ?_ ?_ ?_ ?_ ?_ ?_ ?_ ?_) KX G hmg
  all_goals try (repeat' (first|exact Og|refine' And.intro ?_ ?_))
  all_goals try dsimp only
  all_goals try first|k_is|kit_is|kts_exm|kernel_rfl|decide|(refine' L2.D8.mk (L2.we.mk ?_ ?_ ?_ ?_ ?_ ?_) ?_ ?_<;>first|k_is|kernel_rfl)|(refine' L2.HG.mk ?_ ?_ ?_<;>k_is)|(refine' BhK.HC.mk (L2.Cls.mk ?_ ?_ ?_ ?_) ?_ ?_<;>try k_is)|(refine' BhK.HM.mk ?_ ?_ ?_ ?_ ?_<;>try k_is)|(refine' BhK.HD.mk ?_ ?_ ?_ ?_<;>try k_is)|(refine' BhK.yr.mk (L2.we.mk ?_ ?_ ?_ ?_ ?_ ?_) ?_ ?_ ?_ ?_ ?_ ?_<;>first|k_is|kit_is|kernel_rfl)|(refine' λH=>BhK.KG ?_ ?_ H;k_is;kernel_rfl)|(refine' λP=>L2.Dy ?_ ?_ (by decide+kernel) rfl;k_is;show L2.JG _ _ _;repeat' (first|exact Og|refine' And.intro ⟨_,rfl⟩ ?_))
